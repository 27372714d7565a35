/- Texts of one proof, one behind the other: PkFld, PkFrame, PkMath, PkBack, PkLen, PkFew, PkActs, PkShort. -/
import Derived.Test.YtamgnbjdeoklbaaProg
import Derived.Test.YtamgnbjdeoklbaaUpMath
import Derived.Test.YtamgnbjdeoklbaaBytes
import Derived.Test.YtamgnbjdeoklbaaPfMath
import Derived.Test.YtamgnbjdeoklbaaHfMath
import Derived.Test.YtamgnbjdeoklbaaTbMath
import Derived.Test.YtamgnbjdeoklbaaTbFix
import Derived.Test.YtamgnbjdeoklbaaTbAt
import Derived.Deep.Slices
import Derived.Deep.Fields
import Derived.ChangeSame
import Derived.ChangeArms
import Derived.ProofKit
import Derived.OpenShut
import Derived.WalkKit
import Derived.Lib.Hide
import Derived.Below
import Derived.ChangeOld
import Derived.Outline
import Derived.IntWalk
import Derived.WalkSpells
import Derived.WalkLawsBesides
import Derived.Deep.QuietTactic
import Derived.BigQuiet

/- Fields that came in: a slice of them, nil or at an address. No condition. -/
namespace Go.Proofs.Ytamgnbjdeoklbaa
open Go.ChangeShapes Go.WideShapes Go.Deep Go.RowKit Tb Up

namespace Pk
section
variable {H : Type} {enc : TypeId × Value → H} {P : Program} {w : World} {base : Nat} {spare : Nat → Bool} {held : Bool}
theorem open_slice_flds {t e : TypeId} {fs : Array Field} {fuel : Nat} {cs : List Value} {x : DataW H × List MemPlace} (ht : P.underlying t = some (.slice e)) (he : P.underlying e = some (.struct fs))
    (hone : oneCellFields P fs = true) (hC : P.cellsOf e = fs.size) (h : DataW.trod enc P w base spare held fuel t cs = some x) :
    cs = [.slice none 0 0] ∨
    ∃ (a : Addr) (len cap m : Nat), cs = [.slice (some a) len cap] ∧ len ≤ m ∧ len ≤ maxLen ∧
      ∀ i, i < m → ∃ (n : Nat), ∀ (j : Nat) (f : Field), fs[j]? = some f → ∃ (v : Value) (y : DataW H × List MemPlace), w.cell? (a.add (i * fs.size + j)) = some v ∧ DataW.trod enc P w base spare held n f.type [v] = some y := by
  rcases open_slice ht h with h0 | ⟨a, len, cap, m, n, D, Pl, hcs, hb, hl, hm, hmm, hx, hi⟩
  · exact .inl h0.1
  · refine .inr ⟨a, len, cap, m, hcs, by rw [hmm]; split <;> omega, by omega, fun i him => ?_⟩
    obtain ⟨cs', hc, ht'⟩ := hi i him
    rw [hC] at hc
    obtain ⟨ys, n', hn', hy, hlen, hyl, hf⟩ := DataW.trod_struct he ht'
    obtain ⟨_, hcl, hat⟩ := World.cells?_some hc
    refine ⟨n', fun j f hj => ?_⟩
    obtain ⟨ho, hk⟩ := hone_of hone j f hj
    have hjl : j < fs.size := (Array.getElem?_eq_some_iff.1 hj).1
    have hcell := hat j hjl
    have hv : cs'[j]? = some (cs'[j]'(by omega)) := List.getElem?_eq_getElem (by omega)
    have h1 := hf j f hj
    rw [ho, hk] at h1
    have hone' : (cs'.drop j).take 1 = [cs'[j]'(by omega)] := by
      rw [List.drop_eq_getElem_cons (by omega)]
      rfl
    rw [hone'] at h1
    have hys : ys[j]? = some (ys[j]'(by omega)) := List.getElem?_eq_getElem (by omega)
    refine ⟨_, _, ?_, h1.trans hys⟩
    rw [← Go.Deep.add_add, hcell, hv]
end
def fldAt (L : List Fld) (k : Nat) : Fld := L.getD k ⟨⟨#[]⟩, ⟨#[]⟩, false⟩
/-- A slice of fields, below a block. -/
def RdF (w : World) (B : Nat) (a : Option Addr) (L : List Fld) : Prop :=
  ∀ k, k < L.length → ∃ (b off : Nat), a = some ⟨b, off, none⟩ ∧ b < B ∧ w.cell? ⟨b, off + k * 3, none⟩ = some (.string (fldAt L k).name) ∧ w.cell? ⟨b, off + k * 3 + 1, none⟩ = some (.string (fldAt L k).val) ∧ w.cell? ⟨b, off + k * 3 + 2, none⟩ = some (.bool (fldAt L k).never) ∧
    (fldAt L k).name.size ≤ maxLen ∧ (fldAt L k).val.size ≤ maxLen
theorem RdF.on {w w' : World} {B B' : Nat} {a : Option Addr} {L : List Fld} (h : RdF w B a L) (hb : Below B w w') (hB : B ≤ B') : RdF w' B' a L := fun k hk => by
  obtain ⟨b, off, e, hlt, c0, c1, c2, r⟩ := h k hk
  exact ⟨b, off, e, by omega, (hb.cell (p := ⟨b, off + k * 3, none⟩) hlt).trans c0, (hb.cell (p := ⟨b, off + k * 3 + 1, none⟩) hlt).trans c1, (hb.cell (p := ⟨b, off + k * 3 + 2, none⟩) hlt).trans c2, r⟩
theorem fldAt_drop {L : List Fld} {k : Nat} (h : k < L.length) : L.drop k = fldAt L k :: L.drop (k + 1) := by
  unfold fldAt
  rw [List.drop_eq_getElem_cons h, List.getD_eq_getElem?_getD, List.getElem?_eq_getElem h]
  rfl
theorem fldAt_mem {L : List Fld} {k : Nat} (h : k < L.length) : fldAt L k ∈ L := by
  unfold fldAt
  rw [List.getD_eq_getElem?_getD, List.getElem?_eq_getElem h]
  exact List.getElem_mem h
theorem rdf_of_trod {H : Type} {enc : TypeId × Value → H} {w : World} {base : Nat} {spare : Nat → Bool} {held : Bool} {fuel : Nat} {a : Option Addr} {len cap : Nat} {x : DataW H × List MemPlace}
    (h : DataW.trod enc Try.prog w base spare held fuel 30 [.slice a len cap] = some x) : len ≤ maxLen ∧ ∃ L : List Fld, L.length = len ∧ RdF w w.heap.size a L := by
  rcases open_slice_flds Try.underlying30 Try.underlying45 (by kernel_rfl) (by kernel_rfl) h with hcs | ⟨ad, l, c, m, hcs, hm, hmx, hf⟩
  · simp at hcs
    obtain ⟨rfl, rfl, rfl⟩ := hcs
    exact ⟨Nat.zero_le _, [], rfl, fun k hk => absurd hk (Nat.not_lt_zero k)⟩
  · simp at hcs
    obtain ⟨rfl, rfl, rfl⟩ := hcs
    refine ⟨hmx, ?_⟩
    have one : ∀ j, j < len → ∃ (e : Fld) (b off : Nat), ad = ⟨b, off, none⟩ ∧ b < w.heap.size ∧ w.cell? ⟨b, off + j * 3, none⟩ = some (.string e.name) ∧ w.cell? ⟨b, off + j * 3 + 1, none⟩ = some (.string e.val) ∧ w.cell? ⟨b, off + j * 3 + 2, none⟩ = some (.bool e.never) ∧ e.name.size ≤ maxLen ∧ e.val.size ≤ maxLen := fun j hj => by
      obtain ⟨n, hfj⟩ := hf j (by omega)
      obtain ⟨v0, y0, hc0, ht0⟩ := hfj 0 _ rfl
      obtain ⟨v1, y1, hc1, ht1⟩ := hfj 1 _ rfl
      obtain ⟨v2, y2, hc2, ht2⟩ := hfj 2 _ rfl
      obtain ⟨s0, hs0, _, hw0⟩ := DataW.trod_string Try.underlying9 ht0
      obtain ⟨s1, hs1, _, hw1⟩ := DataW.trod_string Try.underlying9 ht1
      obtain ⟨nn, hn, _⟩ := DataW.trod_bool Try.underlying4 ht2
      simp at hs0 hs1 hn
      subst hs0 hs1 hn
      obtain ⟨b, off, spot⟩ := ad
      obtain ⟨n', hf0⟩ := hf 0 (by omega)
      obtain ⟨u0, z0, hu0, _⟩ := hf0 0 _ rfl
      have hspot : spot = none := by simpa [Addr.add] using World.cell?_spot hu0
      clear hu0
      subst hspot
      rw [add_plain] at hc0 hc1 hc2
      refine ⟨⟨s0, s1, nn⟩, b, off, rfl, World.block_lt_of_cell? _ _ hc0, ?_, ?_, ?_, ?_, ?_⟩
      · simpa using hc0
      · simpa [Nat.add_assoc] using hc1
      · simpa [Nat.add_assoc] using hc2
      · exact hw0
      · exact hw1
    obtain ⟨f, hf2⟩ : ∃ f : Nat → Fld, ∀ j, j < len → ∃ (b off : Nat), ad = ⟨b, off, none⟩ ∧ b < w.heap.size ∧ w.cell? ⟨b, off + j * 3, none⟩ = some (.string (f j).name) ∧ w.cell? ⟨b, off + j * 3 + 1, none⟩ = some (.string (f j).val) ∧ w.cell? ⟨b, off + j * 3 + 2, none⟩ = some (.bool (f j).never) ∧ (f j).name.size ≤ maxLen ∧ (f j).val.size ≤ maxLen := by
      classical
      exact ⟨fun j => if h : j < len then (one j h).choose else ⟨⟨#[]⟩, ⟨#[]⟩, false⟩, fun j hj => by simp only [hj, dif_pos]; exact (one j hj).choose_spec⟩
    refine ⟨(List.range len).map f, by rw [List.length_map, List.length_range], fun k hk => ?_⟩
    rw [List.length_map, List.length_range] at hk
    have e : fldAt ((List.range len).map f) k = f k := by
      unfold fldAt
      rw [List.getD_eq_getElem?_getD, List.getElem?_map, List.getElem?_range hk]
      rfl
    rw [e]
    obtain ⟨b, off, h0, r⟩ := hf2 k hk
    exact ⟨b, off, by rw [h0], r⟩
end Pk
end Go.Proofs.Ytamgnbjdeoklbaa

/- A field that came in. No condition. -/
namespace Go.Proofs.Ytamgnbjdeoklbaa
open Go.ChangeShapes Go.WideShapes Go.ChangeAt Go.RowKit Up

namespace Pk
set_option maxRecDepth 100000 in
theorem came_fld {H : Type} {enc : TypeId × Value → H} {w : World} {base : Nat} {spare : Nat → Bool} {held : Bool} {r : Reach} {b0 : Nat} {v : Value} {d : DataW H} {p : List MemPlace}
    (hv : Value.okWide Try.prog w r b0 45 v) (h : DataW.Trod enc Try.prog w base spare held 45 v d p) :
    ∃ x : Fld, v = .agg #[.string x.name, .string x.val, .bool x.never] ∧ x.name.size ≤ maxLen ∧ x.val.size ≤ maxLen := by
  obtain ⟨cs, rfl, hsz⟩ := okWide_struct Try.underlying45 hv
  obtain ⟨lst⟩ := cs
  match lst, hsz.trans (show Try.prog.cellsOf 45 = 3 by kernel_rfl) with
  | [a0, a1, a2], _ =>
    obtain ⟨fuel, hf⟩ := h
    obtain ⟨xs, n, _, hx, _, hlen, hg⟩ := DataW.trod_struct Try.underlying45 hf
    match xs, hlen with
    | [y0, y1, y2], _ =>
      have cs1 : Try.prog.cellsOf 9 = 1 := by kernel_rfl
      have cs2 : Try.prog.cellsOf 4 = 1 := by kernel_rfl
      have g0 : DataW.trod enc Try.prog w base spare held n 9 [a0] = some y0 := by simpa [Value.cells, cs1] using hg 0 _ rfl
      have g1 : DataW.trod enc Try.prog w base spare held n 9 [a1] = some y1 := by simpa [Value.cells, cs1] using hg 1 _ rfl
      have g2 : DataW.trod enc Try.prog w base spare held n 4 [a2] = some y2 := by simpa [Value.cells, cs2] using hg 2 _ rfl
      obtain ⟨x, e0, _, h0⟩ := DataW.trod_string Try.underlying9 g0
      obtain ⟨z, e1, _, h1⟩ := DataW.trod_string Try.underlying9 g1
      obtain ⟨q, e2, _⟩ := DataW.trod_bool Try.underlying4 g2
      injection e0 with e0
      injection e1 with e1
      injection e2 with e2
      subst e0 e1 e2
      exact ⟨⟨x, z, q⟩, rfl, h0, h1⟩
end Pk
end Go.Proofs.Ytamgnbjdeoklbaa

/- Header blocks as they are sent, as mathematics: how a text is laid, a field, all fields; what is laid is read. No program but for what an entry is. -/
namespace Go.Proofs.Ytamgnbjdeoklbaa.Pk
open Go.RowKit Bytes Pf Tb Up

/-- A text, laid. -/
def layT (l : List UInt8) : List UInt8 := if (Hf.enc l).length < l.length then putL 127 128 (Hf.enc l).length ++ Hf.enc l else putL 127 0 l.length ++ l
/-- A field by texts: its index, the name if that is 0, the value. -/
def layF (f first n : Nat) (x : Fld) : List UInt8 := putL f first n ++ ((if n = 0 then layT x.name.data.toList else []) ++ layT x.val.data.toList)
/-- A field, laid by a table: the bytes, the table behind it. -/
def one (t : Tab) (x : Fld) : List UInt8 × Tab :=
  if x.never = true then (layF 15 16 (findT x.name x.val (fixedT ++ t.2)).1 x, t)
  else if (findT x.name x.val (fixedT ++ t.2)).2 = true then (putL 127 128 (findT x.name x.val (fixedT ++ t.2)).1, t)
  else if sz (x.name, x.val) ≤ t.1 then (layF 63 64 (findT x.name x.val (fixedT ++ t.2)).1 x, addT t (x.name, x.val))
  else (layF 15 0 (findT x.name x.val (fixedT ++ t.2)).1 x, t)
def all (t : Tab) : List Fld → List UInt8 × Tab
  | [] => ([], t)
  | x :: L => ((one t x).1 ++ (all (one t x).2 L).1, (all (one t x).2 L).2)
/-- An encoder: its table; the sizes since the last block. -/
abbrev Enc := Tab × List Nat
def leastS (c : Enc) : Nat := c.2.foldl min c.1.1
def lim (c : Enc) (n : Nat) : Enc := if min n 4096 = c.1.1 then c else (resT c.1 (min n 4096 : Nat), c.2 ++ [min n 4096])
def heads (c : Enc) : List UInt8 := (if leastS c < c.1.1 then putL 31 32 (leastS c) else []) ++ (if c.2 = [] then [] else putL 31 32 c.1.1)
def wrote (c : Enc) (L : List Fld) : List UInt8 := heads c ++ (all c.1 L).1
def behind (c : Enc) (L : List Fld) : Enc := ((all c.1 L).2, [])

theorem num_put {f first n : Nat} (A B : List UInt8) (k : Int) (hk : fullN k = f) (h : first < 256) (hn : n ≤ 4294967295) : num (A ++ putL f first n ++ B) A.length k = .ok (n, A.length + (putL f first n).length) := by
  have hf : isF f := by rw [← hk]; exact fullN_is k
  unfold num
  rw [hk, get_back A B hf h hn, List.length_append]
  rfl
theorem full7 : fullN 7 = 127 := by decide
theorem full6 : fullN 6 = 63 := by decide
theorem full5 : fullN 5 = 31 := by decide
theorem full4 : fullN 4 = 15 := by decide
/-- The first byte of what is put. -/
theorem head_put {f first n : Nat} (hf : isF f) (h : first < 256) (A B : List UInt8) : ∃ j, j ≤ f ∧ byteAt (A ++ putL f first n ++ B) A.length = first / (f + 1) * (f + 1) + j ∧ first / (f + 1) * (f + 1) + j < 256 := by
  have key : ∀ m, m ≤ f → ∀ r : List UInt8, byteAt (A ++ (UInt8.ofNat (first / (f + 1) * (f + 1) + m) :: r) ++ B) A.length = first / (f + 1) * (f + 1) + m ∧ first / (f + 1) * (f + 1) + m < 256 := fun m hm r => by
    have hb := (first_mod (n := m) hf h hm).2
    unfold byteAt
    rw [List.append_assoc, List.getD_eq_getElem?_getD, List.getElem?_append_right (Nat.le_refl _), Nat.sub_self]
    exact ⟨nat_of hb, hb⟩
  unfold putL
  split
  · rename_i hlt
    exact ⟨n, by omega, key n (by omega) []⟩
  · exact ⟨f, Nat.le_refl _, key f (Nat.le_refl _) _⟩
theorem size_mk (l : List UInt8) : (mk l).size = l.length := mk_size l
theorem list_mk (l : List UInt8) : (mk l).data.toList = l := mk_list l
theorem ext_mid (A X B : List UInt8) : (mk (A ++ X ++ B)).extract A.length (A.length + X.length) = mk X := by
  refine list_inj ?_
  rw [extract_list, list_mk, list_mk, ← List.length_append, List.take_left, List.drop_left]
theorem enc_nil_len (l : List UInt8) (h : l.length ≤ 1000000) : (Hf.enc l).length ≤ 4294967295 := by
  have h1 := Hf.enc_len l
  have h2 := (Hf.encB_len l).2
  omega
/-- A text that was laid is read. -/
theorem txt_lay (A B l : List UInt8) (h : l.length ≤ 1000000) : txt (mk (A ++ layT l ++ B)) A.length = .ok (mk l, A.length + (layT l).length) := by
  unfold layT
  split
  · rename_i hlt
    have hn := num_put A (Hf.enc l ++ B) 7 full7 (show 128 < 256 by decide) (enc_nil_len l h)
    obtain ⟨j, hj, hb, _⟩ := head_put (f := 127) (first := 128) (n := (Hf.enc l).length) (by unfold isF; omega) (by decide) A (Hf.enc l ++ B)
    have e : A ++ (putL 127 128 (Hf.enc l).length ++ Hf.enc l) ++ B = A ++ putL 127 128 (Hf.enc l).length ++ (Hf.enc l ++ B) := by simp [List.append_assoc]
    have ex := ext_mid (A ++ putL 127 128 (Hf.enc l).length) (Hf.enc l) B
    rw [List.length_append] at ex
    unfold txt
    rw [e, list_mk, hn]
    simp only
    rw [size_mk, if_pos (by simp only [List.length_append]; omega), if_neg (by rw [hb]; omega)]
    rw [show A ++ putL 127 128 (Hf.enc l).length ++ (Hf.enc l ++ B) = A ++ putL 127 128 (Hf.enc l).length ++ Hf.enc l ++ B by simp [List.append_assoc], ex]
    unfold unp
    rw [list_mk, Hf.decode_enc, List.length_append, Nat.add_assoc]
    rfl
  · have hn := num_put A (l ++ B) 7 full7 (show 0 < 256 by decide) (show l.length ≤ 4294967295 by omega)
    obtain ⟨j, hj, hb, _⟩ := head_put (f := 127) (first := 0) (n := l.length) (by unfold isF; omega) (by decide) A (l ++ B)
    have e : A ++ (putL 127 0 l.length ++ l) ++ B = A ++ putL 127 0 l.length ++ (l ++ B) := by simp [List.append_assoc]
    have ex := ext_mid (A ++ putL 127 0 l.length) l B
    rw [List.length_append] at ex
    unfold txt
    rw [e, list_mk, hn]
    simp only
    rw [size_mk, if_pos (by simp only [List.length_append]; omega), if_pos (by rw [hb]; omega)]
    rw [show A ++ putL 127 0 l.length ++ (l ++ B) = A ++ putL 127 0 l.length ++ l ++ B by simp [List.append_assoc], ex, List.length_append, Nat.add_assoc]
/-- What is found stands there. -/
theorem findW_at {n v : ByteArray} : ∀ {l : List Ent} {i k : Nat}, findW n v l i = some k → i < k ∧ k ≤ i + l.length ∧ entAt l (k - i - 1) = (n, v)
  | [], i, k, h => by rw [findW] at h; cases h
  | e :: l, i, k, h => by
    rw [findW] at h
    split at h
    · rename_i he
      injection h with h
      subst h
      rw [List.length_cons, show i + 1 - i - 1 = 0 by omega]
      refine ⟨by omega, by omega, ?_⟩
      show e = (n, v)
      rw [← he.1, ← he.2]
    · obtain ⟨h1, h2, h3⟩ := findW_at h
      rw [List.length_cons]
      refine ⟨by omega, by omega, ?_⟩
      rw [show k - i - 1 = k - (i + 1) - 1 + 1 by omega, entAt_cons]
      exact h3
theorem findN_at {n : ByteArray} : ∀ {l : List Ent} {i k : Nat}, findN n l i = some k → i < k ∧ k ≤ i + l.length ∧ (entAt l (k - i - 1)).1 = n
  | [], i, k, h => by rw [findN] at h; cases h
  | e :: l, i, k, h => by
    rw [findN] at h
    split at h
    · rename_i he
      injection h with h
      subst h
      rw [List.length_cons, show i + 1 - i - 1 = 0 by omega]
      exact ⟨by omega, by omega, he⟩
    · obtain ⟨h1, h2, h3⟩ := findN_at h
      rw [List.length_cons]
      refine ⟨by omega, by omega, ?_⟩
      rw [show k - i - 1 = k - (i + 1) - 1 + 1 by omega, entAt_cons]
      exact h3
theorem atR_in {l : List Ent} {k : Nat} (h1 : 1 ≤ k) (h2 : k ≤ l.length) : atR l (k : Int) = (entAt l (k - 1), true) := by
  unfold atR
  rw [if_neg (by omega), Int.toNat_natCast]
theorem find_whole {n v : ByteArray} {l : List Ent} {k : Nat} (h : findT n v l = (k, true)) : 1 ≤ k ∧ k ≤ l.length ∧ atR l (k : Int) = ((n, v), true) := by
  unfold findT at h
  split at h
  · rename_i k' hk
    injection h with h _
    subst h
    obtain ⟨h1, h2, h3⟩ := findW_at hk
    rw [Nat.zero_add] at h2
    rw [Nat.sub_zero] at h3
    exact ⟨by omega, h2, by rw [atR_in (by omega) h2, h3]⟩
  · split at h
    · injection h with _ h; cases h
    · injection h with _ h; cases h
theorem find_name {n v : ByteArray} {l : List Ent} {k : Nat} {q : Bool} (h : findT n v l = (k, q)) (hk : k ≠ 0) : 1 ≤ k ∧ k ≤ l.length ∧ ∃ y, atR l (k : Int) = ((n, y), true) := by
  unfold findT at h
  split at h
  · rename_i k' hk2
    injection h with h _
    subst h
    obtain ⟨h1, h2, h3⟩ := findW_at hk2
    rw [Nat.zero_add] at h2
    rw [Nat.sub_zero] at h3
    exact ⟨by omega, h2, v, by rw [atR_in (by omega) h2, h3]⟩
  · split at h
    · rename_i k' hk2
      injection h with h _
      subst h
      obtain ⟨h1, h2, h3⟩ := findN_at hk2
      rw [Nat.zero_add] at h2
      rw [Nat.sub_zero] at h3
      exact ⟨by omega, h2, (entAt l (k' - 1)).2, by rw [atR_in (by omega) h2, ← h3]⟩
    · injection h with h _
      omega
theorem ent_in {t : Tab} {k : Nat} {e : Ent} (h : atR (fixedT ++ t.2) (k : Int) = (e, true)) : ent t k = .ok e := by
  unfold ent
  rw [h]
  rfl
/-- A field that can be gone through. -/
def SmallF (x : Fld) : Prop := x.name.size ≤ 1000000 ∧ x.val.size ≤ 1000000
theorem table_few {t : Tab} (h : Ok4 t) : (fixedT ++ t.2).length ≤ 200 := by
  have h1 := sumL_ge t.2
  have h2 := h.1
  have h3 := h.2
  unfold OkT at h3
  rw [List.length_append, fixedT_len]
  omega
/-- A field that was laid by texts is read. -/
theorem spelt_lay {t : Tab} {x : Fld} (f first n : Nat) (b : Int) (A B : List UInt8) (hb : fullN b = f) (h1 : first < 256) (hx : SmallF x) (hn : n ≤ 4294967295) (hat : n = 0 ∨ ∃ y, atR (fixedT ++ t.2) (n : Int) = ((x.name, y), true)) :
    spelt (mk (A ++ layF f first n x ++ B)) t A.length b = .ok ((x.name, x.val), A.length + (layF f first n x).length) := by
  have hl1 : x.name.data.toList.length ≤ 1000000 := by rw [← size_list]; exact hx.1
  have hl2 : x.val.data.toList.length ≤ 1000000 := by rw [← size_list]; exact hx.2
  unfold spelt layF
  have e0 : A ++ (putL f first n ++ ((if n = 0 then layT x.name.data.toList else []) ++ layT x.val.data.toList)) ++ B = A ++ putL f first n ++ (((if n = 0 then layT x.name.data.toList else []) ++ layT x.val.data.toList) ++ B) := by simp [List.append_assoc]
  rw [list_mk, e0, num_put A _ b hb h1 hn]
  simp only
  by_cases h0 : n = 0
  · subst h0
    unfold nam
    rw [if_neg (by omega), if_pos rfl]
    have e1 : A ++ putL f first 0 ++ (layT x.name.data.toList ++ layT x.val.data.toList ++ B) = (A ++ putL f first 0) ++ layT x.name.data.toList ++ (layT x.val.data.toList ++ B) := by simp [List.append_assoc]
    have e2 : A ++ putL f first 0 ++ (layT x.name.data.toList ++ layT x.val.data.toList ++ B) = (A ++ putL f first 0 ++ layT x.name.data.toList) ++ layT x.val.data.toList ++ B := by simp [List.append_assoc]
    have t1 := txt_lay (A ++ putL f first 0) (layT x.val.data.toList ++ B) x.name.data.toList hl1
    have t2 := txt_lay (A ++ putL f first 0 ++ layT x.name.data.toList) B x.val.data.toList hl2
    rw [← e1, List.length_append] at t1
    rw [← e2, List.length_append, List.length_append] at t2
    rw [t1]
    simp only
    rw [t2, mk_data, mk_data]
    simp only [List.length_append, Nat.add_assoc]
  · obtain ⟨y, hy⟩ := hat.resolve_left h0
    unfold nam
    rw [if_pos (by omega), ent_in hy, if_neg h0, List.nil_append]
    simp only
    have e2 : A ++ putL f first n ++ (layT x.val.data.toList ++ B) = (A ++ putL f first n) ++ layT x.val.data.toList ++ B := by simp [List.append_assoc]
    have t2 := txt_lay (A ++ putL f first n) B x.val.data.toList hl2
    rw [← e2, List.length_append] at t2
    rw [t2, mk_data]
    simp only [List.length_append, Nat.add_assoc]
theorem byte_lay (f first n : Nat) (x : Fld) (A B : List UInt8) (hf : isF f) (h : first < 256) : ∃ j, j ≤ f ∧ byteAt (A ++ layF f first n x ++ B) A.length = first / (f + 1) * (f + 1) + j := by
  unfold layF
  have e0 : A ++ (putL f first n ++ ((if n = 0 then layT x.name.data.toList else []) ++ layT x.val.data.toList)) ++ B = A ++ putL f first n ++ (((if n = 0 then layT x.name.data.toList else []) ++ layT x.val.data.toList) ++ B) := by simp [List.append_assoc]
  rw [e0]
  obtain ⟨j, hj, hb, _⟩ := head_put (n := n) hf h A (((if n = 0 then layT x.name.data.toList else []) ++ layT x.val.data.toList) ++ B)
  exact ⟨j, hj, hb⟩
/-- A field that was laid is read, and the tables are one. -/
theorem one_read (t : Tab) (x : Fld) (A B : List UInt8) (hx : SmallF x) (h4 : Ok4 t) :
    fld (mk (A ++ (one t x).1 ++ B)) t A.length = .ok ((one t x).2, x, A.length + (one t x).1.length) ∧ ¬ isSize (mk (A ++ (one t x).1 ++ B)) A.length := by
  have hfew := table_few h4
  obtain ⟨⟨n, q⟩, hfind⟩ : ∃ r, findT x.name x.val (fixedT ++ t.2) = r := ⟨_, rfl⟩
  have hat : n = 0 ∨ ∃ y, atR (fixedT ++ t.2) (n : Int) = ((x.name, y), true) := by
    by_cases h0 : n = 0
    · exact .inl h0
    · exact .inr (find_name hfind h0).2.2
  have hn : n ≤ 4294967295 := by
    by_cases h0 : n = 0
    · omega
    · have := (find_name hfind h0).2.1
      omega
  unfold one
  rw [hfind]
  simp only
  by_cases hnv : x.never = true
  · rw [if_pos hnv]
    obtain ⟨j, hj, hb⟩ := byte_lay 15 16 n x A B (by unfold isF; omega) (by decide)
    have hs := spelt_lay (t := t) 15 16 n 4 A B full4 (by decide) hx hn hat
    refine ⟨?_, ?_⟩
    · unfold fld
      rw [list_mk, hb, if_neg (by omega), if_neg (by omega), hs]
      simp only
      rw [decide_eq_true (by omega), ← hnv]
    · unfold isSize
      rw [list_mk, hb]
      omega
  · rw [if_neg hnv]
    have hnf : x.never = false := by cases h : x.never with | true => exact absurd h hnv | false => rfl
    cases q with
    | true =>
      rw [if_pos rfl]
      obtain ⟨_, _, hw⟩ := find_whole hfind
      obtain ⟨j, hj, hb, _⟩ := head_put (f := 127) (first := 128) (n := n) (by unfold isF; omega) (by decide) A B
      refine ⟨?_, ?_⟩
      · unfold fld
        rw [list_mk, hb, if_pos (by omega), num_put A B 7 full7 (by decide) hn]
        simp only
        rw [ent_in hw]
        simp only
        rw [← hnf]
      · unfold isSize
        rw [list_mk, hb]
        omega
    | false =>
      rw [if_neg (by decide)]
      by_cases hsz : sz (x.name, x.val) ≤ t.1
      · rw [if_pos hsz]
        obtain ⟨j, hj, hb⟩ := byte_lay 63 64 n x A B (by unfold isF; omega) (by decide)
        have hs := spelt_lay (t := t) 63 64 n 6 A B full6 (by decide) hx hn hat
        refine ⟨?_, ?_⟩
        · unfold fld
          rw [list_mk, hb, if_neg (by omega), if_pos (by omega), hs]
          simp only
          rw [← hnf]
        · unfold isSize
          rw [list_mk, hb]
          omega
      · rw [if_neg hsz]
        obtain ⟨j, hj, hb⟩ := byte_lay 15 0 n x A B (by unfold isF; omega) (by decide)
        have hs := spelt_lay (t := t) 15 0 n 4 A B full4 (by decide) hx hn hat
        refine ⟨?_, ?_⟩
        · unfold fld
          rw [list_mk, hb, if_neg (by omega), if_neg (by omega), hs]
          simp only
          rw [decide_eq_false (by omega), ← hnf]
        · unfold isSize
          rw [list_mk, hb]
          omega
theorem one_pos (t : Tab) (x : Fld) : 1 ≤ (one t x).1.length := by
  unfold one layF
  split
  · have := putL_pos 15 16 (findT x.name x.val (fixedT ++ t.2)).1; simp only [List.length_append]; omega
  · split
    · exact putL_pos _ _ _
    · split
      · have := putL_pos 63 64 (findT x.name x.val (fixedT ++ t.2)).1; simp only [List.length_append]; omega
      · have := putL_pos 15 0 (findT x.name x.val (fixedT ++ t.2)).1; simp only [List.length_append]; omega
theorem one_ok4 {t : Tab} (x : Fld) (h : Ok4 t) : Ok4 (one t x).2 := by
  unfold one
  split
  · exact h
  · split
    · exact h
    · split
      · exact h.add _
      · exact h
theorem all_ok4 : ∀ (L : List Fld) {t : Tab}, Ok4 t → Ok4 (all t L).2
  | [], _, h => h
  | x :: L, _, h => all_ok4 L (one_ok4 x h)
/-- All fields that were laid are read. -/
theorem all_read : ∀ (L : List Fld) (t : Tab) (A B : List UInt8) (out : List Fld), (∀ x ∈ L, SmallF x) → Ok4 t → out.length + L.length ≤ 64 →
    go (mk (A ++ (all t L).1 ++ B)) t A.length out = go (mk (A ++ (all t L).1 ++ B)) (all t L).2 (A.length + (all t L).1.length) (out ++ L)
  | [], t, A, B, out, _, _, _ => by rw [List.append_nil]; rfl
  | x :: L, t, A, B, out, hs, h4, hl => by
    rw [List.length_cons] at hl
    have e : A ++ (all t (x :: L)).1 ++ B = A ++ (one t x).1 ++ ((all (one t x).2 L).1 ++ B) := by rw [all]; simp [List.append_assoc]
    have e2 : A ++ (all t (x :: L)).1 ++ B = (A ++ (one t x).1) ++ (all (one t x).2 L).1 ++ B := by rw [all]; simp [List.append_assoc]
    obtain ⟨h1, h2⟩ := one_read t x A ((all (one t x).2 L).1 ++ B) (hs x (List.mem_cons_self)) h4
    rw [← e] at h1 h2
    have hp := one_pos t x
    have hlt : A.length < (mk (A ++ (all t (x :: L)).1 ++ B)).size := by rw [size_mk, e]; simp only [List.length_append]; omega
    rw [go_fld hlt h2 (by omega) h1]
    have ih := all_read L (one t x).2 (A ++ (one t x).1) B (out ++ [x]) (fun y hy => hs y (List.mem_cons_of_mem _ hy)) (one_ok4 x h4) (by rw [List.length_append, List.length_singleton]; omega)
    rw [← e2, List.length_append] at ih
    rw [ih]
    have e3 : out ++ [x] ++ L = out ++ x :: L := by simp
    rw [e3]
    have e4 : (all t (x :: L)).2 = (all (one t x).2 L).2 := by rw [all]
    have e5 : A.length + (all t (x :: L)).1.length = A.length + (one t x).1.length + (all (one t x).2 L).1.length := by rw [all]; simp only [List.length_append, Nat.add_assoc]
    rw [e4, e5]
end Go.Proofs.Ytamgnbjdeoklbaa.Pk

/- Header blocks as they are sent, as mathematics: sizes that stand ahead; a decoder that reads all blocks tells their fields, and has the encoder's table. No program. -/
namespace Go.Proofs.Ytamgnbjdeoklbaa.Pk
open Go.RowKit Bytes Pf Tb Up

theorem fold_min (S : List Nat) : ∀ x y : Nat, S.foldl min (min x y) = min x (S.foldl min y) := by
  induction S with
  | nil => intro x y; rfl
  | cons a S ih =>
    intro x y
    rw [List.foldl_cons, List.foldl_cons, show min (min x y) a = min x (min y a) by omega, ih]
theorem fold_le (S : List Nat) (x : Nat) : S.foldl min x ≤ x := by
  have := fold_min S x x
  rw [Nat.min_self] at this
  omega
/-- The sizes, told one behind the other. -/
def resAll (t : Tab) (S : List Nat) : Tab := S.foldl (fun (t : Tab) (n : Nat) => resT t (n : Int)) t
theorem resT_fst (t : Tab) (n : Nat) : (resT t (n : Int)).1 = n := by unfold resT; simp only [Int.toNat_natCast]
theorem resT_snd (t : Tab) (n : Nat) : (resT t (n : Int)).2 = leastL t.2 n := by unfold resT; simp only [Int.toNat_natCast]
theorem least_min {t : Tab} (h : OkT t) (a : Nat) : leastL t.2 (min t.1 a) = leastL t.2 a := by
  unfold OkT at h
  by_cases ha : a ≤ t.1
  · rw [Nat.min_eq_right ha]
  · rw [Nat.min_eq_left (by omega), leastL_fits _ _ h, leastL_fits _ _ (by omega)]
theorem resAll_ok : ∀ (S : List Nat) {t : Tab}, OkT t → OkT (resAll t S)
  | [], _, h => h
  | a :: S, t, _ => resAll_ok S (t := resT t (a : Int)) (resT_ok t a)
/-- What they leave is what the least of them leaves. -/
theorem resAll_snd : ∀ (S : List Nat) {t : Tab}, OkT t → (resAll t S).2 = leastL t.2 (S.foldl min t.1)
  | [], t, h => (leastL_fits _ _ h).symm
  | a :: S, t, h => by
    have ih := resAll_snd S (t := resT t (a : Int)) (resT_ok t a)
    show (resAll (resT t (a : Int)) S).2 = _
    rw [ih, resT_snd, resT_fst, leastL_twice _ _ _ (fold_le S a), List.foldl_cons, fold_min, least_min h]
theorem resAll_last (t : Tab) (S : List Nat) (a : Nat) : resAll t (S ++ [a]) = resT (resAll t S) (a : Int) := by unfold resAll; rw [List.foldl_append]; rfl
/-- The encoder's table is the decoder's, behind the sizes that weren't told yet. -/
structure Rel (td : Tab) (c : Enc) : Prop where
  ok4 : Ok4 td
  tab : c.1 = resAll td c.2
  few : ∀ n ∈ c.2, n ≤ 4096
theorem Rel.new : Rel (newT 4096) (newT 4096, []) := ⟨ok4_new, rfl, fun n h => by cases h⟩
theorem Rel.enc4 {td : Tab} {c : Enc} (h : Rel td c) : Ok4 c.1 := by
  refine ⟨?_, by rw [h.tab]; exact resAll_ok _ h.ok4.2⟩
  rw [h.tab]
  rcases List.eq_nil_or_concat c.2 with e | ⟨S, a, e⟩
  · rw [e]; exact h.ok4.1
  · rw [List.concat_eq_append] at e
    rw [e, resAll_last, resT_fst]
    exact h.few a (by rw [e]; simp)
theorem Rel.lim {td : Tab} {c : Enc} (h : Rel td c) (n : Nat) : Rel td (lim c n) := by
  unfold Pk.lim
  split
  · exact h
  · refine ⟨h.ok4, ?_, fun k hk => ?_⟩
    · show resT c.1 ((min n 4096 : Nat) : Int) = _
      rw [resAll_last, ← h.tab]
    · rcases List.mem_append.1 hk with hk | hk
      · exact h.few k hk
      · rw [List.mem_singleton] at hk
        omega
/-- A size that was put is read. -/
theorem size_read (A B : List UInt8) (n : Nat) (t : Tab) (hn : n ≤ 4096) : siz (mk (A ++ putL 31 32 n ++ B)) t A.length 0 = .ok (resT t (n : Int), A.length + (putL 31 32 n).length) ∧ isSize (mk (A ++ putL 31 32 n ++ B)) A.length := by
  obtain ⟨j, hj, hb, _⟩ := head_put (f := 31) (first := 32) (n := n) (by unfold isF; omega) (by decide) A B
  refine ⟨?_, ?_⟩
  · unfold siz
    rw [list_mk, num_put A B 5 full5 (by decide) (by omega)]
    simp only
    rw [if_neg (by omega)]
  · unfold isSize
    rw [list_mk, hb]
    omega
theorem go_size (A B : List UInt8) (n : Nat) (t : Tab) (hn : n ≤ 4096) : go (mk (A ++ putL 31 32 n ++ B)) t A.length [] = go (mk (A ++ putL 31 32 n ++ B)) (resT t (n : Int)) (A ++ putL 31 32 n).length [] := by
  obtain ⟨h1, h2⟩ := size_read A B n t hn
  have hp := putL_pos 31 32 n
  rw [go_siz (by rw [size_mk]; simp only [List.length_append]; omega) h2 h1, List.length_append]
/-- What stands ahead of the fields brings the decoder's table to the encoder's. -/
theorem heads_read {td : Tab} {c : Enc} (h : Rel td c) (B : List UInt8) : go (mk (heads c ++ B)) td 0 [] = go (mk (heads c ++ B)) c.1 (heads c).length [] := by
  rcases List.eq_nil_or_concat c.2 with e | ⟨S, a, e⟩
  · have ht : c.1 = td := by rw [h.tab, e]; rfl
    have hl : heads c = [] := by
      unfold heads leastS
      rw [e, if_neg (by show ¬ c.1.1 < c.1.1; omega), if_pos rfl]
      rfl
    rw [hl, ht]
    rfl
  · rw [List.concat_eq_append] at e
    have hne : ¬ c.2 = [] := by rw [e]; simp
    have ha : a ≤ 4096 := h.few a (by rw [e]; simp)
    have h1 : c.1.1 = a := by rw [h.tab, e, resAll_last, resT_fst]
    have hls : leastS c = S.foldl min a := by
      unfold leastS
      rw [e, h1, List.foldl_append]
      have := fold_le S a
      show min (S.foldl min a) a = _
      omega
    have h2 : c.1.2 = leastL td.2 (S.foldl min a) := by
      rw [h.tab, e, resAll_snd _ h.ok4.2, List.foldl_append]
      show leastL td.2 (min (S.foldl min td.1) a) = _
      rw [Nat.min_comm, ← fold_min, Nat.min_comm, fold_min, least_min h.ok4.2]
    have hsum := leastL_sum td.2 (S.foldl min a)
    have hle := fold_le S a
    unfold heads
    rw [hls, h1, if_neg hne]
    by_cases hlt : S.foldl min a < a
    · rw [if_pos hlt]
      have g1 := go_size [] (putL 31 32 a ++ B) (S.foldl min a) td (by omega)
      have g2 := go_size (putL 31 32 (S.foldl min a)) B a (resT td ((S.foldl min a : Nat) : Int)) ha
      rw [List.nil_append] at g1
      have e1 : putL 31 32 (S.foldl min a) ++ (putL 31 32 a ++ B) = putL 31 32 (S.foldl min a) ++ putL 31 32 a ++ B := by simp [List.append_assoc]
      rw [e1] at g1
      have g1' : go (mk (putL 31 32 (S.foldl min a) ++ putL 31 32 a ++ B)) td 0 [] = go (mk (putL 31 32 (S.foldl min a) ++ putL 31 32 a ++ B)) (resT td ((S.foldl min a : Nat) : Int)) (putL 31 32 (S.foldl min a)).length [] := g1
      rw [g1', g2]
      have ht : resT (resT td ((S.foldl min a : Nat) : Int)) (a : Int) = c.1 := by
        refine Prod.ext ?_ ?_
        · rw [resT_fst, h1]
        · rw [resT_snd, resT_snd, h2, leastL_fits _ _ (by omega)]
      rw [ht]
    · rw [if_neg hlt, List.nil_append]
      have g1 := go_size [] B a td ha
      have g1' : go (mk (putL 31 32 a ++ B)) td 0 [] = go (mk (putL 31 32 a ++ B)) (resT td (a : Int)) (putL 31 32 a).length [] := g1
      rw [g1']
      have ht : resT td (a : Int) = c.1 := by
        refine Prod.ext ?_ ?_
        · rw [resT_fst, h1]
        · rw [resT_snd, h2]
          congr 1
          omega
      rw [ht]
/-- A block that was written is read: its fields, and the tables are one. -/
theorem wrote_read {td : Tab} {c : Enc} (h : Rel td c) (L : List Fld) (hs : ∀ x ∈ L, SmallF x) (hl : L.length ≤ 64) : Up.read (td, false) (mk (wrote c L)) = (((behind c L).1, false), L, 0) := by
  have g1 := heads_read h (all c.1 L).1
  have g2 := all_read L c.1 (heads c) [] [] hs h.enc4 (by simpa using hl)
  rw [List.append_nil, List.nil_append] at g2
  have g3 : go (mk (heads c ++ (all c.1 L).1)) (all c.1 L).2 ((heads c).length + (all c.1 L).1.length) L = ((all c.1 L).2, .ok L) := go_end (by rw [size_mk, List.length_append]; exact Nat.le_refl _)
  unfold Up.read
  rw [if_neg Bool.false_ne_true]
  unfold wrote behind
  rw [g1, g2, g3]
theorem Rel.behind {td : Tab} {c : Enc} (h : Rel td c) (L : List Fld) : Rel (behind c L).1 (behind c L) := ⟨all_ok4 L h.enc4, rfl, fun n hn => by cases hn⟩
end Go.Proofs.Ytamgnbjdeoklbaa.Pk

/- Header blocks as they are sent: how long what is laid may be. No program. -/
namespace Go.Proofs.Ytamgnbjdeoklbaa
open Go Go.RowKit Bytes Pf Tb Up Pk

namespace Pk
/-- The bytes of fields' names and values. -/
def sumZ : List Fld → Nat
  | [] => 0
  | x :: L => x.name.size + x.val.size + sumZ L
theorem sumZ_cat (A B : List Fld) : sumZ (A ++ B) = sumZ A + sumZ B := by
  induction A with
  | nil => exact (Nat.zero_add _).symm
  | cons x A ih => rw [List.cons_append, sumZ, sumZ, ih]; omega
theorem sumZ_mem {L : List Fld} {x : Fld} (h : x ∈ L) : x.name.size + x.val.size ≤ sumZ L := by
  obtain ⟨a, b, e⟩ := List.append_of_mem h
  rw [e, sumZ_cat, sumZ]
  omega
end Pk
theorem layT_len (l : List UInt8) (h : l.length ≤ 900000) : (Pk.layT l).length ≤ l.length + 11 := by
  unfold Pk.layT
  split
  · have := putL_few 127 128 (Hf.enc l).length (by omega)
    rw [List.length_append]; omega
  · have := putL_few 127 0 l.length (by omega)
    rw [List.length_append]; omega
theorem layF_len (f c n : Nat) (x : Fld) (hn : n ≤ 4294967295) (h1 : x.name.size ≤ 900000) (h2 : x.val.size ≤ 900000) : (layF f c n x).length ≤ 33 + x.name.size + x.val.size := by
  have a := putL_few f c n (by omega)
  have b := layT_len x.name.data.toList (by rw [← size_list]; exact h1)
  have d := layT_len x.val.data.toList (by rw [← size_list]; exact h2)
  rw [← size_list] at b d
  unfold layF
  rw [List.length_append, List.length_append]
  split
  · omega
  · rw [List.length_nil]; omega
theorem one_len {t : Tab} (x : Fld) (h4 : Up.Ok4 t) (h1 : x.name.size ≤ 900000) (h2 : x.val.size ≤ 900000) : (one t x).1.length ≤ 33 + x.name.size + x.val.size := by
  have hfew := table_few h4
  obtain ⟨⟨n, q⟩, hf⟩ : ∃ r, findT x.name x.val (fixedT ++ t.2) = r := ⟨_, rfl⟩
  have hn : n ≤ 4294967295 := by
    by_cases h0 : n = 0
    · omega
    · have := (find_name hf h0).2.1
      omega
  unfold one
  rw [hf]
  simp only
  split
  · exact layF_len _ _ _ _ hn h1 h2
  · split
    · have := putL_few 127 128 n (by omega)
      show (putL 127 128 n).length ≤ _
      omega
    · split
      · exact layF_len _ _ _ _ hn h1 h2
      · exact layF_len _ _ _ _ hn h1 h2
theorem all_len : ∀ (L : List Fld) (t : Tab), Up.Ok4 t → (∀ x ∈ L, x.name.size ≤ 900000 ∧ x.val.size ≤ 900000) → (all t L).1.length ≤ 33 * L.length + sumZ L
  | [], _, _, _ => Nat.zero_le _
  | x :: L, t, h4, h => by
    have hx := h x List.mem_cons_self
    have a := one_len x h4 hx.1 hx.2
    have b := all_len L (one t x).2 (one_ok4 x h4) (fun y hy => h y (List.mem_cons_of_mem _ hy))
    rw [all, sumZ, List.length_cons]
    show ((one t x).1 ++ (all (one t x).2 L).1).length ≤ _
    rw [List.length_append]
    omega
theorem small_few {L : List Fld} (h : L.length + sumZ L < 3000) : ∀ x ∈ L, x.name.size ≤ 3000 ∧ x.val.size ≤ 3000 := fun x hx => by
  have := sumZ_mem hx
  omega
theorem wrote_len {c : Enc} {L : List Fld} (h4 : Up.Ok4 c.1) (h : L.length + sumZ L < 3000) : (wrote c L).length ≤ 110000 := by
  have a := all_len L c.1 h4 (fun x hx => by have := small_few h x hx; omega)
  have hM := h4.1
  have b : (heads c).length ≤ 22 := by
    have h1 := putL_few 31 32 c.1.1 (by omega)
    have hl : leastS c ≤ c.1.1 := fold_le _ _
    have h2 := putL_few 31 32 (leastS c) (by omega)
    unfold heads
    rw [List.length_append]
    split <;> split <;> (try simp only [List.length_nil]) <;> omega
  unfold wrote
  rw [List.length_append]
  omega
end Go.Proofs.Ytamgnbjdeoklbaa

/- The law's FewFields and few: fields that are few and short. For any fields that came in. -/
namespace Go.Proofs.Ytamgnbjdeoklbaa
open Go Go.RowKit Bytes Up Pk

namespace Pk
theorem take_fld {L : List Fld} {k : Nat} (h : k < L.length) : L.take (k + 1) = L.take k ++ [fldAt L k] := by
  rw [List.take_succ_eq_append_getElem h]
  unfold fldAt
  rw [List.getD_eq_getElem?_getD, List.getElem?_eq_getElem h]
  rfl
theorem below_drewN {B : Nat} {a w : World} (h : Below B a w) (n : Nat) : Below B a (w.drewN n) := ⟨h.os, h.tape, h.output, h.size, h.block⟩
end Pk
set_option maxHeartbeats 4000000 in
set_option maxRecDepth 100000 in
theorem fewF_is (a : Option Addr) (c n : Nat) (L : List Fld) (w : World) (h : Hid (RdF w w.heap.size a L)) (hL : Hid (L.length = n)) (hn : n ≤ maxLen) :
    Calls Try.prog 20 #[.slice a n c] w fun e w' => (e = .returned (.bool true) ∧ Below w.heap.size w w' ∧ Hid (L.length + sumZ L < 3000)) ∨ (e = .returned (.bool false) ∧ Below w.heap.size w w') := by
  unfold maxLen at hn
  by_cases hbig : 3000 < n
  · have hbi : (3000 : Int) < (n : Int) := by omega
    have hni : (0 : Int) < (n : Int) := by omega
    clear hbig
    go_enter Try.func20, Try.ntmps20
    go_wp2_with fail
    go_loopw [3, 4] (fun x i wr => wr = w ∧ x = .int .i64 3000 ∧ i = .int .i64 0) (fun _ _ _ => 0)
    case atStart => exact ⟨rfl, rfl, rfl⟩
    case round =>
      obtain ⟨rfl, rfl, rfl⟩ := hrel
      go_wp2_with fail
      go_ret
      first | exact .inr ⟨rfl, Below.refl _ _⟩ | exact ⟨rfl, Below.refl _ _⟩ | exact Below.refl _ _
  have hle : ¬ (3000 : Int) < (n : Int) := by omega
  have HB0 := Lib.hid (Below.refl w.heap.size w)
  have HA0 := Lib.hid (show n < 3000 → n = n + sumZ (L.take 0) from fun _ => rfl)
  go_enter Try.func20, Try.ntmps20
  go_wp2_with fail
  go_loopw [3, 4] (fun x i wr => ∃ (k s : Nat), k ≤ n ∧ x = .int .i64 (s : Int) ∧ i = .int .i64 (k : Int) ∧ s ≤ 9000 ∧ Hid (Below w.heap.size w wr) ∧ Hid (s < 3000 → s = n + sumZ (L.take k))) (fun _ i _ => n - (intOf i).toNat)
  case atStart => exact ⟨0, n, Nat.zero_le _, rfl, rfl, by omega, HB0, HA0⟩
  case round =>
    obtain ⟨k, s, hk, rfl, rfl, hs9, HB, HA⟩ := hrel
    by_cases hlt : k < n
    · have hli : (k : Int) < (n : Int) := by omega
      by_cases hs3 : s < 3000
      · have hsi : (s : Int) < 3000 := by omega
        have hkl : k < L.length := by rw [hL.out]; exact hlt
        obtain ⟨b, off, rfl, hb, x0, x1, x2, hm1, hm2⟩ := (h.out.on HB.out (Nat.le_refl _)) k hkl
        have ht := take_fld hkl
        have hA1 := HA.out hs3
        obtain ⟨x, hx⟩ : ∃ x, fldAt L k = x := ⟨_, rfl⟩
        rw [hx] at x0 x1 x2 ht hm1 hm2
        have e3 : IntKind.i64.wrap ((k : Int) + 1) = ((k + 1 : Nat) : Int) := by rw [IntKind.wrap_i64]; omega
        have hk0 : (0 : Int) ≤ (k : Int) := by omega
        obtain ⟨y, hy⟩ : ∃ y, min x.name.size 3000 = y := ⟨_, rfl⟩
        obtain ⟨z, hz⟩ : ∃ z, min x.val.size 3000 = z := ⟨_, rfl⟩
        obtain ⟨p, hp⟩ : ∃ p, s + y = p := ⟨_, rfl⟩
        obtain ⟨t, htt⟩ : ∃ t, p + z = t := ⟨_, rfl⟩
        have HN := Lib.hid (show t < 3000 → t = n + sumZ (L.take (k + 1)) from fun h3 => by
          rw [ht, sumZ_cat, sumZ, sumZ]
          omega)
        have hyb : t ≤ 9000 := by omega
        clear ht hx hkl hA1
        go_wp2_with fail
        by_cases hx3 : (3000 : Int) < (x.name.size : Int)
        · by_cases hz3 : (3000 : Int) < (x.val.size : Int)
          · have e1 : IntKind.i64.wrap ((s : Int) + 3000) = (p : Int) := by rw [IntKind.wrap_i64]; omega
            have e2 : IntKind.i64.wrap ((p : Int) + 3000) = (t : Int) := by rw [IntKind.wrap_i64]; omega
            clear hp htt hy hz hm1 hm2
            go_quiet (fail)
            go_wp2_with fail
            go_roundw
            case rel => exact ⟨k + 1, t, by omega, rfl, rfl, hyb, Lib.hid (by first | exact HB.out | exact HB.out.drew | exact below_drewN HB.out _), HN⟩
            case measure => simp [intOf] <;> omega
          · have e1 : IntKind.i64.wrap ((s : Int) + 3000) = (p : Int) := by rw [IntKind.wrap_i64]; omega
            have e2 : IntKind.i64.wrap ((p : Int) + (x.val.size : Int)) = (t : Int) := by rw [IntKind.wrap_i64]; omega
            clear hp htt hy hz hm1 hm2
            go_quiet (fail)
            go_wp2_with fail
            go_roundw
            case rel => exact ⟨k + 1, t, by omega, rfl, rfl, hyb, Lib.hid (by first | exact HB.out | exact HB.out.drew | exact below_drewN HB.out _), HN⟩
            case measure => simp [intOf] <;> omega
        · by_cases hz3 : (3000 : Int) < (x.val.size : Int)
          · have e1 : IntKind.i64.wrap ((s : Int) + (x.name.size : Int)) = (p : Int) := by rw [IntKind.wrap_i64]; omega
            have e2 : IntKind.i64.wrap ((p : Int) + 3000) = (t : Int) := by rw [IntKind.wrap_i64]; omega
            clear hp htt hy hz hm1 hm2
            go_quiet (fail)
            go_wp2_with fail
            go_roundw
            case rel => exact ⟨k + 1, t, by omega, rfl, rfl, hyb, Lib.hid (by first | exact HB.out | exact HB.out.drew | exact below_drewN HB.out _), HN⟩
            case measure => simp [intOf] <;> omega
          · have e1 : IntKind.i64.wrap ((s : Int) + (x.name.size : Int)) = (p : Int) := by rw [IntKind.wrap_i64]; omega
            have e2 : IntKind.i64.wrap ((p : Int) + (x.val.size : Int)) = (t : Int) := by rw [IntKind.wrap_i64]; omega
            clear hp htt hy hz hm1 hm2
            go_quiet (fail)
            go_wp2_with fail
            go_roundw
            case rel => exact ⟨k + 1, t, by omega, rfl, rfl, hyb, Lib.hid (by first | exact HB.out | exact HB.out.drew | exact below_drewN HB.out _), HN⟩
            case measure => simp [intOf] <;> omega
      · have hsi : ¬ (s : Int) < 3000 := by omega
        go_wp2_with fail
        go_ret
        first | exact .inr ⟨rfl, HB.out⟩ | exact ⟨rfl, HB.out⟩ | exact HB.out
    · have hli : ¬ (k : Int) < (n : Int) := by omega
      have hkn : k = n := by omega
      by_cases hs3 : s < 3000
      · have hsi : (s : Int) < 3000 := by omega
        have hA1 := HA.out hs3
        rw [hkn, ← hL.out, List.take_length, hL.out] at hA1
        have HA1 := Lib.hid (show L.length + sumZ L < 3000 by rw [hL.out]; omega)
        clear hA1
        go_wp2_with fail
        go_ret
        first | exact .inl ⟨rfl, HB.out, HA1⟩ | exact .inl ⟨rfl, HB.out⟩ | exact ⟨rfl, HB.out, HA1⟩ | exact ⟨HB.out, HA1⟩
      · have hsi : ¬ (s : Int) < 3000 := by omega
        go_wp2_with fail
        go_ret
        first | exact .inr ⟨rfl, HB.out⟩ | exact ⟨rfl, HB.out⟩ | exact HB.out
end Go.Proofs.Ytamgnbjdeoklbaa

/- Acts that came in: sizes, and slices of fields; the law's few. No condition. -/
namespace Go.Proofs.Ytamgnbjdeoklbaa
open Go.ChangeShapes Go.WideShapes Go.Deep Go.RowKit Tb Up Pk

namespace Pk
/-- An act: whether it is a size; the size; the fields, and their slice. -/
structure ActP where
  lim : Bool
  n : Nat
  fs : List Fld
  A : Option Addr
  c : Nat
def actP (L : List ActP) (k : Nat) : ActP := L.getD k ⟨false, 0, [], none, 0⟩
theorem actP_mem {L : List ActP} {k : Nat} (h : k < L.length) : actP L k ∈ L := by
  unfold actP
  rw [List.getD_eq_getElem?_getD, List.getElem?_eq_getElem h]
  exact List.getElem_mem h
theorem actP_drop {L : List ActP} {k : Nat} (h : k < L.length) : L.drop k = actP L k :: L.drop (k + 1) := by
  unfold actP
  rw [List.drop_eq_getElem_cons h, List.getD_eq_getElem?_getD, List.getElem?_eq_getElem h]
  rfl
/-- A slice of acts, below a block. -/
def RdA (w : World) (B : Nat) (a : Option Addr) (L : List ActP) : Prop :=
  ∀ k, k < L.length → ∃ (b off : Nat), a = some ⟨b, off, none⟩ ∧ b < B ∧ w.cell? ⟨b, off + k * 3, none⟩ = some (.bool (actP L k).lim) ∧ w.cell? ⟨b, off + k * 3 + 1, none⟩ = some (.int .u32 ((actP L k).n : Int)) ∧ w.cell? ⟨b, off + k * 3 + 2, none⟩ = some (.slice (actP L k).A (actP L k).fs.length (actP L k).c) ∧
    (actP L k).n < 4294967296 ∧ (actP L k).fs.length ≤ maxLen ∧ RdF w B (actP L k).A (actP L k).fs
theorem RdA.on {w w' : World} {B B' : Nat} {a : Option Addr} {L : List ActP} (h : RdA w B a L) (hb : Below B w w') (hB : B ≤ B') : RdA w' B' a L := fun k hk => by
  obtain ⟨b, off, e, hlt, c0, c1, c2, r1, r2, r3⟩ := h k hk
  exact ⟨b, off, e, by omega, (hb.cell (p := ⟨b, off + k * 3, none⟩) hlt).trans c0, (hb.cell (p := ⟨b, off + k * 3 + 1, none⟩) hlt).trans c1, (hb.cell (p := ⟨b, off + k * 3 + 2, none⟩) hlt).trans c2, r1, r2, r3.on hb hB⟩
theorem rda_of_trod {H : Type} {enc : TypeId × Value → H} {w : World} {base : Nat} {spare : Nat → Bool} {held : Bool} {fuel : Nat} {a : Option Addr} {len cap : Nat} {x : DataW H × List MemPlace}
    (h : DataW.trod enc Try.prog w base spare held fuel 22 [.slice a len cap] = some x) : len ≤ maxLen ∧ ∃ L : List ActP, L.length = len ∧ RdA w w.heap.size a L := by
  rcases open_slice_flds Try.underlying22 Try.underlying32 (by kernel_rfl) (by kernel_rfl) h with hcs | ⟨ad, l, c, m, hcs, hm, hmx, hf⟩
  · simp at hcs
    obtain ⟨rfl, rfl, rfl⟩ := hcs
    exact ⟨Nat.zero_le _, [], rfl, fun k hk => absurd hk (Nat.not_lt_zero k)⟩
  · simp at hcs
    obtain ⟨rfl, rfl, rfl⟩ := hcs
    refine ⟨hmx, ?_⟩
    have one : ∀ j, j < len → ∃ (e : ActP) (b off : Nat), ad = ⟨b, off, none⟩ ∧ b < w.heap.size ∧ w.cell? ⟨b, off + j * 3, none⟩ = some (.bool e.lim) ∧ w.cell? ⟨b, off + j * 3 + 1, none⟩ = some (.int .u32 (e.n : Int)) ∧ w.cell? ⟨b, off + j * 3 + 2, none⟩ = some (.slice e.A e.fs.length e.c) ∧ e.n < 4294967296 ∧ e.fs.length ≤ maxLen ∧ RdF w w.heap.size e.A e.fs := fun j hj => by
      obtain ⟨n, hfj⟩ := hf j (by omega)
      obtain ⟨v0, y0, hc0, ht0⟩ := hfj 0 _ rfl
      obtain ⟨v1, y1, hc1, ht1⟩ := hfj 1 _ rfl
      obtain ⟨v2, y2, hc2, ht2⟩ := hfj 2 _ rfl
      obtain ⟨b0, hb0, _⟩ := DataW.trod_bool Try.underlying4 ht0
      obtain ⟨nn, hn, _, hwf⟩ := DataW.trod_int Try.underlying29 ht1
      have hsl : ∃ A n c, v2 = .slice A n c := by
        rcases open_slice_flds Try.underlying30 Try.underlying45 (by kernel_rfl) (by kernel_rfl) ht2 with hcs | ⟨ad, l, c, m, hcs, _⟩
        · simp at hcs
          exact ⟨_, _, _, hcs⟩
        · simp at hcs
          exact ⟨_, _, _, hcs⟩
      obtain ⟨A2, n2, c2, rfl⟩ := hsl
      obtain ⟨hl2, fs, hfs, hrd⟩ := rdf_of_trod ht2
      simp at hb0 hn
      subst hb0 hn
      obtain ⟨b, off, spot⟩ := ad
      obtain ⟨n', hf0⟩ := hf 0 (by omega)
      obtain ⟨u0, z0, hu0, _⟩ := hf0 0 _ rfl
      have hspot : spot = none := by simpa [Addr.add] using World.cell?_spot hu0
      clear hu0
      subst hspot
      rw [add_plain] at hc0 hc1 hc2
      have hbd := bounds_u32 hwf
      subst hfs
      refine ⟨⟨b0, nn.toNat, fs, A2, c2⟩, b, off, rfl, World.block_lt_of_cell? _ _ hc0, ?_, ?_, ?_, ?_, hl2, hrd⟩
      · simpa using hc0
      · rw [Int.toNat_of_nonneg hbd.1]
        simpa [Nat.add_assoc] using hc1
      · simpa [Nat.add_assoc] using hc2
      · show nn.toNat < 4294967296
        omega
    obtain ⟨f, hf2⟩ : ∃ f : Nat → ActP, ∀ j, j < len → ∃ (b off : Nat), ad = ⟨b, off, none⟩ ∧ b < w.heap.size ∧ w.cell? ⟨b, off + j * 3, none⟩ = some (.bool (f j).lim) ∧ w.cell? ⟨b, off + j * 3 + 1, none⟩ = some (.int .u32 ((f j).n : Int)) ∧ w.cell? ⟨b, off + j * 3 + 2, none⟩ = some (.slice (f j).A (f j).fs.length (f j).c) ∧ (f j).n < 4294967296 ∧ (f j).fs.length ≤ maxLen ∧ RdF w w.heap.size (f j).A (f j).fs := by
      classical
      exact ⟨fun j => if h : j < len then (one j h).choose else ⟨false, 0, [], none, 0⟩, fun j hj => by simp only [hj, dif_pos]; exact (one j hj).choose_spec⟩
    refine ⟨(List.range len).map f, by rw [List.length_map, List.length_range], fun k hk => ?_⟩
    rw [List.length_map, List.length_range] at hk
    have e : actP ((List.range len).map f) k = f k := by
      unfold actP
      rw [List.getD_eq_getElem?_getD, List.getElem?_map, List.getElem?_range hk]
      rfl
    rw [e]
    obtain ⟨b, off, h0, r⟩ := hf2 k hk
    exact ⟨b, off, by rw [h0], r⟩
/-- Acts that can be gone through. -/
def FewA (L : List ActP) : Prop := L.length ≤ 30 ∧ ∀ x ∈ L, x.fs.length + sumZ x.fs < 3000
end Pk
set_option maxHeartbeats 4000000 in
set_option maxRecDepth 100000 in
theorem fewA_is (a : Option Addr) (c n : Nat) (L : List ActP) (w : World) (h : Hid (RdA w w.heap.size a L)) (hL : Hid (L.length = n)) (hn : n ≤ maxLen) :
    Calls Try.prog 7 #[.slice a n c] w fun e w' => (e = .returned (.bool true) ∧ Below w.heap.size w w' ∧ Hid (FewA L)) ∨ (e = .returned (.bool false) ∧ Below w.heap.size w w') := by
  unfold maxLen at hn
  have HB0 := Lib.hid (Below.refl w.heap.size w)
  have HA0 := Lib.hid (show ∀ j, j < 0 → (actP L j).fs.length + sumZ (actP L j).fs < 3000 from fun j hj => absurd hj (Nat.not_lt_zero j))
  go_enter Try.func7, Try.ntmps7
  go_wp2_with fail
  go_loopw [3] (fun i wr => ∃ k : Nat, k ≤ n ∧ k ≤ 31 ∧ i = .int .i64 (k : Int) ∧ Hid (Below w.heap.size w wr) ∧ Hid (∀ j, j < k → (actP L j).fs.length + sumZ (actP L j).fs < 3000)) (fun i _ => n - (intOf i).toNat)
  case atStart => exact ⟨0, Nat.zero_le _, Nat.zero_le _, rfl, HB0, HA0⟩
  case round =>
    obtain ⟨k, hk, hk31, rfl, HB, HA⟩ := hrel
    by_cases hlt : k < n
    · have hli : (k : Int) < (n : Int) := by omega
      by_cases h30 : k ≤ 30
      · have h3i : (k : Int) ≤ 30 := by omega
        obtain ⟨b, off, rfl, hb, x0, x1, x2, hn4, hm, hrd⟩ := (h.out.on HB.out (Nat.le_refl _)) k (by rw [hL.out]; exact hlt)
        have hbx := HB.out.size
        have HF := Lib.hid (hrd.on (Below.refl _ wr) hbx)
        have e3 : IntKind.i64.wrap ((k : Int) + 1) = ((k + 1 : Nat) : Int) := by rw [IntKind.wrap_i64]; omega
        have hk0 : (0 : Int) ≤ (k : Int) := by omega
        clear hrd
        go_wp2_with fail
        refine (fewF_is (actP L k).A (actP L k).c (actP L k).fs.length (actP L k).fs wr HF (Lib.hid rfl) hm).mono ?_
        rintro e w2 (⟨rfl, hB2, hf⟩ | ⟨rfl, hB2⟩)
        · have HB2 := Lib.hid (HB.out.trans (hB2.mono hbx))
          have HA2 := Lib.hid (show ∀ j, j < k + 1 → (actP L j).fs.length + sumZ (actP L j).fs < 3000 from fun j hj => by
            by_cases hjk : j < k
            · exact HA.out j hjk
            · have : j = k := by omega
              subst this
              exact hf.out)
          go_wp2_with fail
          go_roundw
          case rel => exact ⟨k + 1, by omega, by omega, rfl, HB2, HA2⟩
          case measure => simp [intOf] <;> omega
        · have HB2 := Lib.hid (HB.out.trans (hB2.mono hbx))
          go_wp2_with fail
          go_ret
          first | exact .inr ⟨rfl, HB2.out⟩ | exact ⟨rfl, HB2.out⟩ | exact HB2.out
      · have h3i : ¬ (k : Int) ≤ 30 := by omega
        have hn30 : ¬ (n : Int) ≤ 30 := by omega
        go_wp2_with fail
        go_ret
        first | exact .inr ⟨rfl, HB.out⟩ | exact ⟨rfl, HB.out⟩ | exact HB.out
    · have hli : ¬ (k : Int) < (n : Int) := by omega
      have hkn : k = n := by omega
      by_cases hn3 : n ≤ 30
      · have hn30 : (n : Int) ≤ 30 := by omega
        have HF := Lib.hid (show FewA L from ⟨by rw [hL.out]; exact hn3, fun x hx => by
          obtain ⟨j, hj, rfl⟩ := List.getElem_of_mem hx
          have := HA.out j (by rw [hkn, ← hL.out]; exact hj)
          have e : actP L j = L[j] := by
            unfold actP
            rw [List.getD_eq_getElem?_getD, List.getElem?_eq_getElem hj]
            rfl
          rwa [e] at this⟩)
        go_wp2_with fail
        go_ret
        first | exact .inl ⟨rfl, HB.out, HF⟩ | exact .inl ⟨rfl, HB.out⟩ | exact ⟨rfl, HB.out, HF⟩ | exact ⟨HB.out, HF⟩
      · have hn30 : ¬ (n : Int) ≤ 30 := by omega
        go_wp2_with fail
        go_ret
        first | exact .inr ⟨rfl, HB.out⟩ | exact ⟨rfl, HB.out⟩ | exact HB.out
end Go.Proofs.Ytamgnbjdeoklbaa

/- Header blocks as they are sent, as mathematics: what is written a second time is a byte a field; a field that is never to be put into a table leaves it. No program. -/
namespace Go.Proofs.Ytamgnbjdeoklbaa.Pk
open Go.RowKit Bytes Pf Tb Up

def entF (x : Fld) : Ent := (x.name, x.val)
/-- What fields are as entries: the sum of their sizes. -/
def sumF (L : List Fld) : Nat := sumL (L.map entF)
theorem findW_mem (n v : ByteArray) : ∀ (l : List Ent) (i : Nat), (n, v) ∈ l → ∃ k, findW n v l i = some k
  | [], _, h => by cases h
  | e :: l, i, h => by
    rw [findW]
    by_cases he : e.1 = n ∧ e.2 = v
    · exact ⟨i + 1, by rw [if_pos he]⟩
    · rw [if_neg he]
      rcases List.mem_cons.1 h with h | h
      · exact absurd (by rw [← h]; exact ⟨rfl, rfl⟩) he
      · exact findW_mem n v l (i + 1) h
theorem findT_mem {n v : ByteArray} {l : List Ent} (h : (n, v) ∈ l) : ∃ k, findT n v l = (k, true) := by
  obtain ⟨k, hk⟩ := findW_mem n v l 0 h
  exact ⟨k, by unfold findT; rw [hk]⟩
theorem entAt_mem : ∀ {l : List Ent} {k : Nat}, k < l.length → entAt l k ∈ l
  | [], k, h => absurd h (Nat.not_lt_zero k)
  | e :: l, 0, _ => List.mem_cons_self
  | e :: l, k + 1, h => by rw [entAt_cons]; exact List.mem_cons_of_mem _ (entAt_mem (by rw [List.length_cons] at h; omega))
theorem mem_find {n v : ByteArray} {l : List Ent} {k : Nat} (h : findT n v l = (k, true)) : (n, v) ∈ l := by
  obtain ⟨h1, h2, h3⟩ := find_whole h
  rw [atR_in h1 h2] at h3
  injection h3 with h3 _
  rw [← h3]
  exact entAt_mem (by omega)
/-- A field that has room: it is there behind it, and all that was there. -/
theorem one_keeps (t : Tab) (x : Fld) (hn : x.never = false) (hr : sumL t.2 + sz (entF x) ≤ t.1) :
    (one t x).2.1 = t.1 ∧ entF x ∈ fixedT ++ (one t x).2.2 ∧ (∀ e, e ∈ t.2 → e ∈ (one t x).2.2) ∧ sumL (one t x).2.2 ≤ sumL t.2 + sz (entF x) ∧ (one t x).2.2.length ≤ t.2.length + 1 := by
  unfold one
  rw [if_neg (by rw [hn]; decide)]
  obtain ⟨⟨k, q⟩, hf⟩ : ∃ r, findT x.name x.val (fixedT ++ t.2) = r := ⟨_, rfl⟩
  rw [hf]
  simp only
  cases q with
  | true =>
    rw [if_pos rfl]
    exact ⟨rfl, mem_find hf, fun e h => h, Nat.le_add_right _ _, Nat.le_add_right _ _⟩
  | false =>
    rw [if_neg (by decide), if_pos (show sz (x.name, x.val) ≤ t.1 by show sz (entF x) ≤ t.1; omega)]
    have e : (addT t (x.name, x.val)).2 = (x.name, x.val) :: t.2 := by
      unfold addT
      exact leastL_fits _ _ (by rw [sumL]; show sz (entF x) + sumL t.2 ≤ t.1; omega)
    show t.1 = t.1 ∧ entF x ∈ fixedT ++ (addT t (x.name, x.val)).2 ∧ (∀ y, y ∈ t.2 → y ∈ (addT t (x.name, x.val)).2) ∧ sumL (addT t (x.name, x.val)).2 ≤ _ ∧ (addT t (x.name, x.val)).2.length ≤ _
    rw [e]
    refine ⟨rfl, List.mem_append_right _ List.mem_cons_self, fun y h => List.mem_cons_of_mem _ h, ?_, Nat.le_of_eq List.length_cons⟩
    rw [sumL]
    show sz (entF x) + sumL t.2 ≤ _
    omega
/-- Fields that all have room: each is there behind them. -/
theorem all_keeps : ∀ (L : List Fld) (t : Tab), (∀ x ∈ L, x.never = false) → sumL t.2 + sumF L ≤ t.1 →
    (all t L).2.1 = t.1 ∧ (∀ x ∈ L, entF x ∈ fixedT ++ (all t L).2.2) ∧ (∀ e, e ∈ t.2 → e ∈ (all t L).2.2) ∧ (all t L).2.2.length ≤ t.2.length + L.length
  | [], t, _, _ => by
    rw [all]
    exact ⟨rfl, fun x h => absurd h (List.not_mem_nil), fun e h => h, Nat.le_refl _⟩
  | x :: L, t, hn, hr => by
    have e0 : sumF (x :: L) = sz (entF x) + sumF L := rfl
    rw [e0] at hr
    obtain ⟨h1, h2, h3, h4, h5⟩ := one_keeps t x (hn x List.mem_cons_self) (by omega)
    obtain ⟨i1, i2, i3, i4⟩ := all_keeps L (one t x).2 (fun y h => hn y (List.mem_cons_of_mem _ h)) (by rw [h1]; omega)
    have e : (all t (x :: L)).2 = (all (one t x).2 L).2 := by rw [all]
    rw [e]
    refine ⟨i1.trans h1, fun y hy => ?_, fun y hy => i3 y (h3 y hy), by rw [List.length_cons]; omega⟩
    rcases List.mem_cons.1 hy with rfl | hy
    · rcases List.mem_append.1 h2 with h | h
      · exact List.mem_append_left _ h
      · exact List.mem_append_right _ (i3 _ h)
    · exact i2 y hy
theorem putL_one (k : Nat) (h : k < 127) : (putL 127 128 k).length = 1 := by
  unfold putL
  rw [if_pos h]
  rfl
/-- Fields that are all there, within reach of a byte: a byte each, and the table stands. -/
theorem all_again : ∀ (L : List Fld) (t : Tab), (∀ x ∈ L, x.never = false ∧ entF x ∈ fixedT ++ t.2) → (fixedT ++ t.2).length < 127 → (all t L).1.length = L.length ∧ (all t L).2 = t
  | [], _, _, _ => ⟨rfl, rfl⟩
  | x :: L, t, h, hl => by
    obtain ⟨hn, hm⟩ := h x List.mem_cons_self
    obtain ⟨k, hk⟩ := findT_mem hm
    have hk2 := (find_whole hk).2.1
    have e : one t x = (putL 127 128 k, t) := by
      unfold one
      rw [hk, if_neg (by rw [hn]; decide)]
      rfl
    obtain ⟨i1, i2⟩ := all_again L t (fun y hy => h y (List.mem_cons_of_mem _ hy)) hl
    rw [all, e]
    refine ⟨?_, i2⟩
    show (putL 127 128 k ++ (all t L).1).length = _
    rw [List.length_append, putL_one k (by omega), i1, List.length_cons, Nat.add_comm]
theorem heads_nil (t : Tab) : heads (t, []) = [] := by
  show ((if t.1 < t.1 then putL 31 32 t.1 else []) ++ if ([] : List Nat) = [] then [] else putL 31 32 t.1) = []
  rw [if_neg (Nat.lt_irrefl _), if_pos rfl]
  rfl
/-- What is written a second time, where the table has room for all of it: a byte a field; the table stands. -/
theorem short (L : List Fld) (hn : ∀ x ∈ L, x.never = false) (hs : sumF L ≤ 4096) (hl : L.length ≤ 40) :
    (wrote (behind (newT 4096, []) L) L).length = L.length ∧ behind (behind (newT 4096, []) L) L = behind (newT 4096, []) L := by
  obtain ⟨_, h2, _, h4⟩ := all_keeps L (newT 4096) hn (by show 0 + sumF L ≤ 4096; omega)
  have hlen : (fixedT ++ (all (newT 4096) L).2.2).length < 127 := by
    have : (newT 4096).2.length = 0 := rfl
    rw [List.length_append, fixedT_len]
    omega
  obtain ⟨a1, a2⟩ := all_again L (all (newT 4096) L).2 (fun x hx => ⟨hn x hx, h2 x hx⟩) hlen
  unfold wrote behind
  rw [heads_nil, List.nil_append]
  exact ⟨a1, by rw [a2]⟩
/-- A field that is never to be put into a table leaves it. -/
theorem never_stays (c : Enc) (x : Fld) (h : x.never = true) : behind c [x] = (c.1, []) := by
  unfold behind
  rw [all, all]
  unfold one
  rw [if_pos h]
end Go.Proofs.Ytamgnbjdeoklbaa.Pk
