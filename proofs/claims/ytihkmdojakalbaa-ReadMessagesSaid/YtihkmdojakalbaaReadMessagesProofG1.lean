/- Texts of one proof, one behind the other: Bytes, LowMath, NameMath, NmMath, NumMath, NumBe, NumGet, NmAt, RecMath. -/
import Derived.Test.YtihkmdojakalbaaProg
import Derived.WalkKit
import Derived.OwnWalk
import Derived.Lib.Hide
import Derived.Lib.Strings
import Derived.Lib.ConvBytes
import Derived.Lib.BufferRead
import Derived.Lib.UnsafeStr
import Derived.Laws.AppendOwn
import Derived.Laws.IdiomStrings
import Derived.Laws.Rows
import Derived.Laws.Bits64b
import Derived.Outline
import Derived.WalkSpells
import Derived.IntWalk

/- Texts as lists of bytes; bytes that a call gathered in a slice of its own, and their text. No condition. -/
namespace Go.Proofs.Ytihkmdojakalbaa.Bytes
open Go Go.RowKit

/-- A text of these bytes. -/
def mk (l : List UInt8) : ByteArray := ⟨l.toArray⟩
theorem mk_list (l : List UInt8) : (mk l).data.toList = l := rfl
theorem mk_size (l : List UInt8) : (mk l).size = l.length := by
  rw [Lib.size_eq, mk_list]
theorem list_inj {s t : ByteArray} (h : s.data.toList = t.data.toList) : s = t := ByteArray.ext (Array.toList_inj.1 h)
theorem mk_data (s : ByteArray) : mk s.data.toList = s := list_inj rfl
theorem mk_inj {a b : List UInt8} (h : mk a = mk b) : a = b := by
  have := congrArg (fun s => s.data.toList) h
  exact this
theorem cat_list (s t : ByteArray) : (s ++ t).data.toList = s.data.toList ++ t.data.toList := by rw [ByteArray.data_append, Array.toList_append]
theorem mk_cat (a b : List UInt8) : mk a ++ mk b = mk (a ++ b) := by
  apply list_inj
  rw [cat_list]
  rfl
theorem eq_toList {s t : ByteArray} : (s.toList == t.toList) = decide (s = t) := by
  rw [Lib.toList_data, Lib.toList_data]
  by_cases h : s = t
  · subst h; simp
  · have : s.data.toList ≠ t.data.toList := fun e => h (list_inj e)
    rw [decide_eq_false h]
    exact beq_eq_false_iff_ne.2 this
theorem ne_toList {s t : ByteArray} (h : s ≠ t) : (s.toList == t.toList) = false := by rw [eq_toList]; simp [h]
theorem byte_all {p q : UInt8 → Bool} (h : ((List.range 256).all fun i => p (UInt8.ofNat i) == q (UInt8.ofNat i)) = true) (c : UInt8) : p c = q c := by
  have := List.all_eq_true.1 h c.toNat (List.mem_range.2 c.toNat_lt)
  rw [UInt8.ofNat_toNat] at this
  exact eq_of_beq this
theorem take_snoc {l : List UInt8} {k : Nat} (h : k < l.length) : l.take (k + 1) = l.take k ++ [l.getD k 0] := by
  rw [List.take_succ_eq_append_getElem h, List.getD_eq_getElem?_getD, List.getElem?_eq_getElem h]
  rfl
theorem drop_cons {l : List UInt8} {k : Nat} (h : k < l.length) : l.drop k = l.getD k 0 :: l.drop (k + 1) := by
  rw [List.drop_eq_getElem_cons h, List.getD_eq_getElem?_getD, List.getElem?_eq_getElem h]
  rfl
theorem getD_byte {s : ByteArray} {k : Nat} (h : k < s.size) : s.data.toList.getD k 0 = s[k] := by
  have h' : k < s.data.toList.length := by rw [← Lib.size_eq]; exact h
  rw [List.getD_eq_getElem?_getD, List.getElem?_eq_getElem h']
  rfl
theorem extract_list (s : ByteArray) (i j : Nat) : (s.extract i j).data.toList = (s.data.toList.take j).drop i := by
  rw [ByteArray.data_extract, Array.toList_extract, List.extract_eq_take_drop, List.drop_take]

theorem info5 : (Try.prog.info? 5).map (fun i => (i.zero, i.size, i.bytes)) = some (some (.int .u8 0), 1, 1) := by kernel_rfl
/-- The bytes as cells. -/
def byteCells (l : List UInt8) : List Value := l.map fun b => Value.int .u8 (b.toNat : Int)
theorem byteCells_cat (a b : List UInt8) : byteCells (a ++ b) = byteCells a ++ byteCells b := List.map_append ..
theorem byteCells_one (x : UInt8) : byteCells [x] = [.int .u8 (x.toNat : Int)] := rfl
theorem byteCells_len (l : List UInt8) : (byteCells l).length = l.length := List.length_map ..
/-- string(b) of a row that the call gathered itself. -/
theorem convert_own {W : World} {base n : Nat} {v : Value} {l : List UInt8} (h : W.ownsRow base 5 1 v n (byteCells l)) :
    (convert 71 9 v).run Try.prog W = .ok (.string (mk l)) W := by
  have hl : l.length = n := by have := h.1; simpa [byteCells] using this
  rcases h.2 with ⟨rfl, h0⟩ | ⟨g, cap, cur, rfl, _⟩
  · have : l = [] := List.length_eq_zero_iff.1 (by omega)
    subst this
    exact Lib.run_convert_nil_bytes W _ _ 5 0 Try.underlying71 Try.underlying5 Try.underlying9
  · have hc := h.cells (g := g) rfl
    subst hl
    refine run_convert_bytes_back W _ _ 5 ⟨g, 0, none⟩ cap l Try.underlying71 Try.underlying5 Try.underlying9 (fun j hj => hc j _ ?_)
    simp [byteCells, hj]
/-- string([]byte{..}) of a block that was just laid. -/
theorem conv_new (W : World) (l : List UInt8) (cs : Array Value) (n : Nat) (h : cs.toList = byteCells l) (hn : l.length = n) :
    (convert 71 9 (.slice (some ⟨W.heap.size, 0, none⟩) n n)).run Try.prog (W.alloc (.cells cs 5)) = .ok (.string (mk l)) (W.alloc (.cells cs 5)) := by
  subst hn
  refine run_convert_bytes_back _ _ _ 5 ⟨W.heap.size, 0, none⟩ l.length l Try.underlying71 Try.underlying5 Try.underlying9 (fun j hj => ?_)
  rw [show ((⟨W.heap.size, 0, none⟩ : Addr).add j) = ⟨W.heap.size, j, none⟩ from by unfold Addr.add; split <;> simp_all]
  rw [Lib.cell_of_heap (heap_alloc_new W _), ← Array.getElem?_toList, h]
  simp [byteCells, hj]
/-- One append of one byte to a row of one's own: what it leaves. -/
theorem own_step {wr w1 w : World} {g k : Nat} {u v' : Value} {o : Obj} {l : List UInt8} {x : UInt8} {z : Int} (hO : wr.ownsRow g 5 1 u k (byteCells l)) (hB : Below g w wr) (hg : w.heap.size = g) (hz : (x.toNat : Int) = z)
    (hown : w1.ownsRow g 5 1 v' (k + 1) (byteCells l ++ [.int .u8 z])) (hgrow : (wr.alloc o).grownBy w1 u.ownBlock) :
    w1.ownsRow g 5 1 v' (k + 1) (byteCells (l ++ [x])) ∧ Below g w w1 := by
  refine ⟨?_, ?_⟩
  · rw [byteCells_cat, byteCells_one, hz]
    exact hown
  · have hle : g ≤ wr.heap.size := by have := hB.size; omega
    exact (hB.alloc hle o).grown hgrow (by have := (Below.refl 0 wr).alloc (Nat.zero_le _) o; have := this.size; omega) (fun b hb => (hO.lt b hb).1)
/-- One append of some bytes to a row of one's own: what it leaves. -/
theorem own_more {wr w1 w : World} {g k : Nat} {u v' : Value} {o : Obj} {l xs : List UInt8} {cs : List Value} (hO : wr.ownsRow g 5 1 u k (byteCells l)) (hB : Below g w wr) (hg : w.heap.size = g) (hz : cs = byteCells xs)
    (hown : w1.ownsRow g 5 1 v' (k + cs.length) (byteCells l ++ cs)) (hgrow : (wr.alloc o).grownBy w1 u.ownBlock) :
    w1.ownsRow g 5 1 v' (k + xs.length) (byteCells (l ++ xs)) ∧ Below g w w1 := by
  subst hz
  refine ⟨?_, ?_⟩
  · rw [byteCells_cat]
    rw [byteCells_len] at hown
    exact hown
  · have hle : g ≤ wr.heap.size := by have := hB.size; omega
    exact (hB.alloc hle o).grown hgrow (by have := (Below.refl 0 wr).alloc (Nat.zero_le _) o; have := this.size; omega) (fun b hb => (hO.lt b hb).1)
/-- What is owned stays so behind what writes new blocks alone. -/
theorem own_below {wr w1 : World} {g n : Nat} {e : TypeId} {v : Value} {xs : List Value} (h : wr.ownsRow g e 1 v n xs) (hB : Below wr.heap.size wr w1) : w1.ownsRow g e 1 v n xs :=
  h.kept (row := none) ⟨hB.os, hB.tape, hB.output, hB.size, fun k hk _ => hB.block k hk⟩ (by cases v.ownBlock <;> simp)
end Go.Proofs.Ytihkmdojakalbaa.Bytes

/- Letters A to Z as a to z, over bytes. No program, no condition. -/
namespace Go.Proofs.Ytihkmdojakalbaa.Low
open Go Go.RowKit Bytes

/-- A letter A to Z as a to z. -/
def lowB (c : UInt8) : UInt8 := if 65 ≤ c.toNat ∧ c.toNat ≤ 90 then c + 32 else c
theorem lowB_up {c : UInt8} (h1 : 65 ≤ c.toNat) (h2 : c.toNat ≤ 90) : (lowB c).toNat = c.toNat + 32 := by
  unfold lowB
  rw [if_pos ⟨h1, h2⟩, UInt8.toNat_add]
  show (c.toNat + 32) % 256 = _
  omega
theorem lowB_no {c : UInt8} (h : ¬ (65 ≤ c.toNat ∧ c.toNat ≤ 90)) : lowB c = c := if_neg h
theorem lowB_low (c : UInt8) : lowB (lowB c) = lowB c := by
  by_cases h : 65 ≤ c.toNat ∧ c.toNat ≤ 90
  · exact lowB_no (by rw [lowB_up h.1 h.2]; omega)
  · rw [lowB_no h, lowB_no h]
def lowL (l : List UInt8) : List UInt8 := l.map lowB
theorem lowL_low (l : List UInt8) : lowL (lowL l) = lowL l := by simp [lowL, lowB_low]
def foldS (s : ByteArray) : ByteArray := mk (lowL s.data.toList)
theorem foldS_size (s : ByteArray) : (foldS s).size = s.size := by rw [foldS, mk_size, lowL, List.length_map, ← Lib.size_eq]
theorem foldS_fold (s : ByteArray) : foldS (foldS s) = foldS s := by unfold foldS; rw [mk_list, lowL_low]
theorem foldS_cat (s t : ByteArray) : foldS (s ++ t) = foldS s ++ foldS t := by
  apply list_inj
  rw [cat_list]
  simp only [foldS, mk_list, cat_list, lowL, List.map_append]

/-- Is a byte one from a to b? -/
def inB (a b : Nat) (c : UInt8) : Bool := decide (a ≤ c.toNat ∧ c.toNat ≤ b)

end Go.Proofs.Ytihkmdojakalbaa.Low

/- Domain names as lists of bytes: labels and the bytes in which they are sent, their texts, and how a text is read. No program, no condition. -/
namespace Go.Proofs.Ytihkmdojakalbaa.NameMath
open Go Bytes Low

/-- Labels, each with its length ahead of it. -/
def wire : List (List UInt8) → List UInt8
  | [] => []
  | l :: L => UInt8.ofNat l.length :: (l ++ wire L)
def nameL (L : List (List UInt8)) : List UInt8 := wire L ++ [0]
def okLab (l : List UInt8) : Bool := decide (1 ≤ l.length ∧ l.length ≤ 63)
theorem okLab_iff {l : List UInt8} : okLab l = true ↔ 1 ≤ l.length ∧ l.length ≤ 63 := by unfold okLab; exact decide_eq_true_iff
theorem okLab_no {l : List UInt8} (h : ¬ (1 ≤ l.length ∧ l.length ≤ 63)) : okLab l = false := decide_eq_false h

/-- The labels that bytes tell, however many these are. -/
def lbs : List UInt8 → Option (List (List UInt8))
  | [] => none
  | n :: r => if n.toNat = 0 then (if r.length = 0 then some [] else none) else if 63 < n.toNat ∨ r.length < n.toNat then none else (lbs (r.drop n.toNat)).map (r.take n.toNat :: ·)
  termination_by s => s.length
  decreasing_by simp only [List.length_drop, List.length_cons]; omega
theorem lbs_nil : lbs [] = none := by rw [lbs]
theorem lbs_zero {n : UInt8} {r : List UInt8} (h : n.toNat = 0) : lbs (n :: r) = if r.length = 0 then some [] else none := by rw [lbs, if_pos h]
theorem lbs_bad {n : UInt8} {r : List UInt8} (h : n.toNat ≠ 0) (h2 : 63 < n.toNat ∨ r.length < n.toNat) : lbs (n :: r) = none := by rw [lbs, if_neg h, if_pos h2]
theorem lbs_more {n : UInt8} {r : List UInt8} (h : n.toNat ≠ 0) (h2 : n.toNat ≤ 63) (h3 : n.toNat ≤ r.length) : lbs (n :: r) = (lbs (r.drop n.toNat)).map (r.take n.toNat :: ·) := by
  rw [lbs, if_neg h, if_neg (by omega)]

theorem ofNat_len {l : List UInt8} (h : okLab l = true) : (UInt8.ofNat l.length).toNat = l.length := by
  have := okLab_iff.1 h
  rw [UInt8.toNat_ofNat']
  have e : (2 : Nat) ^ 8 = 256 := rfl
  omega
theorem lbs_name {L : List (List UInt8)} (h : L.all okLab = true) : lbs (nameL L) = some L := by
  induction L with
  | nil => unfold nameL wire; rw [List.nil_append, lbs_zero rfl]; rfl
  | cons l L ih =>
    rw [List.all_cons, Bool.and_eq_true] at h
    have hl := okLab_iff.1 h.1
    have e := ofNat_len h.1
    unfold nameL wire
    rw [List.cons_append, lbs_more (by omega) (by omega) (by rw [e]; simp only [List.length_append]; omega), e, List.append_assoc, List.drop_left, List.take_left]
    show (lbs (nameL L)).map _ = _
    rw [ih h.2]
    rfl
theorem name_lbs {s : List UInt8} : ∀ {L : List (List UInt8)}, lbs s = some L → nameL L = s ∧ L.all okLab = true := by
  fun_induction lbs s with
  | case1 => intro L h; cases h
  | case2 n r h0 h1 =>
    intro L h
    injection h with h
    subst h
    have : r = [] := List.length_eq_zero_iff.1 h1
    subst this
    have : n = 0 := UInt8.toNat_inj.1 h0
    subst this
    exact ⟨rfl, rfl⟩
  | case3 n r h0 h1 => intro L h; cases h
  | case4 n r h0 h1 => intro L h; cases h
  | case5 n r h0 h1 ih =>
    intro L h
    obtain ⟨M, hM, rfl⟩ := Option.map_eq_some_iff.1 h
    obtain ⟨i1, i2⟩ := ih hM
    have hlen : (r.take n.toNat).length = n.toNat := by rw [List.length_take]; omega
    refine ⟨?_, ?_⟩
    · unfold nameL wire
      rw [hlen, UInt8.ofNat_toNat, List.cons_append, List.append_assoc]
      show n :: (r.take n.toNat ++ nameL M) = n :: r
      rw [i1, List.take_append_drop]
    · rw [List.all_cons, i2, okLab_iff.2 (by omega)]
      rfl

/-- The labels of a name. -/
def labels (s : List UInt8) : Option (List (List UInt8)) := if s.length ≤ 255 then lbs s else none
def isN (s : List UInt8) : Bool := (labels s).isSome
def labL (s : List UInt8) : List (List UInt8) := (labels s).getD []
theorem labels_some {s : List UInt8} {L : List (List UInt8)} (h : labels s = some L) : nameL L = s ∧ L.all okLab = true ∧ s.length ≤ 255 := by
  unfold labels at h
  by_cases hs : s.length ≤ 255
  · rw [if_pos hs] at h
    exact ⟨(name_lbs h).1, (name_lbs h).2, hs⟩
  · rw [if_neg hs] at h
    cases h
theorem labels_name {L : List (List UInt8)} (h : L.all okLab = true) (h2 : (nameL L).length ≤ 255) : labels (nameL L) = some L := by
  unfold labels
  rw [if_pos h2, lbs_name h]
theorem isN_some {s : List UInt8} (h : isN s = true) : ∃ L, labels s = some L := Option.isSome_iff_exists.1 h
theorem isN_none {s : List UInt8} (h : isN s = false) : labels s = none := by
  unfold isN at h
  cases hl : labels s with
  | none => rfl
  | some L => rw [hl] at h; cases h
theorem isN_of {s : List UInt8} {L : List (List UInt8)} (h : labels s = some L) : isN s = true := by unfold isN; rw [h]; rfl

/-- What Make says of labels: 0, ErrLabel or ErrName. -/
def makeE (L : List (List UInt8)) : Nat := if L.all okLab = true then (if (nameL L).length ≤ 255 then 0 else 40) else 41
def makeL (L : List (List UInt8)) : List UInt8 := if makeE L = 0 then nameL L else []
theorem makeE_41 {L : List (List UInt8)} (h : L.all okLab = false) : makeE L = 41 := by unfold makeE; rw [if_neg (by rw [h]; decide)]
theorem makeE_40 {L : List (List UInt8)} (h : L.all okLab = true) (h2 : 255 < (nameL L).length) : makeE L = 40 := by unfold makeE; rw [if_pos h, if_neg (by omega)]
theorem makeE_0 {L : List (List UInt8)} (h : L.all okLab = true) (h2 : (nameL L).length ≤ 255) : makeE L = 0 := by unfold makeE; rw [if_pos h, if_pos h2]
theorem makeE_ok {L : List (List UInt8)} (h : makeE L = 0) : L.all okLab = true ∧ (nameL L).length ≤ 255 := by
  by_cases h1 : L.all okLab = true
  · by_cases h2 : (nameL L).length ≤ 255
    · exact ⟨h1, h2⟩
    · rw [makeE_40 h1 (by omega)] at h; cases h
  · rw [makeE_41 (Bool.eq_false_iff.2 h1)] at h; cases h
theorem makeL_no {L : List (List UInt8)} (h : makeE L ≠ 0) : makeL L = [] := if_neg h
theorem makeL_ok {L : List (List UInt8)} (h : makeE L = 0) : makeL L = nameL L := if_pos h
theorem make_labels {s : List UInt8} {L : List (List UInt8)} (h : labels s = some L) : makeE L = 0 ∧ makeL L = s := by
  obtain ⟨h1, h2, h3⟩ := labels_some h
  have e : makeE L = 0 := makeE_0 h2 (by rw [h1]; exact h3)
  exact ⟨e, by rw [makeL_ok e, h1]⟩
theorem labels_make {L : List (List UInt8)} (h : makeE L = 0) : labels (makeL L) = some L := by
  obtain ⟨h1, h2⟩ := makeE_ok h
  rw [makeL_ok h]
  exact labels_name h1 h2
theorem makeE_or (L : List (List UInt8)) : makeE L = 0 ∨ makeE L = 40 ∨ makeE L = 41 := by
  unfold makeE
  split
  · split
    · exact Or.inl rfl
    · exact Or.inr (Or.inl rfl)
  · exact Or.inr (Or.inr rfl)

theorem wire_append (A B : List (List UInt8)) : wire (A ++ B) = wire A ++ wire B := by
  induction A with
  | nil => rfl
  | cons l A ih => simp only [List.cons_append, wire, ih, List.append_assoc]
theorem wire_one (l : List UInt8) : wire [l] = UInt8.ofNat l.length :: l := by simp [wire]
theorem wire_snoc (A : List (List UInt8)) (l : List UInt8) : wire (A ++ [l]) = wire A ++ UInt8.ofNat l.length :: l := by rw [wire_append, wire_one]
theorem wire_len_snoc (A : List (List UInt8)) (l : List UInt8) : (wire (A ++ [l])).length = (wire A).length + (1 + l.length) := by
  rw [wire_snoc, List.length_append, List.length_cons]; omega
theorem nameL_len (L : List (List UInt8)) : (nameL L).length = (wire L).length + 1 := by unfold nameL; rw [List.length_append]; rfl
theorem wire_take_le (L : List (List UInt8)) (k : Nat) : (wire (L.take k)).length ≤ (wire L).length := by
  have := congrArg (fun l => (wire l).length) (List.take_append_drop k L)
  simp only [wire_append, List.length_append] at this
  omega
theorem lab_take {L : List (List UInt8)} {k : Nat} (h : k < L.length) : L.take (k + 1) = L.take k ++ [L.getD k []] := by
  rw [List.take_succ_eq_append_getElem h, List.getD_eq_getElem?_getD, List.getElem?_eq_getElem h]
  rfl
theorem lab_drop {L : List (List UInt8)} {k : Nat} (h : k < L.length) : L.drop k = L.getD k [] :: L.drop (k + 1) := by
  rw [List.drop_eq_getElem_cons h, List.getD_eq_getElem?_getD, List.getElem?_eq_getElem h]
  rfl
theorem all_take {L : List (List UInt8)} {k : Nat} {p : List UInt8 → Bool} (h : (L.take k).all p = true) (hk : k < L.length) (h2 : p (L.getD k []) = true) : (L.take (k + 1)).all p = true := by
  rw [lab_take hk, List.all_append, h, Bool.true_and, List.all_cons, h2]
  rfl
theorem all_no {L : List (List UInt8)} {k : Nat} {p : List UInt8 → Bool} (hk : k < L.length) (h2 : p (L.getD k []) = false) : L.all p = false := by
  rw [List.all_eq_false]
  refine ⟨L.getD k [], ?_, by rw [h2]; simp⟩
  rw [List.getD_eq_getElem?_getD, List.getElem?_eq_getElem hk]
  exact List.getElem_mem hk
theorem wire_take_snoc {L : List (List UInt8)} {k : Nat} (h : k < L.length) : wire (L.take (k + 1)) = wire (L.take k) ++ UInt8.ofNat (L.getD k []).length :: L.getD k [] := by rw [lab_take h, wire_snoc]
theorem wire_take_all {L : List (List UInt8)} {k : Nat} (h : L.length ≤ k) : wire (L.take k) = wire L := by rw [List.take_of_length_le h]

/-! Folded names. -/
def lowLs (L : List (List UInt8)) : List (List UInt8) := L.map lowL
theorem low_len (l : List UInt8) : (lowL l).length = l.length := List.length_map ..
theorem low_app (a b : List UInt8) : lowL (a ++ b) = lowL a ++ lowL b := List.map_append ..
theorem lowB_small {c : UInt8} (h : c.toNat ≤ 64) : lowB c = c := lowB_no (by omega)
theorem okLab_low (l : List UInt8) : okLab (lowL l) = okLab l := by unfold okLab; rw [low_len]
theorem all_low (L : List (List UInt8)) : (lowLs L).all okLab = L.all okLab := by
  induction L with
  | nil => rfl
  | cons l L ih =>
    show ((lowL l :: lowLs L).all okLab) = _
    rw [List.all_cons, List.all_cons, okLab_low, ih]
theorem wire_low {L : List (List UInt8)} (h : L.all okLab = true) : wire (lowLs L) = lowL (wire L) := by
  induction L with
  | nil => rfl
  | cons l L ih =>
    rw [List.all_cons, Bool.and_eq_true] at h
    have hl := okLab_iff.1 h.1
    show UInt8.ofNat (lowL l).length :: (lowL l ++ wire (lowLs L)) = lowL (UInt8.ofNat l.length :: (l ++ wire L))
    rw [low_len, ih h.2]
    show _ = lowB _ :: lowL (l ++ wire L)
    rw [low_app, lowB_small (by rw [ofNat_len h.1]; omega)]
theorem name_low {L : List (List UInt8)} (h : L.all okLab = true) : nameL (lowLs L) = lowL (nameL L) := by
  unfold nameL
  rw [wire_low h, low_app]
  rfl
theorem labels_low {s : List UInt8} {L : List (List UInt8)} (h : labels s = some L) : labels (lowL s) = some (lowLs L) := by
  obtain ⟨h1, h2, h3⟩ := labels_some h
  rw [← h1, ← name_low h2]
  refine labels_name (by rw [all_low]; exact h2) ?_
  rw [name_low h2, low_len, h1]
  exact h3
theorem isN_low {s : List UInt8} (h : isN s = true) : isN (lowL s) = true := by
  obtain ⟨L, hL⟩ := isN_some h
  exact isN_of (labels_low hL)
/-- Fold of bytes: nothing of what is no name. -/
def foldN (s : List UInt8) : List UInt8 := if isN s = true then lowL s else []
def sameN (a b : List UInt8) : Bool := isN a && (isN b && decide (lowL a = lowL b))
theorem fold_make {s : List UInt8} {L : List (List UInt8)} (h : labels s = some L) : makeL (lowLs L) = lowL s := (make_labels (labels_low h)).2
theorem foldN_yes {s : List UInt8} (h : isN s = true) : foldN s = lowL s := if_pos h
theorem foldN_no {s : List UInt8} (h : isN s = false) : foldN s = [] := if_neg (by rw [h]; decide)

/-! Zones. -/
def underL (A B : List (List UInt8)) : Bool := decide (B.length ≤ A.length ∧ lowLs (A.drop (A.length - B.length)) = lowLs B)
def underN (a b : List UInt8) : Bool := isN a && (isN b && underL (labL a) (labL b))
theorem lowLs_len (L : List (List UInt8)) : (lowLs L).length = L.length := List.length_map ..
theorem labL_of {s : List UInt8} {L : List (List UInt8)} (h : labels s = some L) : labL s = L := by unfold labL; rw [h]; rfl
theorem labL_no {s : List UInt8} (h : isN s = false) : labL s = [] := by unfold labL; rw [isN_none h]; rfl
theorem underN_of {a b : List UInt8} {A B : List (List UInt8)} (ha : labels a = some A) (hb : labels b = some B) : underN a b = underL A B := by
  unfold underN
  rw [isN_of ha, isN_of hb, labL_of ha, labL_of hb]
  rfl
theorem sameN_of {a b : List UInt8} {A B : List (List UInt8)} (ha : labels a = some A) (hb : labels b = some B) : sameN a b = decide (lowLs A = lowLs B) := by
  unfold sameN
  rw [isN_of ha, isN_of hb]
  have e : (lowL a = lowL b) = (lowLs A = lowLs B) := by
    refine propext ⟨fun h => ?_, fun h => ?_⟩
    · have h1 := labels_low ha
      rw [h, labels_low hb] at h1
      injection h1 with h1
      exact h1.symm
    · rw [← fold_make ha, ← fold_make hb, h]
  simp only [e, Bool.true_and]
theorem underL_self (A : List (List UInt8)) : underL A A = true := decide_eq_true ⟨Nat.le_refl _, by rw [Nat.sub_self]; rfl⟩
theorem underL_root (A : List (List UInt8)) : underL A [] = true := decide_eq_true ⟨Nat.zero_le _, by rw [List.length_nil, Nat.sub_zero, List.drop_length]⟩
theorem underL_both {A B : List (List UInt8)} (h : underL A B = true) : underL B A = decide (lowLs A = lowLs B) := by
  obtain ⟨h1, h2⟩ := of_decide_eq_true h
  unfold underL
  refine decide_eq_decide.2 ⟨fun ⟨h3, h4⟩ => ?_, fun h3 => ?_⟩
  · rw [show B.length - A.length = 0 by omega] at h4
    exact h4.symm
  · have e := congrArg List.length h3
    rw [lowLs_len, lowLs_len] at e
    refine ⟨by omega, ?_⟩
    rw [show B.length - A.length = 0 by omega]
    exact h3.symm
theorem underL_cons (l : List UInt8) (A : List (List UInt8)) : underL (l :: A) A = true := decide_eq_true ⟨by simp only [List.length_cons]; omega, by
  rw [List.length_cons, show A.length + 1 - A.length = 1 by omega]; rfl⟩
theorem underL_not (l : List UInt8) (A : List (List UInt8)) : underL A (l :: A) = false := decide_eq_false (fun h => by have := h.1; simp only [List.length_cons] at this; omega)
theorem underL_more {A B : List (List UInt8)} (l : List UInt8) (h : underL A B = true) : underL (l :: A) B = true := by
  obtain ⟨h1, h2⟩ := of_decide_eq_true h
  refine decide_eq_true ⟨by simp only [List.length_cons]; omega, ?_⟩
  rw [List.length_cons, show A.length + 1 - B.length = (A.length - B.length) + 1 by omega]
  exact h2
theorem labels_root : labels [0] = some [] := by
  unfold labels
  rw [if_pos (by decide), lbs_zero rfl]
  rfl
theorem nil_root {s : List UInt8} (h : labels s = some []) : s = [0] := (labels_some h).1.symm
end Go.Proofs.Ytihkmdojakalbaa.NameMath

/- Names in a message as lists of bytes: a run of labels, and how pointers lead it on. No program, no condition. -/
namespace Go.Proofs.Ytihkmdojakalbaa.NmMath
open Go Bytes NameMath

/-- The byte at a place. -/
def bt (l : List UInt8) (k : Nat) : Nat := (l.getD k 0).toNat
theorem bt_lt (l : List UInt8) (k : Nat) : bt l k < 256 := UInt8.toNat_lt _
/-- The piece of c bytes behind a place. -/
def cut (l : List UInt8) (p n : Nat) : List UInt8 := (l.drop p).take n
theorem cut_len {l : List UInt8} {p n : Nat} (h : p + n ≤ l.length) : (cut l p n).length = n := by unfold cut; rw [List.length_take, List.length_drop]; omega
/-- Labels from a place on, ahead of place E: what they are with those in front, and where they end (at a byte 0, or the first of a pointer); or the error. K: what is told where bytes are lacking. -/
def run (l : List UInt8) (E K : Nat) (p : Nat) (o : List UInt8) : Except Nat (List UInt8 × Nat) :=
  if p < E then
    if bt l p = 0 ∨ 192 ≤ bt l p then .ok (o, p)
    else if 64 ≤ bt l p then .error 41
    else if p + 1 + bt l p ≤ E then
      if 255 < o.length + (bt l p + 1) + 1 then .error 40
      else run l E K (p + 1 + bt l p) (o ++ cut l p (bt l p + 1))
    else .error K
  else .error K
  termination_by E - p
  decreasing_by omega
section
variable {l : List UInt8} {E K p : Nat} {o : List UInt8}
theorem run_lack (h : E ≤ p) : run l E K p o = .error K := by rw [run, if_neg (by omega)]
theorem run_end (h : p < E) (h0 : bt l p = 0 ∨ 192 ≤ bt l p) : run l E K p o = .ok (o, p) := by rw [run, if_pos h, if_pos h0]
theorem run_label (h : p < E) (h1 : 64 ≤ bt l p) (h2 : bt l p < 192) : run l E K p o = .error 41 := by rw [run, if_pos h, if_neg (by omega), if_pos h1]
theorem run_short (h : p < E) (h1 : bt l p < 64) (h2 : E < p + 1 + bt l p) : run l E K p o = .error K := by rw [run, if_pos h, if_neg (by omega), if_neg (by omega), if_neg (by omega)]
theorem run_long (h0 : bt l p ≠ 0) (h1 : bt l p < 64) (h2 : p + 1 + bt l p ≤ E) (h3 : 253 < o.length + bt l p) : run l E K p o = .error 40 := by rw [run, if_pos (by omega), if_neg (by omega), if_neg (by omega), if_pos h2, if_pos (by omega)]
theorem run_more (h0 : bt l p ≠ 0) (h1 : bt l p < 64) (h2 : p + 1 + bt l p ≤ E) (h3 : o.length + bt l p ≤ 253) : run l E K p o = run l E K (p + 1 + bt l p) (o ++ cut l p (bt l p + 1)) := by rw [run, if_pos (by omega), if_neg (by omega), if_neg (by omega), if_pos h2, if_neg (by omega)]
end
/-- Where a run ends. -/
theorem run_ok {l : List UInt8} {E K p : Nat} {o : List UInt8} : ∀ {o' : List UInt8} {q : Nat}, run l E K p o = .ok (o', q) → p ≤ q ∧ q < E ∧ (bt l q = 0 ∨ 192 ≤ bt l q) ∧ (o.length ≤ 254 → o'.length ≤ 254) := by
  fun_induction run l E K p o with
  | case1 p o h h0 => intro o' q e; injection e with e; injection e with e1 e2; subst e1; subst e2; exact ⟨Nat.le_refl _, h, h0, id⟩
  | case2 => intro o' q e; cases e
  | case3 => intro o' q e; cases e
  | case4 p o h h0 h1 h2 h3 ih =>
    intro o' q e
    obtain ⟨i1, i2, i3, i4⟩ := ih e
    refine ⟨by omega, i2, i3, fun ho => i4 ?_⟩
    rw [List.length_append]
    have : (cut l p (bt l p + 1)).length ≤ bt l p + 1 := by unfold cut; rw [List.length_take]; omega
    omega
  | case5 => intro o' q e; cases e
  | case6 => intro o' q e; cases e
theorem run_err {l : List UInt8} {E K p : Nat} {o : List UInt8} : ∀ {k : Nat}, run l E K p o = .error k → k = 40 ∨ k = 41 ∨ k = K := by
  fun_induction run l E K p o with
  | case1 => intro k e; cases e
  | case2 => intro k e; injection e with e; omega
  | case3 => intro k e; injection e with e; omega
  | case4 p o h h0 h1 h2 h3 ih => intro k e; exact ih e
  | case5 => intro k e; injection e with e; omega
  | case6 => intro k e; injection e with e; omega
theorem run_at {l : List UInt8} {E K p : Nat} {o o' : List UInt8} {q : Nat} (h : run l E K p o = .ok (o', q)) : run l E K q o' = .ok (o', q) := by
  obtain ⟨_, h2, h3, _⟩ := run_ok h
  exact run_end h2 h3

/-- The place that a pointer tells. -/
def place (l : List UInt8) (q : Nat) : Nat := (bt l q - 192) * 256 + bt l (q + 1)
theorem place_lt (l : List UInt8) (q : Nat) : place l q < 16384 := by have := bt_lt l q; have := bt_lt l (q + 1); unfold place; omega
/-- The name at place p of a part that began at b, with the labels o in front; behind it is 'next', where a pointer told that already. -/
def nm (l : List UInt8) (E K p b : Nat) (next : Option Nat) (o : List UInt8) : Except Nat (List UInt8 × Nat) :=
  match run l E K p o with
  | .error k => .error k
  | .ok (o', q) =>
    if bt l q = 0 then .ok (o' ++ [0], next.getD (q + 1))
    else if q + 2 ≤ E then
      if h : place l q < b then nm l l.length 2 (place l q) (place l q) (some (next.getD (q + 2))) o' else .error 42
    else .error K
  termination_by b
section
variable {l : List UInt8} {E K p b q : Nat} {next : Option Nat} {o o' : List UInt8}
theorem nm_err {k : Nat} (h : run l E K p o = .error k) : nm l E K p b next o = .error k := by rw [nm, h]
theorem nm_run (h : run l E K p o = .ok (o', q)) : nm l E K p b next o = nm l E K q b next o' := by
  rw [nm, h]
  conv => rhs; rw [nm, run_at h]
theorem nm_lack (h : E ≤ p) : nm l E K p b next o = .error K := nm_err (run_lack h)
theorem nm_zero (h : p < E) (h0 : bt l p = 0) : nm l E K p b next o = .ok (o ++ [0], next.getD (p + 1)) := by rw [nm, run_end h (.inl h0)]; simp only [h0, if_true]
theorem nm_cut (h : p < E) (h0 : 192 ≤ bt l p) (h1 : E < p + 2) : nm l E K p b next o = .error K := by rw [nm, run_end h (.inr h0)]; simp only; rw [if_neg (by omega), if_neg (by omega)]
theorem nm_ahead (h0 : 192 ≤ bt l p) (h1 : p + 2 ≤ E) (h2 : b ≤ place l p) : nm l E K p b next o = .error 42 := by rw [nm, run_end (by omega) (.inr h0)]; simp only; rw [if_neg (by omega), if_pos h1, dif_neg (by omega)]
theorem nm_back (h0 : 192 ≤ bt l p) (h1 : p + 2 ≤ E) (h2 : place l p < b) : nm l E K p b next o = nm l l.length 2 (place l p) (place l p) (some (next.getD (p + 2))) o := by rw [nm, run_end (by omega) (.inr h0)]; simp only; rw [if_neg (by omega), if_pos h1, dif_pos h2]
theorem nm_label (h : p < E) (h1 : 64 ≤ bt l p) (h2 : bt l p < 192) : nm l E K p b next o = .error 41 := nm_err (run_label h h1 h2)
theorem nm_short (h : p < E) (h1 : bt l p < 64) (h2 : E < p + 1 + bt l p) : nm l E K p b next o = .error K := nm_err (run_short h h1 h2)
theorem nm_long (h0 : bt l p ≠ 0) (h1 : bt l p < 64) (h2 : p + 1 + bt l p ≤ E) (h3 : 253 < o.length + bt l p) : nm l E K p b next o = .error 40 := nm_err (run_long h0 h1 h2 h3)
theorem nm_more (h0 : bt l p ≠ 0) (h1 : bt l p < 64) (h2 : p + 1 + bt l p ≤ E) (h3 : o.length + bt l p ≤ 253) : nm l E K p b next o = nm l E K (p + 1 + bt l p) b next (o ++ cut l p (bt l p + 1)) := by
  rw [nm, run_more h0 h1 h2 h3]
  conv => rhs; rw [nm]
end
/-- What is behind a name: no more than the bytes that there are. -/
theorem nm_next {l : List UInt8} {E K p b : Nat} {next : Option Nat} {o : List UInt8} (hE : E ≤ l.length) (hn : ∀ x, next = some x → x ≤ l.length) : ∀ {o' : List UInt8} {n : Nat}, nm l E K p b next o = .ok (o', n) → n ≤ l.length := by
  fun_induction nm l E K p b next o with
  | case1 => intro o' n e; cases e
  | case2 E K p b next o o1 q hr h0 =>
    intro o' n e
    injection e with e
    injection e with e1 e2
    subst e2
    have := (run_ok hr).2.1
    cases next with
    | none => show q + 1 ≤ _; omega
    | some x => exact hn x rfl
  | case3 E K p b next o o1 q hr h0 h1 h2 ih =>
    refine ih (Nat.le_refl _) (fun x e => ?_)
    injection e with e
    subst e
    cases next with
    | none => show q + 2 ≤ _; omega
    | some x => exact hn x rfl
  | case4 => intro o' n e; cases e
  | case5 => intro o' n e; cases e
/-- A name without pointers. -/
def bare (l : List UInt8) (E K p : Nat) (o : List UInt8) : Except Nat (List UInt8 × Nat) :=
  match run l E K p o with
  | .error k => .error k
  | .ok (o', q) => if bt l q = 0 then .ok (o' ++ [0], q + 1) else .error 50
section
variable {l : List UInt8} {E K p q : Nat} {o o' : List UInt8}
theorem bare_err {k : Nat} (h : run l E K p o = .error k) : bare l E K p o = .error k := by unfold bare; rw [h]
theorem bare_zero (h : p < E) (h0 : bt l p = 0) : bare l E K p o = .ok (o ++ [0], p + 1) := by unfold bare; rw [run_end h (.inl h0)]; simp only [h0, if_true]
theorem bare_ptr (h : p < E) (h0 : 192 ≤ bt l p) : bare l E K p o = .error 50 := by unfold bare; rw [run_end h (.inr h0)]; simp only; rw [if_neg (by omega)]
theorem bare_more (h0 : bt l p ≠ 0) (h1 : bt l p < 64) (h2 : p + 1 + bt l p ≤ E) (h3 : o.length + bt l p ≤ 253) : bare l E K p o = bare l E K (p + 1 + bt l p) (o ++ cut l p (bt l p + 1)) := by unfold bare; rw [run_more h0 h1 h2 h3]
end
end Go.Proofs.Ytihkmdojakalbaa.NmMath

/- Plain arithmetic of layer 1: sums and products that stay at the greatest number. No condition. -/
namespace Go.Proofs.Ytihkmdojakalbaa.NumMath

/-- The greatest of 64 bits. -/
def top64 : Int := 18446744073709551615
def sat64 (x : Int) : Int := if 18446744073709551615 < x then 18446744073709551615 else x
def sat32 (x : Int) : Int := if 4294967295 < x then 4294967295 else x

theorem sat64_bd {x : Int} (h : 0 ≤ x) : 0 ≤ sat64 x ∧ sat64 x ≤ 18446744073709551615 := by
  unfold sat64; split <;> omega
theorem sat64_of_le {x : Int} (h : x ≤ 18446744073709551615) : sat64 x = x := by
  unfold sat64; rw [if_neg (by omega)]
theorem sat64_of_lt {x : Int} (h : 18446744073709551615 < x) : sat64 x = 18446744073709551615 := by
  unfold sat64; rw [if_pos h]
theorem sat64_of_ge {x : Int} (h : 18446744073709551615 ≤ x) : sat64 x = 18446744073709551615 := by
  unfold sat64; split <;> omega
theorem sat64_mono {x y : Int} (h : x ≤ y) : sat64 x ≤ sat64 y := by
  unfold sat64; split <;> split <;> omega
theorem sat32_bd {x : Int} (h : 0 ≤ x) : 0 ≤ sat32 x ∧ sat32 x ≤ 4294967295 := by
  unfold sat32; split <;> omega
theorem sat64_add (x y : Int) (hy : 0 ≤ y) : sat64 (sat64 x + y) = sat64 (x + y) := by
  unfold sat64
  by_cases h1 : 18446744073709551615 < x
  · rw [if_pos h1, if_pos (show 18446744073709551615 < x + y by omega)]; split <;> omega
  · rw [if_neg h1]

/-- One round of the product by sums, with a further one behind it. -/
theorem round_more (o a b : Int) (ho : 0 ≤ o) (ha : 0 ≤ a) (hb : 1 ≤ b / 2) :
    sat64 ((if b % 2 = 1 then sat64 (o + a) else o) + sat64 (a + a) * (b / 2)) = sat64 (o + a * b) := by
  obtain ⟨q, hq⟩ : ∃ q, q = b / 2 := ⟨_, rfl⟩
  have hr : b % 2 = 0 ∨ b % 2 = 1 := by omega
  rw [← hq] at hb ⊢
  have e : a * b = (a + a) * q + a * (b % 2) := by
    have h : b = 2 * q + b % 2 := by omega
    have h2 : a * (2 * q) = (a + a) * q := by rw [← Int.mul_assoc, Int.mul_comm a 2, Int.two_mul]
    calc a * b = a * (2 * q + b % 2) := by rw [← h]
      _ = (a + a) * q + a * (b % 2) := by rw [Int.mul_add, h2]
  rw [e]
  have hpos : 0 ≤ (a + a) * q := Int.mul_nonneg (by omega) (by omega)
  have hle : a + a ≤ (a + a) * q := by
    have := Int.mul_le_mul_of_nonneg_left hb (show 0 ≤ a + a by omega)
    simpa using this
  by_cases hs : 18446744073709551615 < a + a
  · rw [sat64_of_lt hs]
    have h1 : (18446744073709551615 : Int) ≤ 18446744073709551615 * q := by omega
    rcases hr with h0 | h0
    · rw [h0, if_neg (by omega), sat64_of_ge (by omega), sat64_of_ge (by omega)]
    · rw [h0, if_pos rfl]
      have := (sat64_bd (show 0 ≤ o + a by omega)).1
      rw [sat64_of_ge (by omega), sat64_of_ge (by omega)]
  · rw [sat64_of_le (show a + a ≤ _ by omega)]
    rcases hr with h0 | h0
    · rw [h0, if_neg (by omega)]; simp
    · rw [h0, if_pos rfl, sat64_add _ _ hpos]
      congr 1; omega

/-- The last round. -/
theorem round_last (o a b : Int) (hb1 : 0 < b) (hb : b / 2 = 0) :
    (if b % 2 = 1 then sat64 (o + a) else o) = sat64 (o + a * b) := by
  have h : b = 1 := by omega
  subst h
  simp
end Go.Proofs.Ytihkmdojakalbaa.NumMath

/- Big-endian numbers, as lists of bytes. No program, no condition. -/
namespace Go.Proofs.Ytihkmdojakalbaa

/-- Big-endian. -/
def be (l : List UInt8) : Nat := l.foldl (fun n c => n * 256 + c.toNat) 0
theorem be_snoc (l : List UInt8) (c : UInt8) : be (l ++ [c]) = be l * 256 + c.toNat := by simp [be, List.foldl_append]
theorem be_lt (l : List UInt8) : be l < 256 ^ l.length := by
  have key : ∀ (l : List UInt8) (a k : Nat), a < 256 ^ k → l.foldl (fun n c => n * 256 + c.toNat) a < 256 ^ (k + l.length) := by
    intro l
    induction l with
    | nil => intro a k h; simpa using h
    | cons c l ih =>
      intro a k h
      rw [List.foldl_cons, List.length_cons, show k + (l.length + 1) = (k + 1) + l.length from by omega]
      refine ih _ _ ?_
      have := c.toNat_lt
      rw [Nat.pow_succ]
      omega
  simpa [be] using key l 0 0 (by simp)
/-- The lowest j bytes of a number, big-endian. -/
def beTail (n : Nat) : Nat → List UInt8
  | 0 => []
  | j + 1 => UInt8.ofNat (n / 256 ^ j) :: beTail n j
theorem beTail_length (n j : Nat) : (beTail n j).length = j := by
  induction j with
  | zero => rfl
  | succ j ih => simp [beTail, ih]
theorem be_cons (c : UInt8) (l : List UInt8) : be (c :: l) = c.toNat * 256 ^ l.length + be l := by
  have key : ∀ (l : List UInt8) (a : Nat), l.foldl (fun n c => n * 256 + c.toNat) a = a * 256 ^ l.length + l.foldl (fun n c => n * 256 + c.toNat) 0 := by
    intro l
    induction l with
    | nil => intro a; simp
    | cons d l ih =>
      intro a
      rw [List.foldl_cons, List.foldl_cons, ih, ih (0 * 256 + d.toNat), List.length_cons, Nat.pow_succ]
      rw [Nat.add_mul, Nat.zero_mul, Nat.zero_add, Nat.mul_assoc, Nat.mul_comm 256, Nat.add_assoc]
  unfold be
  rw [List.foldl_cons, key]
  simp
theorem be_beTail (n j : Nat) : be (beTail n j) = n % 256 ^ j := by
  induction j with
  | zero => simp [beTail, be, Nat.mod_one]
  | succ j ih =>
    rw [beTail, be_cons, beTail_length, ih, Nat.pow_succ, Nat.mod_mul, UInt8.toNat_ofNat']
    have e : (2 : Nat) ^ 8 = 256 := rfl
    rw [e, Nat.add_comm, Nat.mul_comm]

end Go.Proofs.Ytihkmdojakalbaa

/- The contracts of num's holds and Get, and of the document's Part and Get: what stands at a place of a text, big-endian. No condition. -/
namespace Go.Proofs.Ytihkmdojakalbaa
open Go.RowKit NumMath

/-- Has a text of n bytes that many from the place on? -/
def holdsB (n : Nat) (at_ size : Int) : Bool := decide (0 ≤ at_ ∧ 0 ≤ size ∧ at_ + size ≤ n)

set_option maxHeartbeats 400000 in
theorem holds_any (s : ByteArray) (at_ size : Int) (w : World) (hs : s.size ≤ maxLen) (hz1 : -9223372036854775808 ≤ size) (hz : size ≤ 9223372036854775807) (ha1 : -9223372036854775808 ≤ at_) (ha : at_ ≤ 9223372036854775807) :
    Calls Try.prog 87 #[.string s, .int .i64 at_, .int .i64 size] w fun e w' => e = .returned (.bool (holdsB s.size at_ size)) ∧ w = w' := by
  unfold maxLen at hs
  by_cases h1 : 0 ≤ at_
  · by_cases h2 : 0 ≤ size
    · by_cases h3 : size ≤ s.size - at_
      · have e : holdsB s.size at_ size = true := by simp [holdsB]; omega
        have E := Lib.hid e; clear e
        go_enter Try.func87, Try.ntmps87
        go_wp2
        go_ret
        exact ⟨by rw [E.out]; rfl, rfl⟩
      · have e : holdsB s.size at_ size = false := by simp [holdsB]; omega
        have E := Lib.hid e; clear e
        go_enter Try.func87, Try.ntmps87
        go_wp2
        go_ret
        exact ⟨by rw [E.out]; rfl, rfl⟩
    · have e : holdsB s.size at_ size = false := by simp [holdsB]; omega
      have E := Lib.hid e; clear e
      go_enter Try.func87, Try.ntmps87
      go_wp2
      go_ret
      exact ⟨by rw [E.out]; rfl, rfl⟩
  · have e : holdsB s.size at_ size = false := by simp [holdsB]; omega
    have E := Lib.hid e; clear e
    go_enter Try.func87, Try.ntmps87
    go_wp2
    go_ret
    exact ⟨by rw [E.out]; rfl, rfl⟩

theorem be_or (x c : Nat) (hx : x < 72057594037927936) (hc : c < 256) : bits .or .u64 (IntKind.u64.wrap ((x : Int) * 256)) (c : Int) = ((x * 256 + c : Nat) : Int) := by
  have e : IntKind.u64.wrap ((x : Int) * 256) = ((x * 256 : Nat) : Int) := by rw [IntKind.wrap_u64]; omega
  rw [e, bits_or_u64_nat _ _ (by omega) (by omega)]
  have h := Nat.shiftLeft_add_eq_or_of_lt (i := 8) (b := c) (by omega) x
  rw [Nat.shiftLeft_eq] at h
  rw [← h]

theorem get_no (s : ByteArray) (at_ size : Int) (w : World) (hs : s.size ≤ maxLen) (hz1 : -9223372036854775808 ≤ size) (hz : size ≤ 9223372036854775807) (ha1 : -9223372036854775808 ≤ at_) (ha : at_ ≤ 9223372036854775807)
    (hno : size < 1 ∨ 8 < size ∨ holdsB s.size at_ size = false) :
    Calls Try.prog 70 #[.string s, .int .i64 at_, .int .i64 size] w fun e w' => e = .returned (.tuple #[.int .u64 0, .bool false]) ∧ w = w' := by
  by_cases h1 : size < 1
  · clear hno
    go_enter Try.func70, Try.ntmps70
    go_wp2_with fail
    go_ret2
    exact ⟨rfl, rfl⟩
  · by_cases h2 : 8 < size
    · clear hno
      go_enter Try.func70, Try.ntmps70
      go_wp2_with fail
      go_ret2
      exact ⟨rfl, rfl⟩
    · have h3 : holdsB s.size at_ size = false := by
        rcases hno with h | h | h
        · omega
        · omega
        · exact h
      clear hno
      have H := Lib.hid h3; clear h3
      go_enter Try.func70, Try.ntmps70
      go_wp2_with fail
      refine (holds_any s at_ size _ hs hz1 hz ha1 ha).mono ?_
      rw [H.out]
      rintro e w' ⟨rfl, rfl⟩
      go_wp2_with fail
      go_ret2
      exact ⟨rfl, rfl⟩

theorem take_snoc (s : ByteArray) (i k : Nat) (h : i + k < s.size) : (s.data.toList.drop i).take (k + 1) = (s.data.toList.drop i).take k ++ [s[i + k]] := by
  rw [List.take_succ_eq_append_getElem (by simp; have : s.data.size = s.size := rfl; omega)]; simp; rfl

theorem be_take_lt (l : List UInt8) (j : Nat) (hj : j < 8) : be (l.take j) < 72057594037927936 := by
  have h1 := be_lt (l.take j)
  have h2 : (l.take j).length ≤ 7 := by rw [List.length_take]; omega
  have h3 : 256 ^ (l.take j).length ≤ 256 ^ 7 := Nat.pow_le_pow_right (by omega) h2
  omega
theorem get_round (s : ByteArray) (i j : Nat) (h : i + j < s.size) (hj : j < 8) :
    bits BinOp.or IntKind.u64 (IntKind.u64.wrap (↑(be (List.take j (List.drop i s.data.toList))) * 256)) (IntKind.u64.wrap ↑(s[i + j]'h).toNat) = ((be (List.take (j + 1) (List.drop i s.data.toList)) : Nat) : Int) := by
  have hc := (s[i + j]'h).toNat_lt
  have e : IntKind.u64.wrap ((s[i + j]'h).toNat : Int) = ((s[i + j]'h).toNat : Int) := by rw [IntKind.wrap_u64]; omega
  rw [e, be_or _ _ (be_take_lt _ _ hj) (by omega), take_snoc s i j h, be_snoc]
theorem mul_round (s : ByteArray) (i j : Nat) (h : i + j < s.size) (hj : j < 8) :
    IntKind.u64.wrap (IntKind.u64.wrap (↑(be (List.take j (List.drop i s.data.toList))) * 256) + IntKind.u64.wrap ↑(s[i + j]'h).toNat) = ((be (List.take (j + 1) (List.drop i s.data.toList)) : Nat) : Int) := by
  have hc := (s[i + j]'h).toNat_lt
  have hb := be_take_lt (s.data.toList.drop i) j hj
  rw [take_snoc s i j h, be_snoc, IntKind.wrap_u64, IntKind.wrap_u64, IntKind.wrap_u64]
  omega

theorem get_yes (s : ByteArray) (i n : Nat) (w : World) (hs : s.size ≤ maxLen) (hn1 : 1 ≤ n) (hn : n ≤ 8) (hi : i + n ≤ s.size) :
    Calls Try.prog 70 #[.string s, .int .i64 i, .int .i64 n] w fun e w' => e = .returned (.tuple #[.int .u64 (be ((s.data.toList.drop i).take n) : Nat), .bool true]) ∧ w = w' := by
  unfold maxLen at hs
  have h3 : holdsB s.size i n = true := by simp [holdsB]; omega
  have H := Lib.hid h3; clear h3
  go_enter Try.func70, Try.ntmps70
  go_wp2_with fail
  refine (holds_any s i n _ (by unfold maxLen; omega) (by omega) (by omega) (by omega) (by omega)).mono ?_
  rw [H.out]
  rintro e w' ⟨rfl, rfl⟩
  go_wp2_with fail
  go_loop [8, 24, 9] (fun r k _ => ∃ j : Nat, j ≤ n ∧ k = .int .i64 j ∧ r = .int .u64 (be ((s.data.toList.drop i).take j) : Nat)) (fun _ k _ => n - (intOf k).toNat)
  case atStart => exact ⟨0, Nat.zero_le _, rfl, rfl⟩
  case round =>
    obtain ⟨j, hj, rfl, rfl⟩ := hrel
    by_cases hlt : j < n
    · have hl : (i : Int) + j < s.size := by omega
      go_wp2_with fail
      go_round
      case rel => exact ⟨j + 1, by omega, by go_num, by rw [get_round s i j (by omega) (by omega)]⟩
      case measure => simp [intOf]; omega
    · go_wp2_with fail
      have : j = n := by omega
      subst this
      go_ret2
      exact ⟨rfl, rfl⟩

theorem refpart_no (s : ByteArray) (at_ size : Int) (w : World) (hs : s.size ≤ maxLen)
    (hno : holdsB s.size at_ size = false) :
    Calls Try.prog 73 #[.string s, .int .i64 at_, .int .i64 size] w fun e w' => e = .returned (.tuple #[.string ⟨#[]⟩, .bool false]) ∧ w = w' := by
  unfold maxLen at hs
  have hn : ¬ (0 ≤ at_ ∧ 0 ≤ size ∧ at_ + size ≤ s.size) := by simpa [holdsB] using hno
  clear hno
  by_cases h1 : at_ < 0
  · clear hn
    go_enter Try.func73, Try.ntmps73
    go_wp2_with fail
    go_ret2
    exact ⟨rfl, rfl⟩
  · by_cases h2 : size < 0
    · clear hn
      go_enter Try.func73, Try.ntmps73
      go_wp2_with fail
      go_ret2
      exact ⟨rfl, rfl⟩
    · by_cases h3 : (s.size : Int) < at_
      · clear hn
        go_enter Try.func73, Try.ntmps73
        go_wp2_with fail
        go_ret2
        exact ⟨rfl, rfl⟩
      · have h4 : s.size - at_ < size := by omega
        clear hn
        go_enter Try.func73, Try.ntmps73
        go_wp2_with fail
        go_ret2
        exact ⟨rfl, rfl⟩

theorem refpart_yes (s : ByteArray) (i n : Nat) (w : World) (hs : s.size ≤ maxLen) (hi : i + n ≤ s.size) :
    Calls Try.prog 73 #[.string s, .int .i64 i, .int .i64 n] w fun e w' => e = .returned (.tuple #[.string (s.extract i (i + n)), .bool true]) ∧ w = w' := by
  unfold maxLen at hs
  have h0 : (0 : Int) ≤ i := by omega
  have h1 : (0 : Int) ≤ n := by omega
  have h2 : (i : Int) ≤ s.size := by omega
  have h3 : (n : Int) ≤ s.size - i := by omega
  have h4 : (i : Int) + n ≤ s.size := by omega
  go_enter Try.func73, Try.ntmps73
  go_wp2_with fail
  go_ret2
  exact ⟨rfl, rfl⟩
end Go.Proofs.Ytihkmdojakalbaa

/- Bytes, numbers and names at places of a text: small facts. No condition. -/
namespace Go.Proofs.Ytihkmdojakalbaa
open Go.RowKit NumMath NmMath Bytes

theorem be_bt {l : List UInt8} {p : Nat} (h : p < l.length) : be ((l.drop p).take 1) = bt l p := by
  rw [drop_cons h]
  unfold bt be
  simp
theorem holds_no {n p m : Nat} (h : n < p + m) : holdsB n (p : Int) (m : Int) = false := by simp [holdsB]; omega
theorem cut_extract (s : ByteArray) (p n : Nat) : (s.extract p (p + n)).data.toList = cut s.data.toList p n := by
  rw [extract_list]; unfold cut; rw [List.drop_take]; congr 1; omega
theorem cut_head {l : List UInt8} {p n : Nat} (h : p < l.length) : cut l p (n + 1) = l.getD p 0 :: cut l (p + 1) n := by
  unfold cut
  rw [drop_cons h, List.take_succ_cons]
/-- The name at any place, also one that is none. -/
def nmAt (l : List UInt8) (p : Int) : Except Nat (List UInt8 × Nat) := if p < 0 then .error 2 else nm l l.length 2 p.toNat p.toNat none []
theorem nmAt_list {s : ByteArray} {n : Nat} (h : n = s.size) : s.data.toList = s.data.toList.take n := by rw [h, Lib.size_eq, List.take_length]
end Go.Proofs.Ytihkmdojakalbaa

/- Records: their types' shapes, what is right, the plain bytes of their data, and what these tell. No program, no condition. -/
namespace Go.Proofs.Ytihkmdojakalbaa.RecMath
open Go Bytes NameMath

structure Rec where
  name : List UInt8
  kind : Nat
  cls : Nat
  ttl : Nat
  names : List (List UInt8)
  nums : List Nat
  texts : List (List UInt8)

def shA (k : Nat) : Nat := if k = 2 ∨ k = 5 ∨ k = 12 then 1 else if k = 6 then 2 else if k = 15 then 1 else if k = 33 then 1 else 0
def shB (k : Nat) : Nat := if k = 2 ∨ k = 5 ∨ k = 12 then 0 else if k = 6 then 5 else if k = 15 then 1 else if k = 33 then 3 else 0
def shC (k : Nat) : Nat := if k = 2 ∨ k = 5 ∨ k = 12 then 0 else if k = 6 then 0 else if k = 15 then 0 else if k = 33 then 0 else 1

def badName (l : List UInt8) : Bool := !isN l
def badNum (k n : Nat) : Bool := decide (65535 < n ∧ k ≠ 6)
def badText (k : Nat) (l : List UInt8) : Bool := decide ((k = 16 ∧ 255 < l.length) ∨ (k = 1 ∧ l.length ≠ 4) ∨ (k = 28 ∧ l.length ≠ 16))
/-- How many plain bytes texts take. -/
def bulk (k : Nat) : List (List UInt8) → Nat
  | [] => 0
  | l :: L => l.length + (if k = 16 then 1 else 0) + bulk k L
def cntOk (r : Rec) : Bool := decide (r.names.length = shA r.kind ∧ r.nums.length = shB r.kind ∧ ((r.kind = 16 ∧ 0 < r.texts.length) ∨ (r.kind ≠ 16 ∧ r.texts.length = shC r.kind)))
def shapedB (r : Rec) : Bool := cntOk r && !r.nums.any (badNum r.kind) && !r.texts.any (badText r.kind)
def fitsB (r : Rec) : Bool := decide (bulk r.kind r.texts ≤ 65535)
def okB (r : Rec) : Bool := shapedB r && fitsB r
def namesB (r : Rec) : Bool := !badName r.name && !r.names.any badName
def lateB (r : Rec) : Bool := decide (2147483647 < r.ttl ∧ r.kind ≠ 41)
def checkE (r : Rec) : Nat := if namesB r = false then 40 else if okB r = false then 50 else if lateB r = true then 1 else 0

def numsL (size : Nat) (L : List Nat) : List UInt8 := L.flatMap fun n => beTail n size
def textL (k : Nat) (l : List UInt8) : List UInt8 := if k = 16 then UInt8.ofNat l.length :: l else l
def plainL (r : Rec) : List UInt8 := (if r.kind = 6 then [] else numsL 2 r.nums) ++ (r.names.flatten ++ ((if r.kind = 6 then numsL 4 r.nums else []) ++ r.texts.flatMap (textL r.kind)))
def plainO (r : Rec) : List UInt8 := if checkE r = 0 then plainL r else []
def sameB (a b : Rec) : Bool := decide (a.name = b.name ∧ a.kind = b.kind ∧ a.cls = b.cls ∧ a.ttl = b.ttl ∧ a.names = b.names ∧ a.nums = b.nums ∧ a.texts = b.texts)

/-! What is gone through text by text. -/
def badLong (k : Nat) (left : Int) (l : List UInt8) : Bool :=
  if k = 1 then decide (l.length ≠ 4) else if k = 28 then decide (l.length ≠ 16) else if k = 16 then decide (255 < l.length ∨ left - (1 + l.length) < 0) else decide (65535 < l.length)
def leftT (k : Nat) (left : Int) (l : List UInt8) : Int := if k = 16 then left - (1 + l.length) else left
/-- Is one of the texts wrong, as they are asked from the first on? -/
def wrongs (k : Nat) : Int → List (List UInt8) → Bool
  | _, [] => false
  | left, l :: L => badLong k left l || wrongs k (leftT k left l) L

theorem wrongs_16 : ∀ (L : List (List UInt8)) (left : Int), 0 ≤ left → wrongs 16 left L = (L.any (badText 16) || decide (left < bulk 16 L)) := by
  intro L
  induction L with
  | nil =>
    intro left h
    rw [decide_eq_false (by rw [show bulk 16 [] = 0 from rfl]; omega)]
    rfl
  | cons l L ih =>
    intro left h
    have e1 : badLong 16 left l = decide (255 < l.length ∨ left - (1 + l.length) < 0) := by simp [badLong]
    have e2 : leftT 16 left l = left - (1 + l.length) := by simp [leftT]
    have e3 : badText 16 l = decide (255 < l.length) := by simp [badText]
    have e4 : bulk 16 (l :: L) = l.length + 1 + bulk 16 L := by simp [bulk]
    rw [wrongs, e1, e2, List.any_cons, e3, e4]
    by_cases h1 : 255 < l.length
    · rw [decide_eq_true (Or.inl h1), decide_eq_true h1, Bool.true_or, Bool.true_or, Bool.true_or]
    · by_cases h2 : left - (1 + (l.length : Int)) < 0
      · rw [decide_eq_true (Or.inr h2), Bool.true_or, decide_eq_true (show left < ((l.length + 1 + bulk 16 L : Nat) : Int) by omega), Bool.or_true]
      · rw [decide_eq_false (by rintro (h | h); exact h1 h; exact h2 h), Bool.false_or, ih _ (by omega), decide_eq_false h1, Bool.false_or]
        refine congrArg (fun b => L.any (badText 16) || b) (decide_eq_decide.2 ?_)
        omega
theorem wrongs_one {k : Nat} (hk : k ≠ 16) (l : List UInt8) : wrongs k 65535 [l] = (badText k l || decide (65535 < bulk k [l])) := by
  simp only [wrongs, bulk, if_neg hk, Bool.or_false, Nat.add_zero]
  by_cases h1 : k = 1
  · subst h1
    by_cases h : l.length = 4 <;> simp [badLong, badText, h]
  · by_cases h2 : k = 28
    · subst h2
      by_cases h : l.length = 16 <;> simp [badLong, badText, h]
    · simp [badLong, badText, h1, h2, hk]
theorem wrongs_none (k : Nat) (left : Int) : wrongs k left [] = false := rfl
theorem bulk_nil (k : Nat) : bulk k [] = 0 := rfl

/-- The code's own order of asking comes to the same. -/
theorem okB_wrongs (r : Rec) : okB r = (cntOk r && (!r.nums.any (badNum r.kind) && !wrongs r.kind 65535 r.texts)) := by
  unfold okB shapedB fitsB
  cases hc : cntOk r with
  | false => simp
  | true =>
    have hc' := of_decide_eq_true hc
    obtain ⟨_, _, h3⟩ := hc'
    have key : wrongs r.kind 65535 r.texts = (r.texts.any (badText r.kind) || decide (65535 < bulk r.kind r.texts)) := by
      rcases h3 with ⟨hk, _⟩ | ⟨hk, hn⟩
      · rw [hk]
        rw [wrongs_16 _ _ (by decide)]
        refine congrArg (fun b => r.texts.any (badText 16) || b) (decide_eq_decide.2 ?_)
        omega
      · have hle : r.texts.length ≤ 1 := by
          rw [hn]; unfold shC; repeat' split
          all_goals omega
        match ht : r.texts, hle with
        | [], _ => simp [wrongs, bulk]
        | [l], _ => rw [wrongs_one hk]; simp
    rw [key]
    have e : decide (bulk r.kind r.texts ≤ 65535) = !decide (65535 < bulk r.kind r.texts) := by
      by_cases h : bulk r.kind r.texts ≤ 65535
      · rw [decide_eq_true h, decide_eq_false (by omega)]; rfl
      · rw [decide_eq_false h, decide_eq_true (by omega)]; rfl
    rw [e]
    cases r.nums.any (badNum r.kind) <;> cases r.texts.any (badText r.kind) <;> cases decide (65535 < bulk r.kind r.texts) <;> rfl

theorem checkE_40 {r : Rec} (h : namesB r = false) : checkE r = 40 := by unfold checkE; rw [if_pos h]
theorem checkE_50 {r : Rec} (h : namesB r = true) (h2 : okB r = false) : checkE r = 50 := by unfold checkE; rw [if_neg (by rw [h]; decide), if_pos h2]
theorem checkE_1 {r : Rec} (h : namesB r = true) (h2 : okB r = true) (h3 : lateB r = true) : checkE r = 1 := by unfold checkE; rw [if_neg (by rw [h]; decide), if_neg (by rw [h2]; decide), if_pos h3]
theorem checkE_0 {r : Rec} (h : namesB r = true) (h2 : okB r = true) (h3 : lateB r = false) : checkE r = 0 := by unfold checkE; rw [if_neg (by rw [h]; decide), if_neg (by rw [h2]; decide), if_neg (by rw [h3]; decide)]
theorem check_ok {r : Rec} (h : checkE r = 0) : namesB r = true ∧ okB r = true ∧ lateB r = false := by
  unfold checkE at h
  split at h
  · cases h
  · split at h
    · cases h
    · split at h
      · cases h
      · rename_i h1 h2 h3
        exact ⟨Bool.not_eq_false _ ▸ h1, Bool.not_eq_false _ ▸ h2, Bool.not_eq_true _ ▸ h3⟩
theorem plainO_ok {r : Rec} (h : checkE r = 0) : plainO r = plainL r := if_pos h
theorem plainO_no {r : Rec} (h : checkE r ≠ 0) : plainO r = [] := if_neg h
theorem okB_cnt {r : Rec} (h : okB r = true) : cntOk r = true ∧ r.nums.any (badNum r.kind) = false ∧ r.texts.any (badText r.kind) = false ∧ bulk r.kind r.texts ≤ 65535 := by
  unfold okB shapedB at h
  rw [Bool.and_eq_true, Bool.and_eq_true, Bool.and_eq_true] at h
  obtain ⟨⟨⟨h1, h2⟩, h3⟩, h4⟩ := h
  exact ⟨h1, by simpa using h2, by simpa using h3, of_decide_eq_true h4⟩
theorem cnt_of {r : Rec} (h : cntOk r = true) : r.names.length = shA r.kind ∧ r.nums.length = shB r.kind ∧ ((r.kind = 16 ∧ 0 < r.texts.length) ∨ (r.kind ≠ 16 ∧ r.texts.length = shC r.kind)) := of_decide_eq_true h

/-! What is still to come. -/
theorem bulk_drop {L : List (List UInt8)} {j : Nat} (k : Nat) (h : j < L.length) : bulk k (L.drop j) = (L.getD j []).length + (if k = 16 then 1 else 0) + bulk k (L.drop (j + 1)) := by
  rw [lab_drop h, bulk]
theorem numsL_drop {L : List Nat} {j : Nat} (size : Nat) (h : j < L.length) : numsL size (L.drop j) = beTail (L.getD j 0) size ++ numsL size (L.drop (j + 1)) := by
  rw [List.drop_eq_getElem_cons h, List.getD_eq_getElem?_getD, List.getElem?_eq_getElem h]
  rfl
theorem flat_drop {L : List (List UInt8)} {j : Nat} (h : j < L.length) : (L.drop j).flatten = L.getD j [] ++ (L.drop (j + 1)).flatten := by
  rw [lab_drop h, List.flatten_cons]
theorem textL_drop {L : List (List UInt8)} {j : Nat} (k : Nat) (h : j < L.length) : (L.drop j).flatMap (textL k) = textL k (L.getD j []) ++ (L.drop (j + 1)).flatMap (textL k) := by
  rw [lab_drop h, List.flatMap_cons]
theorem numsL_len (size : Nat) (L : List Nat) : (numsL size L).length = size * L.length := by
  induction L with
  | nil => simp [numsL]
  | cons n L ih =>
    have e : numsL size (n :: L) = beTail n size ++ numsL size L := rfl
    rw [e, List.length_append, ih, beTail_length, List.length_cons, Nat.mul_succ]
    omega
theorem textL_len (k : Nat) (L : List (List UInt8)) : (L.flatMap (textL k)).length = bulk k L := by
  induction L with
  | nil => rfl
  | cons l L ih =>
    rw [List.flatMap_cons, List.length_append, ih, bulk]
    unfold textL
    split <;> simp
theorem flat_len2 {L : List (List UInt8)} {M : Nat} (h : ∀ j, j < L.length → (L.getD j []).length ≤ M) : L.flatten.length ≤ L.length * M := by
  induction L with
  | nil => simp
  | cons l L ih =>
    rw [List.flatten_cons, List.length_append, List.length_cons, Nat.succ_mul]
    have h0 := h 0 (by simp)
    have := ih (fun j hj => h (j + 1) (by simpa using hj))
    simp at h0
    omega
theorem shA_le (k : Nat) : shA k ≤ 2 := by unfold shA; repeat' split
                                           all_goals omega
theorem shB_le (k : Nat) : shB k ≤ 5 := by unfold shB; repeat' split
                                           all_goals omega
theorem plain_len {r : Rec} (h1 : cntOk r = true) (h2 : bulk r.kind r.texts ≤ 65535) (h3 : ∀ j, j < r.names.length → (r.names.getD j []).length ≤ 100000) : (plainL r).length ≤ 300000 := by
  obtain ⟨c1, c2, _⟩ := cnt_of h1
  have hf := flat_len2 h3
  have ha := shA_le r.kind
  have hb := shB_le r.kind
  have ht := textL_len r.kind r.texts
  have e4 := numsL_len 4 r.nums
  have e2 := numsL_len 2 r.nums
  unfold plainL
  rw [List.length_append, List.length_append, List.length_append, ht]
  have hm : r.names.length * 100000 ≤ 200000 := by omega
  split <;> simp only [List.length_nil] <;> omega
theorem plainL_6 {r : Rec} (h : r.kind = 6) : plainL r = r.names.flatten ++ (numsL 4 r.nums ++ r.texts.flatMap (textL r.kind)) := by
  unfold plainL; rw [if_pos h, if_pos h]; rfl
theorem plainL_not {r : Rec} (h : r.kind ≠ 6) : plainL r = numsL 2 r.nums ++ (r.names.flatten ++ r.texts.flatMap (textL r.kind)) := by
  unfold plainL; rw [if_neg h, if_neg h]; rfl
theorem textL_16 (l : List UInt8) : textL 16 l = UInt8.ofNat l.length :: l := if_pos rfl
theorem textL_not {k : Nat} (h : k ≠ 16) (l : List UInt8) : textL k l = l := if_neg h
theorem any_short {L : List (List UInt8)} (h : L.any (badText 16) = false) (j : Nat) (hj : j < L.length) : (L.getD j []).length ≤ 255 := by
  rw [List.any_eq_false] at h
  have := h (L.getD j []) (by rw [List.getD_eq_getElem?_getD, List.getElem?_eq_getElem hj]; exact List.getElem_mem hj)
  have h2 := of_decide_eq_false (Bool.eq_false_iff.2 this)
  omega
end Go.Proofs.Ytihkmdojakalbaa.RecMath
