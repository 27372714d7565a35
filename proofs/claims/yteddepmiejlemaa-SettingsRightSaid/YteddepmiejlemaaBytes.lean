/- Texts as lists of bytes; bytes that a call gathered in a slice of its own, and their text. No condition. -/
import Derived.Test.YteddepmiejlemaaProg
import Derived.WalkKit
import Derived.OwnWalk
import Derived.Lib.Hide
import Derived.Lib.Strings
import Derived.Lib.ConvBytes
import Derived.Lib.BufferRead
import Derived.Lib.UnsafeStr
import Derived.Laws.AppendOwn
import Derived.Laws.IdiomStrings
import Derived.Laws.Rows
namespace Go.Proofs.Yteddepmiejlemaa.Bytes
open Go Go.RowKit

/-- A text of these bytes. -/
def mk (l : List UInt8) : ByteArray := ⟨l.toArray⟩
theorem mk_list (l : List UInt8) : (mk l).data.toList = l := rfl
theorem mk_size (l : List UInt8) : (mk l).size = l.length := by
  rw [Lib.size_eq, mk_list]
theorem list_inj {s t : ByteArray} (h : s.data.toList = t.data.toList) : s = t := ByteArray.ext (Array.toList_inj.1 h)
theorem mk_data (s : ByteArray) : mk s.data.toList = s := list_inj rfl
theorem mk_inj {a b : List UInt8} (h : mk a = mk b) : a = b := by
  have := congrArg (fun s => s.data.toList) h
  exact this
theorem cat_list (s t : ByteArray) : (s ++ t).data.toList = s.data.toList ++ t.data.toList := by rw [ByteArray.data_append, Array.toList_append]
theorem mk_cat (a b : List UInt8) : mk a ++ mk b = mk (a ++ b) := by
  apply list_inj
  rw [cat_list]
  rfl
theorem eq_toList {s t : ByteArray} : (s.toList == t.toList) = decide (s = t) := by
  rw [Lib.toList_data, Lib.toList_data]
  by_cases h : s = t
  · subst h; simp
  · have : s.data.toList ≠ t.data.toList := fun e => h (list_inj e)
    rw [decide_eq_false h]
    exact beq_eq_false_iff_ne.2 this
theorem ne_toList {s t : ByteArray} (h : s ≠ t) : (s.toList == t.toList) = false := by rw [eq_toList]; simp [h]
theorem byte_all {p q : UInt8 → Bool} (h : ((List.range 256).all fun i => p (UInt8.ofNat i) == q (UInt8.ofNat i)) = true) (c : UInt8) : p c = q c := by
  have := List.all_eq_true.1 h c.toNat (List.mem_range.2 c.toNat_lt)
  rw [UInt8.ofNat_toNat] at this
  exact eq_of_beq this
theorem take_snoc {l : List UInt8} {k : Nat} (h : k < l.length) : l.take (k + 1) = l.take k ++ [l.getD k 0] := by
  rw [List.take_succ_eq_append_getElem h, List.getD_eq_getElem?_getD, List.getElem?_eq_getElem h]
  rfl
theorem drop_cons {l : List UInt8} {k : Nat} (h : k < l.length) : l.drop k = l.getD k 0 :: l.drop (k + 1) := by
  rw [List.drop_eq_getElem_cons h, List.getD_eq_getElem?_getD, List.getElem?_eq_getElem h]
  rfl
theorem getD_byte {s : ByteArray} {k : Nat} (h : k < s.size) : s.data.toList.getD k 0 = s[k] := by
  have h' : k < s.data.toList.length := by rw [← Lib.size_eq]; exact h
  rw [List.getD_eq_getElem?_getD, List.getElem?_eq_getElem h']
  rfl
theorem extract_list (s : ByteArray) (i j : Nat) : (s.extract i j).data.toList = (s.data.toList.take j).drop i := by
  rw [ByteArray.data_extract, Array.toList_extract, List.extract_eq_take_drop, List.drop_take]

theorem info5 : (Try.prog.info? 5).map (fun i => (i.zero, i.size, i.bytes)) = some (some (.int .u8 0), 1, 1) := by kernel_rfl
/-- The bytes as cells. -/
def byteCells (l : List UInt8) : List Value := l.map fun b => Value.int .u8 (b.toNat : Int)
theorem byteCells_cat (a b : List UInt8) : byteCells (a ++ b) = byteCells a ++ byteCells b := List.map_append ..
theorem byteCells_one (x : UInt8) : byteCells [x] = [.int .u8 (x.toNat : Int)] := rfl
theorem byteCells_len (l : List UInt8) : (byteCells l).length = l.length := List.length_map ..
/-- string(b) of a row that the call gathered itself. -/
theorem convert_own {W : World} {base n : Nat} {v : Value} {l : List UInt8} (h : W.ownsRow base 5 1 v n (byteCells l)) :
    (convert 57 9 v).run Try.prog W = .ok (.string (mk l)) W := by
  have hl : l.length = n := by have := h.1; simpa [byteCells] using this
  rcases h.2 with ⟨rfl, h0⟩ | ⟨g, cap, cur, rfl, _⟩
  · have : l = [] := List.length_eq_zero_iff.1 (by omega)
    subst this
    exact Lib.run_convert_nil_bytes W _ _ 5 0 Try.underlying57 Try.underlying5 Try.underlying9
  · have hc := h.cells (g := g) rfl
    subst hl
    refine run_convert_bytes_back W _ _ 5 ⟨g, 0, none⟩ cap l Try.underlying57 Try.underlying5 Try.underlying9 (fun j hj => hc j _ ?_)
    simp [byteCells, hj]
/-- string([]byte{..}) of a block that was just laid. -/
theorem conv_new (W : World) (l : List UInt8) (cs : Array Value) (n : Nat) (h : cs.toList = byteCells l) (hn : l.length = n) :
    (convert 57 9 (.slice (some ⟨W.heap.size, 0, none⟩) n n)).run Try.prog (W.alloc (.cells cs 5)) = .ok (.string (mk l)) (W.alloc (.cells cs 5)) := by
  subst hn
  refine run_convert_bytes_back _ _ _ 5 ⟨W.heap.size, 0, none⟩ l.length l Try.underlying57 Try.underlying5 Try.underlying9 (fun j hj => ?_)
  rw [show ((⟨W.heap.size, 0, none⟩ : Addr).add j) = ⟨W.heap.size, j, none⟩ from by unfold Addr.add; split <;> simp_all]
  rw [Lib.cell_of_heap (heap_alloc_new W _), ← Array.getElem?_toList, h]
  simp [byteCells, hj]
/-- One append of one byte to a row of one's own: what it leaves. -/
theorem own_step {wr w1 w : World} {g k : Nat} {u v' : Value} {o : Obj} {l : List UInt8} {x : UInt8} {z : Int} (hO : wr.ownsRow g 5 1 u k (byteCells l)) (hB : Below g w wr) (hg : w.heap.size = g) (hz : (x.toNat : Int) = z)
    (hown : w1.ownsRow g 5 1 v' (k + 1) (byteCells l ++ [.int .u8 z])) (hgrow : (wr.alloc o).grownBy w1 u.ownBlock) :
    w1.ownsRow g 5 1 v' (k + 1) (byteCells (l ++ [x])) ∧ Below g w w1 := by
  refine ⟨?_, ?_⟩
  · rw [byteCells_cat, byteCells_one, hz]
    exact hown
  · have hle : g ≤ wr.heap.size := by have := hB.size; omega
    exact (hB.alloc hle o).grown hgrow (by have := (Below.refl 0 wr).alloc (Nat.zero_le _) o; have := this.size; omega) (fun b hb => (hO.lt b hb).1)
/-- One append of some bytes to a row of one's own: what it leaves. -/
theorem own_more {wr w1 w : World} {g k : Nat} {u v' : Value} {o : Obj} {l xs : List UInt8} {cs : List Value} (hO : wr.ownsRow g 5 1 u k (byteCells l)) (hB : Below g w wr) (hg : w.heap.size = g) (hz : cs = byteCells xs)
    (hown : w1.ownsRow g 5 1 v' (k + cs.length) (byteCells l ++ cs)) (hgrow : (wr.alloc o).grownBy w1 u.ownBlock) :
    w1.ownsRow g 5 1 v' (k + xs.length) (byteCells (l ++ xs)) ∧ Below g w w1 := by
  subst hz
  refine ⟨?_, ?_⟩
  · rw [byteCells_cat]
    rw [byteCells_len] at hown
    exact hown
  · have hle : g ≤ wr.heap.size := by have := hB.size; omega
    exact (hB.alloc hle o).grown hgrow (by have := (Below.refl 0 wr).alloc (Nat.zero_le _) o; have := this.size; omega) (fun b hb => (hO.lt b hb).1)
/-- What is owned stays so behind what writes new blocks alone. -/
theorem own_below {wr w1 : World} {g n : Nat} {e : TypeId} {v : Value} {xs : List Value} (h : wr.ownsRow g e 1 v n xs) (hB : Below wr.heap.size wr w1) : w1.ownsRow g e 1 v n xs :=
  h.kept (row := none) ⟨hB.os, hB.tape, hB.output, hB.size, fun k hk _ => hB.block k hk⟩ (by cases v.ownBlock <;> simp)
end Go.Proofs.Yteddepmiejlemaa.Bytes
