/- The fixed entries; the contract of the document's Fixed. No condition. -/
import Derived.Test.YtamgnbjdeoklbaaProg
import Derived.Test.YtamgnbjdeoklbaaTbMath
import Derived.Test.YtamgnbjdeoklbaaTbMem
import Derived.Test.YtamgnbjdeoklbaaTbRef
import Derived.WalkKit
import Derived.Lib.Hide
import Derived.Lib.Strings
import Derived.Outline
import Derived.IntWalk
import Derived.WalkSpells
import Derived.WalkLawsBesides
import Derived.Deep.QuietTactic
import Derived.BigQuiet
import Derived.Deep.CutRange
import Derived.Deep.RegionHeld3
namespace Go.Proofs.Ytamgnbjdeoklbaa
open Go.RowKit Tb

namespace Tb
def bs (l : List UInt8) : ByteArray := ⟨l.toArray⟩
theorem bs_cat (a b : List UInt8) : bs a ++ bs b = bs (a ++ b) := by
  apply ByteArray.ext
  apply Array.toList_inj.1
  rw [ByteArray.data_append, Array.toList_append]
  rfl
theorem bs_size (l : List UInt8) : (bs l).size = l.length := by
  show (bs l).data.size = _
  unfold bs
  simp
/-- The document's rows of fixed entries. -/
def entsB : List (List UInt8 × List UInt8) := [
  ([58, 97, 117, 116, 104, 111, 114, 105, 116, 121], []),
  ([58, 109, 101, 116, 104, 111, 100], [71, 69, 84]),
  ([58, 109, 101, 116, 104, 111, 100], [80, 79, 83, 84]),
  ([58, 112, 97, 116, 104], [47]),
  ([58, 112, 97, 116, 104], [47, 105, 110, 100, 101, 120, 46, 104, 116, 109, 108]),
  ([58, 115, 99, 104, 101, 109, 101], [104, 116, 116, 112]),
  ([58, 115, 99, 104, 101, 109, 101], [104, 116, 116, 112, 115]),
  ([58, 115, 116, 97, 116, 117, 115], [50, 48, 48]),
  ([58, 115, 116, 97, 116, 117, 115], [50, 48, 52]),
  ([58, 115, 116, 97, 116, 117, 115], [50, 48, 54]),
  ([58, 115, 116, 97, 116, 117, 115], [51, 48, 52]),
  ([58, 115, 116, 97, 116, 117, 115], [52, 48, 48]),
  ([58, 115, 116, 97, 116, 117, 115], [52, 48, 52]),
  ([58, 115, 116, 97, 116, 117, 115], [53, 48, 48]),
  ([97, 99, 99, 101, 112, 116, 45, 99, 104, 97, 114, 115, 101, 116], []),
  ([97, 99, 99, 101, 112, 116, 45, 101, 110, 99, 111, 100, 105, 110, 103], [103, 122, 105, 112, 44, 32, 100, 101, 102, 108, 97, 116, 101]),
  ([97, 99, 99, 101, 112, 116, 45, 108, 97, 110, 103, 117, 97, 103, 101], []),
  ([97, 99, 99, 101, 112, 116, 45, 114, 97, 110, 103, 101, 115], []),
  ([97, 99, 99, 101, 112, 116], []),
  ([97, 99, 99, 101, 115, 115, 45, 99, 111, 110, 116, 114, 111, 108, 45, 97, 108, 108, 111, 119, 45, 111, 114, 105, 103, 105, 110], []),
  ([97, 103, 101], []),
  ([97, 108, 108, 111, 119], []),
  ([97, 117, 116, 104, 111, 114, 105, 122, 97, 116, 105, 111, 110], []),
  ([99, 97, 99, 104, 101, 45, 99, 111, 110, 116, 114, 111, 108], []),
  ([99, 111, 110, 116, 101, 110, 116, 45, 100, 105, 115, 112, 111, 115, 105, 116, 105, 111, 110], []),
  ([99, 111, 110, 116, 101, 110, 116, 45, 101, 110, 99, 111, 100, 105, 110, 103], []),
  ([99, 111, 110, 116, 101, 110, 116, 45, 108, 97, 110, 103, 117, 97, 103, 101], []),
  ([99, 111, 110, 116, 101, 110, 116, 45, 108, 101, 110, 103, 116, 104], []),
  ([99, 111, 110, 116, 101, 110, 116, 45, 108, 111, 99, 97, 116, 105, 111, 110], []),
  ([99, 111, 110, 116, 101, 110, 116, 45, 114, 97, 110, 103, 101], []),
  ([99, 111, 110, 116, 101, 110, 116, 45, 116, 121, 112, 101], []),
  ([99, 111, 111, 107, 105, 101], []),
  ([100, 97, 116, 101], []),
  ([101, 116, 97, 103], []),
  ([101, 120, 112, 101, 99, 116], []),
  ([101, 120, 112, 105, 114, 101, 115], []),
  ([102, 114, 111, 109], []),
  ([104, 111, 115, 116], []),
  ([105, 102, 45, 109, 97, 116, 99, 104], []),
  ([105, 102, 45, 109, 111, 100, 105, 102, 105, 101, 100, 45, 115, 105, 110, 99, 101], []),
  ([105, 102, 45, 110, 111, 110, 101, 45, 109, 97, 116, 99, 104], []),
  ([105, 102, 45, 114, 97, 110, 103, 101], []),
  ([105, 102, 45, 117, 110, 109, 111, 100, 105, 102, 105, 101, 100, 45, 115, 105, 110, 99, 101], []),
  ([108, 97, 115, 116, 45, 109, 111, 100, 105, 102, 105, 101, 100], []),
  ([108, 105, 110, 107], []),
  ([108, 111, 99, 97, 116, 105, 111, 110], []),
  ([109, 97, 120, 45, 102, 111, 114, 119, 97, 114, 100, 115], []),
  ([112, 114, 111, 120, 121, 45, 97, 117, 116, 104, 101, 110, 116, 105, 99, 97, 116, 101], []),
  ([112, 114, 111, 120, 121, 45, 97, 117, 116, 104, 111, 114, 105, 122, 97, 116, 105, 111, 110], []),
  ([114, 97, 110, 103, 101], []),
  ([114, 101, 102, 101, 114, 101, 114], []),
  ([114, 101, 102, 114, 101, 115, 104], []),
  ([114, 101, 116, 114, 121, 45, 97, 102, 116, 101, 114], []),
  ([115, 101, 114, 118, 101, 114], []),
  ([115, 101, 116, 45, 99, 111, 111, 107, 105, 101], []),
  ([115, 116, 114, 105, 99, 116, 45, 116, 114, 97, 110, 115, 112, 111, 114, 116, 45, 115, 101, 99, 117, 114, 105, 116, 121], []),
  ([116, 114, 97, 110, 115, 102, 101, 114, 45, 101, 110, 99, 111, 100, 105, 110, 103], []),
  ([117, 115, 101, 114, 45, 97, 103, 101, 110, 116], []),
  ([118, 97, 114, 121], []),
  ([118, 105, 97], []),
  ([119, 119, 119, 45, 97, 117, 116, 104, 101, 110, 116, 105, 99, 97, 116, 101], [])]
set_option maxRecDepth 100000 in
def namesB : ByteArray := { data := #[58, 97, 117, 116, 104, 111, 114, 105, 116, 121, 10, 58, 109, 101, 116, 104, 111, 100, 61, 71, 69, 84, 10, 58, 109, 101, 116, 104, 111, 100, 61, 80, 79, 83, 84, 10, 58, 112, 97, 116, 104, 61, 47, 10, 58, 112, 97, 116, 104, 61, 47, 105, 110, 100, 101, 120, 46, 104, 116, 109, 108, 10, 58, 115, 99, 104, 101, 109, 101, 61, 104, 116, 116, 112, 10, 58, 115, 99, 104, 101, 109, 101, 61, 104, 116, 116, 112, 115, 10, 58, 115, 116, 97, 116, 117, 115, 61, 50, 48, 48, 10, 58, 115, 116, 97, 116, 117, 115, 61, 50, 48, 52, 10, 58, 115, 116, 97, 116, 117, 115, 61, 50, 48, 54, 10, 58, 115, 116, 97, 116, 117, 115, 61, 51, 48, 52, 10, 58, 115, 116, 97, 116, 117, 115, 61, 52, 48, 48, 10, 58, 115, 116, 97, 116, 117, 115, 61, 52, 48, 52, 10, 58, 115, 116, 97, 116, 117, 115, 61, 53, 48, 48, 10, 97, 99, 99, 101, 112, 116, 45, 99, 104, 97, 114, 115, 101, 116, 10, 97, 99, 99, 101, 112, 116, 45, 101, 110, 99, 111, 100, 105, 110, 103, 61, 103, 122, 105, 112, 44, 32, 100, 101, 102, 108, 97, 116, 101, 10, 97, 99, 99, 101, 112, 116, 45, 108, 97, 110, 103, 117, 97, 103, 101, 10, 97, 99, 99, 101, 112, 116, 45, 114, 97, 110, 103, 101, 115, 10, 97, 99, 99, 101, 112, 116, 10, 97, 99, 99, 101, 115, 115, 45, 99, 111, 110, 116, 114, 111, 108, 45, 97, 108, 108, 111, 119, 45, 111, 114, 105, 103, 105, 110, 10, 97, 103, 101, 10, 97, 108, 108, 111, 119, 10, 97, 117, 116, 104, 111, 114, 105, 122, 97, 116, 105, 111, 110, 10, 99, 97, 99, 104, 101, 45, 99, 111, 110, 116, 114, 111, 108, 10, 99, 111, 110, 116, 101, 110, 116, 45, 100, 105, 115, 112, 111, 115, 105, 116, 105, 111, 110, 10, 99, 111, 110, 116, 101, 110, 116, 45, 101, 110, 99, 111, 100, 105, 110, 103, 10, 99, 111, 110, 116, 101, 110, 116, 45, 108, 97, 110, 103, 117, 97, 103, 101, 10, 99, 111, 110, 116, 101, 110, 116, 45, 108, 101, 110, 103, 116, 104, 10, 99, 111, 110, 116, 101, 110, 116, 45, 108, 111, 99, 97, 116, 105, 111, 110, 10, 99, 111, 110, 116, 101, 110, 116, 45, 114, 97, 110, 103, 101, 10, 99, 111, 110, 116, 101, 110, 116, 45, 116, 121, 112, 101, 10, 99, 111, 111, 107, 105, 101, 10, 100, 97, 116, 101, 10, 101, 116, 97, 103, 10, 101, 120, 112, 101, 99, 116, 10, 101, 120, 112, 105, 114, 101, 115, 10, 102, 114, 111, 109, 10, 104, 111, 115, 116, 10, 105, 102, 45, 109, 97, 116, 99, 104, 10, 105, 102, 45, 109, 111, 100, 105, 102, 105, 101, 100, 45, 115, 105, 110, 99, 101, 10, 105, 102, 45, 110, 111, 110, 101, 45, 109, 97, 116, 99, 104, 10, 105, 102, 45, 114, 97, 110, 103, 101, 10, 105, 102, 45, 117, 110, 109, 111, 100, 105, 102, 105, 101, 100, 45, 115, 105, 110, 99, 101, 10, 108, 97, 115, 116, 45, 109, 111, 100, 105, 102, 105, 101, 100, 10, 108, 105, 110, 107, 10, 108, 111, 99, 97, 116, 105, 111, 110, 10, 109, 97, 120, 45, 102, 111, 114, 119, 97, 114, 100, 115, 10, 112, 114, 111, 120, 121, 45, 97, 117, 116, 104, 101, 110, 116, 105, 99, 97, 116, 101, 10, 112, 114, 111, 120, 121, 45, 97, 117, 116, 104, 111, 114, 105, 122, 97, 116, 105, 111, 110, 10, 114, 97, 110, 103, 101, 10, 114, 101, 102, 101, 114, 101, 114, 10, 114, 101, 102, 114, 101, 115, 104, 10, 114, 101, 116, 114, 121, 45, 97, 102, 116, 101, 114, 10, 115, 101, 114, 118, 101, 114, 10, 115, 101, 116, 45, 99, 111, 111, 107, 105, 101, 10, 115, 116, 114, 105, 99, 116, 45, 116, 114, 97, 110, 115, 112, 111, 114, 116, 45, 115, 101, 99, 117, 114, 105, 116, 121, 10, 116, 114, 97, 110, 115, 102, 101, 114, 45, 101, 110, 99, 111, 100, 105, 110, 103, 10, 117, 115, 101, 114, 45, 97, 103, 101, 110, 116, 10, 118, 97, 114, 121, 10, 118, 105, 97, 10, 119, 119, 119, 45, 97, 117, 116, 104, 101, 110, 116, 105, 99, 97, 116, 101] }
def namesL : List UInt8 := namesB.data.toList
set_option maxRecDepth 100000 in
theorem namesL_len : namesL.length = 758 := rfl
/-- What is still to come behind some of the text. -/
def parse : List UInt8 → List UInt8 → List UInt8 → Bool → List (List UInt8 × List UInt8)
  | [], n, v, _ => [(n, v)]
  | b :: r, n, v, q => if b = 10 then (n, v) :: parse r [] [] false else if b = 61 ∧ q = false then parse r n v true else if q = true then parse r n (v ++ [b]) true else parse r (n ++ [b]) v false
theorem parse_all : parse namesL [] [] false = entsB := by decide +kernel
def toEnt (e : List UInt8 × List UInt8) : Ent := (bs e.1, bs e.2)
/-- The fixed entries. -/
def fixedT : List Ent := entsB.map toEnt
theorem fixedT_len : fixedT.length = 61 := rfl
set_option maxRecDepth 100000 in
theorem names_at {k : Nat} (hk : k < 758) : ∀ h, ({ data := #[58, 97, 117, 116, 104, 111, 114, 105, 116, 121, 10, 58, 109, 101, 116, 104, 111, 100, 61, 71, 69, 84, 10, 58, 109, 101, 116, 104, 111, 100, 61, 80, 79, 83, 84, 10, 58, 112, 97, 116, 104, 61, 47, 10, 58, 112, 97, 116, 104, 61, 47, 105, 110, 100, 101, 120, 46, 104, 116, 109, 108, 10, 58, 115, 99, 104, 101, 109, 101, 61, 104, 116, 116, 112, 10, 58, 115, 99, 104, 101, 109, 101, 61, 104, 116, 116, 112, 115, 10, 58, 115, 116, 97, 116, 117, 115, 61, 50, 48, 48, 10, 58, 115, 116, 97, 116, 117, 115, 61, 50, 48, 52, 10, 58, 115, 116, 97, 116, 117, 115, 61, 50, 48, 54, 10, 58, 115, 116, 97, 116, 117, 115, 61, 51, 48, 52, 10, 58, 115, 116, 97, 116, 117, 115, 61, 52, 48, 48, 10, 58, 115, 116, 97, 116, 117, 115, 61, 52, 48, 52, 10, 58, 115, 116, 97, 116, 117, 115, 61, 53, 48, 48, 10, 97, 99, 99, 101, 112, 116, 45, 99, 104, 97, 114, 115, 101, 116, 10, 97, 99, 99, 101, 112, 116, 45, 101, 110, 99, 111, 100, 105, 110, 103, 61, 103, 122, 105, 112, 44, 32, 100, 101, 102, 108, 97, 116, 101, 10, 97, 99, 99, 101, 112, 116, 45, 108, 97, 110, 103, 117, 97, 103, 101, 10, 97, 99, 99, 101, 112, 116, 45, 114, 97, 110, 103, 101, 115, 10, 97, 99, 99, 101, 112, 116, 10, 97, 99, 99, 101, 115, 115, 45, 99, 111, 110, 116, 114, 111, 108, 45, 97, 108, 108, 111, 119, 45, 111, 114, 105, 103, 105, 110, 10, 97, 103, 101, 10, 97, 108, 108, 111, 119, 10, 97, 117, 116, 104, 111, 114, 105, 122, 97, 116, 105, 111, 110, 10, 99, 97, 99, 104, 101, 45, 99, 111, 110, 116, 114, 111, 108, 10, 99, 111, 110, 116, 101, 110, 116, 45, 100, 105, 115, 112, 111, 115, 105, 116, 105, 111, 110, 10, 99, 111, 110, 116, 101, 110, 116, 45, 101, 110, 99, 111, 100, 105, 110, 103, 10, 99, 111, 110, 116, 101, 110, 116, 45, 108, 97, 110, 103, 117, 97, 103, 101, 10, 99, 111, 110, 116, 101, 110, 116, 45, 108, 101, 110, 103, 116, 104, 10, 99, 111, 110, 116, 101, 110, 116, 45, 108, 111, 99, 97, 116, 105, 111, 110, 10, 99, 111, 110, 116, 101, 110, 116, 45, 114, 97, 110, 103, 101, 10, 99, 111, 110, 116, 101, 110, 116, 45, 116, 121, 112, 101, 10, 99, 111, 111, 107, 105, 101, 10, 100, 97, 116, 101, 10, 101, 116, 97, 103, 10, 101, 120, 112, 101, 99, 116, 10, 101, 120, 112, 105, 114, 101, 115, 10, 102, 114, 111, 109, 10, 104, 111, 115, 116, 10, 105, 102, 45, 109, 97, 116, 99, 104, 10, 105, 102, 45, 109, 111, 100, 105, 102, 105, 101, 100, 45, 115, 105, 110, 99, 101, 10, 105, 102, 45, 110, 111, 110, 101, 45, 109, 97, 116, 99, 104, 10, 105, 102, 45, 114, 97, 110, 103, 101, 10, 105, 102, 45, 117, 110, 109, 111, 100, 105, 102, 105, 101, 100, 45, 115, 105, 110, 99, 101, 10, 108, 97, 115, 116, 45, 109, 111, 100, 105, 102, 105, 101, 100, 10, 108, 105, 110, 107, 10, 108, 111, 99, 97, 116, 105, 111, 110, 10, 109, 97, 120, 45, 102, 111, 114, 119, 97, 114, 100, 115, 10, 112, 114, 111, 120, 121, 45, 97, 117, 116, 104, 101, 110, 116, 105, 99, 97, 116, 101, 10, 112, 114, 111, 120, 121, 45, 97, 117, 116, 104, 111, 114, 105, 122, 97, 116, 105, 111, 110, 10, 114, 97, 110, 103, 101, 10, 114, 101, 102, 101, 114, 101, 114, 10, 114, 101, 102, 114, 101, 115, 104, 10, 114, 101, 116, 114, 121, 45, 97, 102, 116, 101, 114, 10, 115, 101, 114, 118, 101, 114, 10, 115, 101, 116, 45, 99, 111, 111, 107, 105, 101, 10, 115, 116, 114, 105, 99, 116, 45, 116, 114, 97, 110, 115, 112, 111, 114, 116, 45, 115, 101, 99, 117, 114, 105, 116, 121, 10, 116, 114, 97, 110, 115, 102, 101, 114, 45, 101, 110, 99, 111, 100, 105, 110, 103, 10, 117, 115, 101, 114, 45, 97, 103, 101, 110, 116, 10, 118, 97, 114, 121, 10, 118, 105, 97, 10, 119, 119, 119, 45, 97, 117, 116, 104, 101, 110, 116, 105, 99, 97, 116, 101] } : ByteArray)[k]'h = namesL.getD k 0 := fun h => by
  rw [List.getD_eq_getElem?_getD, List.getElem?_eq_getElem (by rw [namesL_len]; exact hk)]
  rfl
theorem ext_namesB {k : Nat} (hk : k < 758) : namesB.extract k (k + 1) = bs [namesL.getD k 0] := by
  apply ByteArray.ext
  apply Array.toList_inj.1
  rw [ByteArray.data_extract, Array.toList_extract, List.extract_eq_take_drop]
  show List.take (k + 1 - k) (List.drop k namesL) = [namesL.getD k 0]
  rw [Nat.add_sub_cancel_left, List.drop_eq_getElem_cons (by rw [namesL_len]; exact hk), List.getD_eq_getElem?_getD, List.getElem?_eq_getElem (by rw [namesL_len]; exact hk)]
  rfl
set_option maxRecDepth 100000 in
theorem names_ext {k : Nat} (hk : k < 758) : ({ data := #[58, 97, 117, 116, 104, 111, 114, 105, 116, 121, 10, 58, 109, 101, 116, 104, 111, 100, 61, 71, 69, 84, 10, 58, 109, 101, 116, 104, 111, 100, 61, 80, 79, 83, 84, 10, 58, 112, 97, 116, 104, 61, 47, 10, 58, 112, 97, 116, 104, 61, 47, 105, 110, 100, 101, 120, 46, 104, 116, 109, 108, 10, 58, 115, 99, 104, 101, 109, 101, 61, 104, 116, 116, 112, 10, 58, 115, 99, 104, 101, 109, 101, 61, 104, 116, 116, 112, 115, 10, 58, 115, 116, 97, 116, 117, 115, 61, 50, 48, 48, 10, 58, 115, 116, 97, 116, 117, 115, 61, 50, 48, 52, 10, 58, 115, 116, 97, 116, 117, 115, 61, 50, 48, 54, 10, 58, 115, 116, 97, 116, 117, 115, 61, 51, 48, 52, 10, 58, 115, 116, 97, 116, 117, 115, 61, 52, 48, 48, 10, 58, 115, 116, 97, 116, 117, 115, 61, 52, 48, 52, 10, 58, 115, 116, 97, 116, 117, 115, 61, 53, 48, 48, 10, 97, 99, 99, 101, 112, 116, 45, 99, 104, 97, 114, 115, 101, 116, 10, 97, 99, 99, 101, 112, 116, 45, 101, 110, 99, 111, 100, 105, 110, 103, 61, 103, 122, 105, 112, 44, 32, 100, 101, 102, 108, 97, 116, 101, 10, 97, 99, 99, 101, 112, 116, 45, 108, 97, 110, 103, 117, 97, 103, 101, 10, 97, 99, 99, 101, 112, 116, 45, 114, 97, 110, 103, 101, 115, 10, 97, 99, 99, 101, 112, 116, 10, 97, 99, 99, 101, 115, 115, 45, 99, 111, 110, 116, 114, 111, 108, 45, 97, 108, 108, 111, 119, 45, 111, 114, 105, 103, 105, 110, 10, 97, 103, 101, 10, 97, 108, 108, 111, 119, 10, 97, 117, 116, 104, 111, 114, 105, 122, 97, 116, 105, 111, 110, 10, 99, 97, 99, 104, 101, 45, 99, 111, 110, 116, 114, 111, 108, 10, 99, 111, 110, 116, 101, 110, 116, 45, 100, 105, 115, 112, 111, 115, 105, 116, 105, 111, 110, 10, 99, 111, 110, 116, 101, 110, 116, 45, 101, 110, 99, 111, 100, 105, 110, 103, 10, 99, 111, 110, 116, 101, 110, 116, 45, 108, 97, 110, 103, 117, 97, 103, 101, 10, 99, 111, 110, 116, 101, 110, 116, 45, 108, 101, 110, 103, 116, 104, 10, 99, 111, 110, 116, 101, 110, 116, 45, 108, 111, 99, 97, 116, 105, 111, 110, 10, 99, 111, 110, 116, 101, 110, 116, 45, 114, 97, 110, 103, 101, 10, 99, 111, 110, 116, 101, 110, 116, 45, 116, 121, 112, 101, 10, 99, 111, 111, 107, 105, 101, 10, 100, 97, 116, 101, 10, 101, 116, 97, 103, 10, 101, 120, 112, 101, 99, 116, 10, 101, 120, 112, 105, 114, 101, 115, 10, 102, 114, 111, 109, 10, 104, 111, 115, 116, 10, 105, 102, 45, 109, 97, 116, 99, 104, 10, 105, 102, 45, 109, 111, 100, 105, 102, 105, 101, 100, 45, 115, 105, 110, 99, 101, 10, 105, 102, 45, 110, 111, 110, 101, 45, 109, 97, 116, 99, 104, 10, 105, 102, 45, 114, 97, 110, 103, 101, 10, 105, 102, 45, 117, 110, 109, 111, 100, 105, 102, 105, 101, 100, 45, 115, 105, 110, 99, 101, 10, 108, 97, 115, 116, 45, 109, 111, 100, 105, 102, 105, 101, 100, 10, 108, 105, 110, 107, 10, 108, 111, 99, 97, 116, 105, 111, 110, 10, 109, 97, 120, 45, 102, 111, 114, 119, 97, 114, 100, 115, 10, 112, 114, 111, 120, 121, 45, 97, 117, 116, 104, 101, 110, 116, 105, 99, 97, 116, 101, 10, 112, 114, 111, 120, 121, 45, 97, 117, 116, 104, 111, 114, 105, 122, 97, 116, 105, 111, 110, 10, 114, 97, 110, 103, 101, 10, 114, 101, 102, 101, 114, 101, 114, 10, 114, 101, 102, 114, 101, 115, 104, 10, 114, 101, 116, 114, 121, 45, 97, 102, 116, 101, 114, 10, 115, 101, 114, 118, 101, 114, 10, 115, 101, 116, 45, 99, 111, 111, 107, 105, 101, 10, 115, 116, 114, 105, 99, 116, 45, 116, 114, 97, 110, 115, 112, 111, 114, 116, 45, 115, 101, 99, 117, 114, 105, 116, 121, 10, 116, 114, 97, 110, 115, 102, 101, 114, 45, 101, 110, 99, 111, 100, 105, 110, 103, 10, 117, 115, 101, 114, 45, 97, 103, 101, 110, 116, 10, 118, 97, 114, 121, 10, 118, 105, 97, 10, 119, 119, 119, 45, 97, 117, 116, 104, 101, 110, 116, 105, 99, 97, 116, 101] } : ByteArray).extract k (k + 1) = bs [namesL.getD k 0] := ext_namesB hk
theorem drop_names {k : Nat} (hk : k < 758) : namesL.drop k = namesL.getD k 0 :: namesL.drop (k + 1) := by
  rw [List.drop_eq_getElem_cons (by rw [namesL_len]; exact hk), List.getD_eq_getElem?_getD, List.getElem?_eq_getElem (by rw [namesL_len]; exact hk)]
  rfl
/-- Where the text is read up to. -/
def FixRel (L : List (List UInt8 × List UInt8)) (n v : List UInt8) (q : Bool) (k : Nat) : Prop :=
  (k ≤ 758 ∧ L ++ parse (namesL.drop k) n v q = entsB) ∨ (k = 759 ∧ L = entsB)
end Tb

set_option maxHeartbeats 8000000 in
set_option maxRecDepth 100000 in
theorem fixed_is (w : World) :
    Calls Try.prog 67 #[] w fun e w' => ∃ v, e = .returned v ∧ w'.ownsRow w.heap.size 95 2 v 61 (entCs fixedT) ∧ Below w.heap.size w w' := by
  obtain ⟨i0, hi, hz0, hz1, hz2⟩ := info_parts infoE
  have HI := Lib.hid hi; clear hi
  have HZ0 := Lib.hid hz0; clear hz0
  have HZ1 := Lib.hid hz1; clear hz1
  have HZ2 := Lib.hid hz2; clear hz2
  have K0 := Lib.hid (heap_alloc_new w (.cells #[.string ⟨#[]⟩, .string ⟨#[]⟩] 95))
  have HB0 := Lib.hid ((Below.refl w.heap.size w).alloc (Nat.le_refl _) (.cells #[.string ⟨#[]⟩, .string ⟨#[]⟩] 95))
  have hs0 : (w.alloc (.cells #[.string ⟨#[]⟩, .string ⟨#[]⟩] 95)).heap.size = w.heap.size + 1 := by simp
  have HS0 := Lib.hid hs0
  clear hs0
  go_enter Try.func67, Try.ntmps67
  go_wp2_with fail
  generalize (w.alloc (.cells #[.string ⟨#[]⟩, .string ⟨#[]⟩] 95)) = W at *
  generalize hg : w.heap.size = g at *
  go_loopw [1, 3, 4] (fun o q i wr => ∃ (k : Nat) (L : List (List UInt8 × List UInt8)) (n v : List UInt8) (b : Bool), k ≤ 759 ∧ q = .bool b ∧ i = .int .i64 (k : Int) ∧ Hid (FixRel L n v b k) ∧ Hid (wr.heap[g]? = some (.cells #[.string (bs n), .string (bs v)] 95 (0, 0))) ∧ Hid (wr.ownsRow (g + 1) 95 2 o L.length (entCs (L.map toEnt))) ∧ Below g w wr ∧ g + 1 ≤ wr.heap.size ∧ n.length + v.length ≤ k) (fun _ _ i _ => 759 - (intOf i).toNat)
  case atStart => exact ⟨0, [], [], [], false, by omega, rfl, rfl, Lib.hid (.inl ⟨by omega, parse_all⟩), Lib.hid K0.out, Lib.hid (World.ownsRow_nil _ _ _ _), HB0.out, by rw [HS0.out]; exact Nat.le_refl _, Nat.zero_le _⟩
  case round =>
    obtain ⟨k, L, n, v, b, hk, rfl, rfl, hF, hC, hO, hB, hsz, hnv⟩ := hrel
    by_cases hend : k = 759
    · have hL : L = entsB := by
        rcases hF.out with ⟨h, _⟩ | ⟨_, h⟩
        · omega
        · exact h
      have hO2 := own_lower hO.out (show g ≤ g + 1 by omega)
      have hlen : L.length = 61 := by rw [hL]; rfl
      rw [hlen, hL] at hO2
      clear hF hO
      go_wp2_with fail
      go_ret
      exact ⟨_, rfl, by rw [hg]; exact hO2, by rw [hg]; exact hB⟩
    · have hFl : k ≤ 758 ∧ L ++ parse (namesL.drop k) n v b = entsB := by
        rcases hF.out with h | ⟨h, _⟩
        · exact h
        · omega
      obtain ⟨c1, c2, c3, c4⟩ := two_cells hC.out
      by_cases h758 : k = 758
      · subst h758
        have hF1 := hFl.2
        rw [List.drop_of_length_le (by rw [namesL_len]; exact Nat.le_refl _), parse] at hF1
        have hF2 := Lib.hid (show FixRel (L ++ [(n, v)]) [] [] false 759 from .inr ⟨rfl, hF1⟩)
        have hL4 : L.length ≤ 61 := by
          have := congrArg List.length hFl.2
          rw [List.length_append, show entsB.length = 61 from rfl] at this
          omega
        have hE := toEnt (n, v)
        go_wp2_with (at_builtin; refine wpList_append_own _ rfl _ _ 47 rfl (g + 1) 95 i0 (.agg #[.string ⟨#[]⟩, .string ⟨#[]⟩]) 2 32 Try.underlying47 HI.out HZ0.out HZ1.out HZ2.out rfl (by decide) _ _ _ rfl (hO.out.alloc _) ⟨wr.heap.size, 0, none⟩ 1 1 [.string (bs n), .string (bs v)] rfl rfl ?d1a ?d2a ?d3a ?d4a ?d5a ?_)
        case d1a =>
          intro j u hj
          match j, hj with
          | 0, hj => simp at hj; subst hj; rw [zero_add_addr]; exact cell_of_row _ wr.heap.size 0 #[.string (bs n), .string (bs v)] _ _ (heap_alloc_new wr _)
          | 1, hj => simp at hj; subst hj; rw [zero_add_addr]; exact cell_of_row _ wr.heap.size 1 #[.string (bs n), .string (bs v)] _ _ (heap_alloc_new wr _)
        case d2a =>
          intro u hu
          simp at hu
          rcases hu with rfl | rfl <;> rfl
        case d3a => unfold maxLen; omega
        case d4a => omega
        case d5a => simp; omega
        intro v' w2 hown hgrow _
        have R1 := Lib.hid (show w2.ownsRow (g + 1) 95 2 v' (L ++ [(n, v)]).length (entCs ((L ++ [(n, v)]).map toEnt)) by
          rw [List.map_append, entCs_cat, List.length_append]
          exact hown)
        have hB2 := (hB.alloc (by omega) (.cells #[.string (bs n), .string (bs v)] 95)).grown hgrow (by simp; omega) (fun b hb => by have := (hO.out.lt b hb).1; omega)
        have hk2w : w2.heap[g]? = some (.cells #[.string (bs n), .string (bs v)] 95 (0, 0)) := by
          refine (hgrow.block g (by simp; omega) (fun hb => ?_)).trans ((heap_alloc_old _ _ (by omega)).trans hC.out)
          have := (hO.out.lt g hb.symm).1
          omega
        have HX := Lib.hid (two_set (x := .string (bs [])) (y := .string (bs [])) hk2w)
        obtain ⟨m1, m2, m3, m4⟩ := two_cells hk2w
        obtain ⟨p1, p2, p3, p4⟩ := two_cells (zero_set (y := .string (bs [])) hk2w)
        have hsz2 : g + 1 ≤ w2.heap.size := by have := hgrow.size; simp at this; omega
        have hB3 := (hB2.setCell (p := ⟨g, 0, none⟩) (Nat.le_refl _) (.string (bs []))).setCell (p := ⟨g, 1, none⟩) (Nat.le_refl _) (.string (bs []))
        have hO3 := Lib.hid (own_rest3 (own_rest3 R1.out (p := ⟨g, 0, none⟩) (by show g < g + 1; omega) (.string (bs []))) (p := ⟨g, 1, none⟩) (by show g < g + 1; omega) (.string (bs [])))
        have hbs : (⟨#[]⟩ : ByteArray) = bs [] := rfl
        clear hown hgrow hk2w hE
        go_wp2_with fail
        go_roundw
        case rel => exact ⟨759, L ++ [(n, v)], [], [], false, by omega, rfl, rfl, hF2, HX, hO3, hB3, by simpa [World.setCell] using hsz2, by decide⟩
        case measure => simp [intOf] <;> omega
      · have hk8 : k < 758 := by omega
        have hat := names_at hk8
        have hex := names_ext hk8
        have hdk : decide ((k : Int) ≤ 758) = true := by rw [decide_eq_true_eq]; omega
        have hd8 : ((k : Int) == 758) = false := by rw [beq_eq_false_iff_ne]; omega
        have hF1 := hFl.2
        rw [drop_names hk8] at hF1
        obtain ⟨y, hy⟩ : ∃ y, namesL.getD k 0 = y := ⟨_, rfl⟩
        rw [hy] at hat hex hF1
        have hk1 : (0 : Int) ≤ (k : Int) := by omega
        have hk2 : (k : Int) < 758 := by omega
        by_cases h10 : y = 10
        · subst h10
          rw [parse, if_pos rfl] at hF1
          have hF2 := Lib.hid (show FixRel (L ++ [(n, v)]) [] [] false (k + 1) from .inl ⟨by omega, by rw [List.append_assoc]; exact hF1⟩)
          have h10t : (((10 : UInt8).toNat : Int) == 10) = true := rfl
          have hL4 : L.length ≤ 61 := by
            have := congrArg List.length hFl.2
            rw [List.length_append, show entsB.length = 61 from rfl] at this
            omega
          have hE := toEnt (n, v)
          go_wp2_with (at_builtin; refine wpList_append_own _ rfl _ _ 47 rfl (g + 1) 95 i0 (.agg #[.string ⟨#[]⟩, .string ⟨#[]⟩]) 2 32 Try.underlying47 HI.out HZ0.out HZ1.out HZ2.out rfl (by decide) _ _ _ rfl (hO.out.alloc _) ⟨wr.heap.size, 0, none⟩ 1 1 [.string (bs n), .string (bs v)] rfl rfl ?d1b ?d2b ?d3b ?d4b ?d5b ?_)
          try case d1b =>
            intro j u hj
            match j, hj with
            | 0, hj => simp at hj; subst hj; rw [zero_add_addr]; exact cell_of_row _ wr.heap.size 0 #[.string (bs n), .string (bs v)] _ _ (heap_alloc_new wr _)
            | 1, hj => simp at hj; subst hj; rw [zero_add_addr]; exact cell_of_row _ wr.heap.size 1 #[.string (bs n), .string (bs v)] _ _ (heap_alloc_new wr _)
          try case d2b => first | exact ⟨rfl, rfl⟩ | (intro u hu; simp at hu; rcases hu with rfl | rfl <;> rfl)
          case d3b => unfold maxLen; omega
          case d4b => omega
          case d5b => first | omega | (simp; omega)
          intro v' w2 hown hgrow _
          have R1 := Lib.hid (show w2.ownsRow (g + 1) 95 2 v' (L ++ [(n, v)]).length (entCs ((L ++ [(n, v)]).map toEnt)) by
            rw [List.map_append, entCs_cat, List.length_append]
            exact hown)
          have hB2 := (hB.alloc (by omega) (.cells #[.string (bs n), .string (bs v)] 95)).grown hgrow (by simp; omega) (fun b hb => by have := (hO.out.lt b hb).1; omega)
          have hk2w : w2.heap[g]? = some (.cells #[.string (bs n), .string (bs v)] 95 (0, 0)) := by
            refine (hgrow.block g (by simp; omega) (fun hb => ?_)).trans ((heap_alloc_old _ _ (by omega)).trans hC.out)
            have := (hO.out.lt g hb.symm).1
            omega
          have HX := Lib.hid (two_set (x := .string (bs [])) (y := .string (bs [])) hk2w)
          obtain ⟨m1, m2, m3, m4⟩ := two_cells hk2w
          obtain ⟨p1, p2, p3, p4⟩ := two_cells (zero_set (y := .string (bs [])) hk2w)
          have hsz2 : g + 1 ≤ w2.heap.size := by have := hgrow.size; simp at this; omega
          have hB3 := (hB2.setCell (p := ⟨g, 0, none⟩) (Nat.le_refl _) (.string (bs []))).setCell (p := ⟨g, 1, none⟩) (Nat.le_refl _) (.string (bs []))
          have hO3 := Lib.hid (own_rest3 (own_rest3 R1.out (p := ⟨g, 0, none⟩) (by show g < g + 1; omega) (.string (bs []))) (p := ⟨g, 1, none⟩) (by show g < g + 1; omega) (.string (bs [])))
          have hbs : (⟨#[]⟩ : ByteArray) = bs [] := rfl
          clear hown hgrow hk2w hE
          go_wp2_with fail
          go_roundw
          case rel => exact ⟨k + 1, L ++ [(n, v)], [], [], false, by omega, rfl, rfl, hF2, HX, hO3, hB3, by simpa [World.setCell] using hsz2, by show 0 + 0 ≤ k + 1; omega⟩
          case measure => simp [intOf] <;> omega
        · have h10f : ((y.toNat : Int) == 10) = false := by
            rw [beq_eq_false_iff_ne]
            intro h
            exact h10 (UInt8.toNat_inj.1 (by show y.toNat = 10; omega))
          by_cases h61 : y = 61 ∧ b = false
          · obtain ⟨rfl, rfl⟩ := h61
            have hF2 := Lib.hid (show FixRel L n v true (k + 1) from .inl ⟨by omega, by
              rw [parse, if_neg (by decide), if_pos ⟨rfl, rfl⟩] at hF1
              exact hF1⟩)
            have e1 : IntKind.i64.wrap ((k : Int) + 1) = ((k + 1 : Nat) : Int) := by rw [IntKind.wrap_i64]; omega
            have h61t : (((61 : UInt8).toNat : Int) == 61) = true := rfl
            go_wp2_with fail
            go_roundw
            case rel => exact ⟨k + 1, L, n, v, true, by omega, rfl, rfl, hF2, hC, hO, hB, hsz, by omega⟩
            case measure => simp [intOf] <;> omega
          · cases b with
            | true =>
              by_cases hy61 : y = 61
              · have h61t : ((y.toNat : Int) == 61) = true := by rw [hy61]; rfl
                clear hy61
                have e1 : IntKind.i64.wrap ((k : Int) + 1) = ((k + 1 : Nat) : Int) := by rw [IntKind.wrap_i64]; omega
                have hvs : (bs v).size ≤ 759 := by rw [bs_size]; omega
                have hys : (bs [y]).size = 1 := bs_size _
                have hcat := bs_cat v [y]
                have hx1 := one_set (y := .string (bs (v ++ [y]))) hC.out
                have hF2 := Lib.hid (show FixRel L n (v ++ [y]) true (k + 1) from .inl ⟨by omega, by
                  rw [parse, if_neg h10, if_neg (by simp), if_pos rfl] at hF1
                  exact hF1⟩)
                have HX := Lib.hid hx1
                have hB2 := hB.setCell (p := ⟨g, 1, none⟩) (Nat.le_refl _) (.string (bs (v ++ [y])))
                have hO2 := Lib.hid (own_rest3 hO.out (p := ⟨g, 1, none⟩) (by show g < g + 1; omega) (.string (bs (v ++ [y]))))
                clear hx1
                go_wp2_with fail
                go_region
                go_wp2_with fail
                go_roundw
                case rel => exact ⟨k + 1, L, n, v ++ [y], true, by omega, rfl, rfl, hF2, HX, hO2, hB2.drew, by simpa [World.setCell, World.drew] using hsz, by rw [List.length_append, List.length_singleton]; omega⟩
                case measure => simp [intOf] <;> omega
              · have h61f : ((y.toNat : Int) == 61) = false := by
                  rw [beq_eq_false_iff_ne]
                  intro h
                  exact hy61 (UInt8.toNat_inj.1 (by show y.toNat = 61; omega))
                have e1 : IntKind.i64.wrap ((k : Int) + 1) = ((k + 1 : Nat) : Int) := by rw [IntKind.wrap_i64]; omega
                have hvs : (bs v).size ≤ 759 := by rw [bs_size]; omega
                have hys : (bs [y]).size = 1 := bs_size _
                have hcat := bs_cat v [y]
                have hx1 := one_set (y := .string (bs (v ++ [y]))) hC.out
                have hF2 := Lib.hid (show FixRel L n (v ++ [y]) true (k + 1) from .inl ⟨by omega, by
                  rw [parse, if_neg h10, if_neg (by simp), if_pos rfl] at hF1
                  exact hF1⟩)
                have HX := Lib.hid hx1
                have hB2 := hB.setCell (p := ⟨g, 1, none⟩) (Nat.le_refl _) (.string (bs (v ++ [y])))
                have hO2 := Lib.hid (own_rest3 hO.out (p := ⟨g, 1, none⟩) (by show g < g + 1; omega) (.string (bs (v ++ [y]))))
                clear hx1
                go_wp2_with fail
                go_region
                go_wp2_with fail
                go_roundw
                case rel => exact ⟨k + 1, L, n, v ++ [y], true, by omega, rfl, rfl, hF2, HX, hO2, hB2.drew, by simpa [World.setCell, World.drew] using hsz, by rw [List.length_append, List.length_singleton]; omega⟩
                case measure => simp [intOf] <;> omega
            | false =>
              have h61n : y ≠ 61 := fun h => h61 ⟨h, rfl⟩
              have h61f : ((y.toNat : Int) == 61) = false := by
                rw [beq_eq_false_iff_ne]
                intro h
                exact h61n (UInt8.toNat_inj.1 (by show y.toNat = 61; omega))
              have e1 : IntKind.i64.wrap ((k : Int) + 1) = ((k + 1 : Nat) : Int) := by rw [IntKind.wrap_i64]; omega
              have hvs : (bs n).size ≤ 759 := by rw [bs_size]; omega
              have hys : (bs [y]).size = 1 := bs_size _
              have hcat := bs_cat n [y]
              have hx1 := zero_set (y := .string (bs (n ++ [y]))) hC.out
              have hF2 := Lib.hid (show FixRel L (n ++ [y]) v false (k + 1) from .inl ⟨by omega, by
                rw [parse, if_neg h10, if_neg (fun h => h61n h.1), if_neg (by simp)] at hF1
                exact hF1⟩)
              have HX := Lib.hid hx1
              have hB2 := hB.setCell (p := ⟨g, 0, none⟩) (Nat.le_refl _) (.string (bs (n ++ [y])))
              have hO2 := Lib.hid (own_rest3 hO.out (p := ⟨g, 0, none⟩) (by show g < g + 1; omega) (.string (bs (n ++ [y]))))
              clear hx1
              go_wp2_with fail
              go_region
              go_wp2_with fail
              go_roundw
              case rel => exact ⟨k + 1, L, n ++ [y], v, false, by omega, rfl, rfl, hF2, HX, hO2, hB2.drew, by simpa [World.setCell, World.drew] using hsz, by rw [List.length_append, List.length_singleton]; omega⟩
              case measure => simp [intOf] <;> omega
end Go.Proofs.Ytamgnbjdeoklbaa
