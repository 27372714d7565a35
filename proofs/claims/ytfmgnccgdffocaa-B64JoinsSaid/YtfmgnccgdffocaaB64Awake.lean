/- The contracts of layer 3 under names for their results; the laws' own look at answers that the document fixes: all stand. -/
import Derived.Test.YtfmgnccgdffocaaProg
import Derived.Test.YtfmgnccgdffocaaBytes
import Derived.Test.YtfmgnccgdffocaaB64Math
import Derived.Test.YtfmgnccgdffocaaB64Low
import Derived.Test.YtfmgnccgdffocaaB64Encode
import Derived.Test.YtfmgnccgdffocaaB64Decode
import Derived.Test.YtfmgnccgdffocaaB64RefEncode
import Derived.Test.YtfmgnccgdffocaaB64RefDecode
import Derived.WalkKit
import Derived.Lib.Hide
import Derived.Outline
import Derived.IntWalk
import Derived.WalkSpells
namespace Go.Proofs.Ytfmgnccgdffocaa
open Go.RowKit Bytes B64

def encS (s : ByteArray) : ByteArray := mk (enc s.data.toList)
def decS (s : ByteArray) : ByteArray := mk ((dec s.data.toList).getD [])
def decO (s : ByteArray) : Bool := (dec s.data.toList).isSome
theorem decS_encS (s : ByteArray) : decS (encS s) = s := by
  unfold decS encS
  rw [mk_list, dec_enc]
  exact mk_data s
theorem decO_encS (s : ByteArray) : decO (encS s) = true := by
  unfold decO encS
  rw [mk_list, dec_enc]
  rfl
theorem encS_size (s : ByteArray) : (encS s).size = (s.size * 8 + 5) / 6 := by
  unfold encS
  rw [mk_size, enc_len, ← Lib.size_eq]
theorem encS_decS {s : ByteArray} (h : decO s = true) : encS (decS s) = s := by
  unfold decO at h
  unfold encS decS
  cases hd : dec s.data.toList with
  | none => rw [hd] at h; cases h
  | some b =>
    rw [mk_list]
    show mk (enc b) = s
    rw [enc_dec hd]
    exact mk_data s
theorem decS_no {s : ByteArray} (h : decO s = false) : decS s = ⟨#[]⟩ := by
  unfold decO at h
  unfold decS
  cases hd : dec s.data.toList with
  | none => rfl
  | some b => rw [hd] at h; cases h
theorem decS_size (s : ByteArray) : (decS s).size ≤ s.size := by
  unfold decS
  rw [mk_size, Lib.size_eq]
  cases hd : dec s.data.toList with
  | none => exact Nat.zero_le _
  | some b => exact dec_len hd
theorem encS_cat (s t : ByteArray) (h : s.size % 3 = 0) : encS (s ++ t) = encS s ++ encS t := by
  unfold encS
  rw [mk_cat, cat_list, enc_cat _ _ (by rw [← Lib.size_eq]; exact h)]

theorem encode_is (s t : ByteArray) (h : Hid (encS s = t)) (w : World) (hs : s.size ≤ 100000000000) :
    Calls Try.prog 8 #[.string s] w fun e w' => e = .returned (.string t) ∧ Below w.heap.size w w' := by
  have := encode_any s w (by omega)
  rw [← h.out]
  exact this
theorem refEncode_is (s t : ByteArray) (h : Hid (encS s = t)) (w : World) (hs : s.size ≤ 100000000000) :
    Calls Try.prog 9 #[.string s] w fun e w' => e = .returned (.string t) ∧ Below w.heap.size w w' := by
  have := refEncode_any s w (by omega)
  rw [← h.out]
  exact this
theorem decode_is (s t : ByteArray) (o : Bool) (h : Hid (decS s = t)) (ho : Hid (decO s = o)) (w : World) (hs : s.size ≤ 100000000000) :
    Calls Try.prog 10 #[.string s] w fun e w' => e = .returned (.tuple #[.string t, .bool o]) ∧ Below w.heap.size w w' := by
  have := decode_any s w (by omega)
  rw [← h.out, ← ho.out]
  exact this
theorem refDecode_is (s t : ByteArray) (o : Bool) (h : Hid (decS s = t)) (ho : Hid (decO s = o)) (w : World) (hs : s.size ≤ 100000000000) :
    Calls Try.prog 11 #[.string s] w fun e w' => e = .returned (.tuple #[.string t, .bool o]) ∧ Below w.heap.size w w' := by
  have := refDecode_any s w (by omega)
  rw [← h.out, ← ho.out]
  exact this

theorem aw_yes : dec [45, 45, 95, 95] = some [251, 239, 255] := by
  rw [show ([45, 45, 95, 95] : List UInt8) = enc [251, 239, 255] from by decide +kernel]
  exact dec_enc _
theorem aw_no : dec [65, 66] = none := by decide +kernel
theorem aw_enc : enc [0] = [65, 65] := by decide +kernel

theorem awake_any (w : World) :
    Calls Try.prog 7 #[] w fun e w' => e = .returned (.bool true) ∧ Below w.heap.size w w' := by
  have n0 : Below w.heap.size w w := Below.refl _ _
  have h1 : Hid (decS ⟨#[45, 45, 95, 95]⟩ = ⟨#[251, 239, 255]⟩) := by
    show _ = _
    unfold decS
    rw [show (⟨#[45, 45, 95, 95]⟩ : ByteArray).data.toList = [45, 45, 95, 95] from rfl, aw_yes]
    rfl
  have h2 : Hid (decO ⟨#[45, 45, 95, 95]⟩ = true) := by
    show _ = _
    unfold decO
    rw [show (⟨#[45, 45, 95, 95]⟩ : ByteArray).data.toList = [45, 45, 95, 95] from rfl, aw_yes]
    rfl
  have h3 : Hid (decS ⟨#[65, 66]⟩ = ⟨#[]⟩) := by
    show _ = _
    unfold decS
    rw [show (⟨#[65, 66]⟩ : ByteArray).data.toList = [65, 66] from rfl, aw_no]
    rfl
  have h4 : Hid (decO ⟨#[65, 66]⟩ = false) := by
    show _ = _
    unfold decO
    rw [show (⟨#[65, 66]⟩ : ByteArray).data.toList = [65, 66] from rfl, aw_no]
    rfl
  have h5 : Hid (encS ⟨#[0]⟩ = ⟨#[65, 65]⟩) := by
    show _ = _
    unfold encS
    rw [show (⟨#[0]⟩ : ByteArray).data.toList = [0] from rfl, aw_enc]
    rfl
  go_enter Try.func7, Try.ntmps7
  go_wp2_with fail
  refine (decode_is _ _ _ h1 h2 _ (by decide)).mono ?_
  rintro e w1 ⟨rfl, hB⟩
  have n1 := n0.trans (hB.mono (Nat.le_refl _))
  have s1 := n1.size
  clear hB n0
  go_wp2_with fail
  refine (decode_is _ _ _ h3 h4 _ (by decide)).mono ?_
  rintro e w2 ⟨rfl, hB⟩
  have n2 := n1.trans (hB.mono s1)
  have s2 := n2.size
  clear hB n1 s1
  go_wp2_with fail
  refine (encode_is _ _ h5 _ (by decide)).mono ?_
  rintro e w3 ⟨rfl, hB⟩
  have n3 := n2.trans (hB.mono s2)
  clear hB n2 s2
  go_wp2_with fail
  go_ret
  exact ⟨rfl, n3⟩
end Go.Proofs.Ytfmgnccgdffocaa
