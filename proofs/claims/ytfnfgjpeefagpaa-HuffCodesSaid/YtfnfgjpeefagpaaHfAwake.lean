/- The law's own look at answers that the document fixes: all stand. -/
import Derived.Test.YtfnfgjpeefagpaaProg
import Derived.Test.YtfnfgjpeefagpaaBytes
import Derived.Test.YtfnfgjpeefagpaaHfMath
import Derived.Test.YtfnfgjpeefagpaaHfSize
import Derived.Test.YtfnfgjpeefagpaaHfEncode
import Derived.Test.YtfnfgjpeefagpaaHfDecode
import Derived.WalkKit
import Derived.Lib.Hide
import Derived.Outline
import Derived.IntWalk
import Derived.WalkSpells
namespace Go.Proofs.Ytfnfgjpeefagpaa
open Go.RowKit Bytes Hf

theorem aw_dec : Hf.decode (⟨#[100, 2]⟩ : ByteArray).data.toList = some [51, 48, 50] := by decide +kernel
theorem aw_enc1 : enc (⟨#[119, 119, 119, 46, 101, 120, 97, 109, 112, 108, 101, 46, 99, 111, 109]⟩ : ByteArray).data.toList = [241, 227, 194, 229, 242, 58, 107, 160, 171, 144, 244, 255] := by decide +kernel
theorem aw_enc2 : enc (⟨#[110, 111, 45, 99, 97, 99, 104, 101]⟩ : ByteArray).data.toList = [168, 235, 16, 100, 156, 191] := by decide +kernel
theorem aw_size : sizeE (⟨#[51, 48, 50]⟩ : ByteArray).data.toList = 2 := by decide +kernel
theorem is_list (l : List UInt8) : ((mk l).toList == l) = true := by
  rw [Lib.toList_data]
  exact beq_self_eq_true _
set_option maxHeartbeats 1000000 in
set_option maxRecDepth 100000 in
theorem awake_any (w : World) : Calls Try.prog 9 #[] w fun e w' => e = .returned (.bool true) ∧ Below w.heap.size w w' := by
  obtain ⟨d, hd⟩ : ∃ d, mk (decT (Hf.decode (⟨#[100, 2]⟩ : ByteArray).data.toList)) = d := ⟨_, rfl⟩
  have d2 : decC (Hf.decode (⟨#[100, 2]⟩ : ByteArray).data.toList) = 0 := by rw [aw_dec]; rfl
  obtain ⟨x, hx⟩ : ∃ x, mk (enc (⟨#[119, 119, 119, 46, 101, 120, 97, 109, 112, 108, 101, 46, 99, 111, 109]⟩ : ByteArray).data.toList) = x := ⟨_, rfl⟩
  obtain ⟨y, hy⟩ : ∃ y, mk (enc (⟨#[110, 111, 45, 99, 97, 99, 104, 101]⟩ : ByteArray).data.toList) = y := ⟨_, rfl⟩
  have f1 : (d.toList == [51, 48, 50]) = true := by rw [← hd, aw_dec]; exact is_list _
  have f2 : (x.toList == [241, 227, 194, 229, 242, 58, 107, 160, 171, 144, 244, 255]) = true := by rw [← hx, aw_enc1]; exact is_list _
  have f3 : (y.toList == [168, 235, 16, 100, 156, 191]) = true := by rw [← hy, aw_enc2]; exact is_list _
  have HD := Lib.hid hd
  have HX := Lib.hid hx
  have HY := Lib.hid hy
  have HC := Lib.hid d2
  clear hd hx hy d2
  go_enter Try.func9, Try.ntmps9
  go_wp2_with fail
  refine (decode_is ⟨#[100, 2]⟩ d 0 _ (by decide) HD HC).mono ?_
  rintro e w1 ⟨rfl, n1⟩
  go_wp2_with fail
  refine (encode_is ⟨#[119, 119, 119, 46, 101, 120, 97, 109, 112, 108, 101, 46, 99, 111, 109]⟩ x _ (by decide) HX).mono ?_
  rintro e w2 ⟨rfl, n2⟩
  have m2 := n1.trans (n2.mono n1.size)
  go_wp2_with fail
  refine (encode_is ⟨#[110, 111, 45, 99, 97, 99, 104, 101]⟩ y _ (by decide) HY).mono ?_
  rintro e w3 ⟨rfl, n3⟩
  have m3 := m2.trans (n3.mono m2.size)
  go_wp2_with fail
  refine (size_is ⟨#[51, 48, 50]⟩ 2 _ (by decide) (Lib.hid aw_size)).mono ?_
  rintro e w' ⟨rfl, rfl⟩
  go_wp2_with fail
  go_ret
  exact ⟨rfl, m3⟩
end Go.Proofs.Ytfnfgjpeefagpaa
