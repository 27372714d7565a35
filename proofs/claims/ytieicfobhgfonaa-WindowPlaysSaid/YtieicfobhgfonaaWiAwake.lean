/- The law's awake of layer 17. No condition. -/
import Derived.Test.YtieicfobhgfonaaProg
import Derived.Test.YtieicfobhgfonaaWiMath
import Derived.Test.YtieicfobhgfonaaWiSums
import Derived.Test.YtieicfobhgfonaaWiCode
import Derived.WalkKit
import Derived.Lib.Hide
import Derived.Laws.Rows
import Derived.Outline
import Derived.IntWalk
import Derived.WalkSpells
import Derived.WalkLawsBesides
namespace Go.Proofs.Ytieicfobhgfonaa
open Go Go.RowKit Wi

set_option maxHeartbeats 8000000 in
set_option maxRecDepth 100000 in
theorem wawake_is (w : World) : Calls Try.prog 7 #[] w fun e w' => e = .returned (.bool true) ∧ Below w.heap.size w w' := by
  have h1 : takeB (openB newB 1) 1 60000 = (⟨5535, 65535, [(1, 5535)]⟩, 60000) := rfl
  have h2 : takeB (openB ⟨5535, 65535, [(1, 5535)]⟩ 3) 3 10000 = (⟨0, 65535, [(1, 5535), (3, 60000)]⟩, 5535) := rfl
  have h3 : initB ⟨0, 65535, [(1, 5535), (3, 60000)]⟩ 0 = (⟨0, 0, [(1, -60000), (3, -5535)]⟩, 0) := rfl
  have h4 : ofR [(1, -60000), (3, -5535)] 1 = some (-60000) := rfl
  have h5 : growB ⟨0, 0, [(1, -60000), (3, -5535)]⟩ 1 70000 = (⟨0, 0, [(3, -5535), (1, 10000)]⟩, 0) := rfl
  have i1 := inv_new.openB (by decide) 1
  have i2 := i1.take (by decide) 1 60000
  rw [h1] at i2
  have i2 : Inv 0 ⟨5535, 65535, [(1, 5535)]⟩ := i2
  have i3 := i2.openB (by decide) 3
  have i4 := i3.take (by decide) 3 10000
  rw [h2] at i4
  have i4 : Inv 0 ⟨0, 65535, [(1, 5535), (3, 60000)]⟩ := i4
  have i5 := i4.init 0
  rw [h3] at i5
  have i5 : Inv (0 + 2147483647) ⟨0, 0, [(1, -60000), (3, -5535)]⟩ := i5
  obtain ⟨b1, hb1⟩ : ∃ b1, openB newB 1 = b1 := ⟨_, rfl⟩
  obtain ⟨b2, hb2⟩ : ∃ b2 : Bk, ⟨5535, 65535, [(1, 5535)]⟩ = b2 := ⟨_, rfl⟩
  obtain ⟨b3, hb3⟩ : ∃ b3, openB b2 3 = b3 := ⟨_, rfl⟩
  obtain ⟨b4, hb4⟩ : ∃ b4 : Bk, ⟨0, 65535, [(1, 5535), (3, 60000)]⟩ = b4 := ⟨_, rfl⟩
  obtain ⟨b5, hb5⟩ : ∃ b5 : Bk, ⟨0, 0, [(1, -60000), (3, -5535)]⟩ = b5 := ⟨_, rfl⟩
  obtain ⟨b6, hb6⟩ : ∃ b6 : Bk, ⟨0, 0, [(3, -5535), (1, 10000)]⟩ = b6 := ⟨_, rfl⟩
  have h4 : ofR b5.rows 1 = some (-60000) := by rw [← hb5]; exact h4
  have hc6 : b6.conn = 0 := by rw [← hb6]
  rw [hb1, hb2] at h1
  rw [hb2, hb3, hb4] at h2
  rw [hb4, hb5] at h3
  rw [hb5, hb6] at h5
  rw [hb1] at i1
  rw [hb2] at i2
  rw [hb2, hb3] at i3
  rw [hb4] at i4
  rw [hb5] at i5
  have H1 := Lib.hid h1
  have H2 := Lib.hid h2
  have H3 := Lib.hid h3
  have H4 := Lib.hid h4
  have H5 := Lib.hid h5
  have I1 := Lib.hid i1
  have I2 := Lib.hid i2
  have I3 := Lib.hid i3
  have I4 := Lib.hid i4
  have I5 := Lib.hid i5
  have HB1' := Lib.hid hb1
  have HB3' := Lib.hid hb3
  have HC6 : Hid (∀ (g b : Nat) (W : World), BkAt W g b b6 → Calls Try.prog 17 #[.pointer (some ⟨b, 0, none⟩)] W fun e w' => e = .returned (.int .i64 0) ∧ W = w') := Lib.hid (fun g b W h => by rw [← hc6]; exact wconn_is g b _ W (Lib.hid h))
  clear h1 h2 h3 h4 h5 i1 i2 i3 i4 i5 hb1 hb2 hb3 hb4 hb5 hb6 hc6
  go_enter Try.func7, Try.ntmps7
  go_wp2_with fail
  refine (wnew_is _).mono ?_
  rintro e w1 ⟨b, rfl, hb, hN, hB1, _⟩
  have HB1 := Lib.hid hB1
  obtain ⟨g, hg⟩ : ∃ g, w.heap.size = g := ⟨_, rfl⟩
  have G := Lib.hid hg
  rw [hg] at hN HB1
  clear hB1 hg hb
  go_wp2_with fail
  refine (wopen_is g b 0 newB 1 w1 hN (Lib.hid inv_new) ⟨by decide, by decide⟩ (by decide)).mono ?_
  rintro e w2 ⟨rfl, hF, hK⟩
  rw [HB1'.out] at hF
  have HB2 := Lib.hid (HB1.out.trans (hK.out.below hN.out))
  clear hK hN HB1
  go_wp2_with fail
  refine (wtake_is g b 0 b1 b2 1 60000 60000 w2 hF I1 ⟨by decide, by decide⟩ (by decide) ⟨by decide, by decide⟩ H1).mono ?_
  rintro e w3 ⟨rfl, hF3, hK⟩
  have HB3 := Lib.hid (HB2.out.trans (hK.out.below hF.out))
  clear hK hF HB2
  go_wp2_with fail
  refine (wopen_is g b 0 b2 3 w3 hF3 I2 ⟨by decide, by decide⟩ (by decide)).mono ?_
  rintro e w4 ⟨rfl, hF4, hK⟩
  rw [HB3'.out] at hF4
  have HB4 := Lib.hid (HB3.out.trans (hK.out.below hF3.out))
  clear hK hF3 HB3
  go_wp2_with fail
  refine (wtake_is g b 0 b3 b4 3 10000 5535 w4 hF4 I3 ⟨by decide, by decide⟩ (by decide) ⟨by decide, by decide⟩ H2).mono ?_
  rintro e w5 ⟨rfl, hF5, hK⟩
  have HB5 := Lib.hid (HB4.out.trans (hK.out.below hF4.out))
  clear hK hF4 HB4
  go_wp2_with fail
  refine (winit_is g b 0 b4 b5 0 0 w5 hF5 I4 ⟨by decide, by decide⟩ (by decide) H3).mono ?_
  rintro e w6 ⟨rfl, hF6, hK⟩
  have HB6 := Lib.hid (HB5.out.trans (hK.out.below hF5.out))
  clear hK hF5 HB5
  go_wp2_with fail
  refine (wof_is g b b5 1 w6 (some (-60000)) hF6 (by decide) H4).mono ?_
  rintro e w7 ⟨rfl, hB7⟩
  have hF7 := Lib.hid (hF6.out.below hB7)
  have HB7 := Lib.hid (HB6.out.trans (hB7.mono (by have := hF6.out.gb; have := hF6.out.lt; omega)))
  clear hB7 hF6 HB6
  go_wp2_with fail
  refine (wgrow_is g b _ b5 b6 1 70000 0 w7 hF7 I5 ⟨by decide, by decide⟩ (by decide) (by decide) H5).mono ?_
  rintro e w8 ⟨rfl, hF8, hK⟩
  have HB8 := Lib.hid (HB7.out.trans (hK.out.below hF7.out))
  clear hK hF7 HB7
  go_wp2_with fail
  refine (HC6.out g b w8 hF8.out).mono ?_
  rintro e w9 ⟨rfl, rfl⟩
  go_wp2_with fail
  go_ret
  exact ⟨rfl, by rw [G.out]; exact HB8.out⟩
end Go.Proofs.Ytieicfobhgfonaa
