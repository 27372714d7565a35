/- The contracts of the document's state: the next number, the next name. For texts of at most 10^6 bytes. -/
import Derived.Test.YtngbifdenbfepaaProg
import Derived.Test.YtngbifdenbfepaaBytes
import Derived.Test.YtngbifdenbfepaaNmMath
import Derived.Test.YtngbifdenbfepaaNmAt
import Derived.Test.YtngbifdenbfepaaStMath
import Derived.Test.YtngbifdenbfepaaNumGet
import Derived.Test.YtngbifdenbfepaaNumRef
import Derived.Test.YtngbifdenbfepaaRefNm
import Derived.Test.YtngbifdenbfepaaGrown
import Derived.Test.YtngbifdenbfepaaQuiet
import Derived.WalkKit
import Derived.Lib.Hide
import Derived.Laws.Rows
import Derived.Outline
import Derived.IntWalk
import Derived.WalkSpells
import Derived.WalkLawsBesides
import Derived.Deep.QuietTactic
import Derived.BigQuiet
import Derived.Deep.Draws
namespace Go.Proofs.Ytngbifdenbfepaa
open Go.RowKit NumMath NmMath Bytes MsgMath StMath

/-- The document's state: the text, the place, the error. -/
def StAt (W : World) (r : Nat) (s : ByteArray) (st : St) : Prop := W.heap[r]? = some (.cells #[.string s, .int .i64 st.1, .int .i64 st.2] 64 (0, 0))
section
variable {W W' : World} {r B : Nat} {s : ByteArray} {st : St}
theorem StAt.c0 (h : StAt W r s st) : W.cell? ⟨r, 0, none⟩ = some (.string s) := cell_of_row W r 0 _ _ _ h
theorem StAt.c1 (h : StAt W r s st) : W.cell? ⟨r, 1, none⟩ = some (.int .i64 st.1) := cell_of_row W r 1 _ _ _ h
theorem StAt.c2 (h : StAt W r s st) : W.cell? ⟨r, 2, none⟩ = some (.int .i64 st.2) := cell_of_row W r 2 _ _ _ h
theorem StAt.fz (h : StAt W r s st) (i : Nat) : W.frozen? ⟨r, i, none⟩ = false := by
  unfold StAt at h
  simp [World.frozen?, h]
theorem StAt.lt (h : StAt W r s st) : r < W.heap.size := by
  rcases Nat.lt_or_ge r W.heap.size with hlt | hge
  · exact hlt
  · unfold StAt at h; rw [Array.getElem?_eq_none hge] at h; cases h
theorem StAt.drewN (h : StAt W r s st) (n : Nat) : StAt (W.drewN n) r s st := h
theorem StAt.below (h : StAt W r s st) (hb : Below B W W') (hr : r < B) : StAt W' r s st := (hb.block r hr).trans h
theorem StAt.held (h : StAt W r s st) (hb : Below W.heap.size W W') : StAt W' r s st := h.below hb h.lt
theorem StAt.set1 (h : StAt W r s st) (q : Nat) : StAt (W.setCell ⟨r, 1, none⟩ (.int .i64 q)) r s (q, st.2) := by
  unfold StAt at h ⊢
  simp [World.setCell, Array.getElem?_modify, h]
theorem StAt.set2 (h : StAt W r s st) (q : Nat) : StAt (W.setCell ⟨r, 2, none⟩ (.int .i64 q)) r s (st.1, q) := by
  unfold StAt at h ⊢
  simp [World.setCell, Array.getElem?_modify, h]
theorem StAt.far (h : StAt W r s st) {q : Addr} (hq : r ≠ q.block) (v : Value) : StAt (W.setCell q v) r s st := (Below.heap_setCell W q v r hq).trans h
theorem StAt.other (h : StAt W r s st) {q : Nat} (hg : W.grownBy W' (some q)) (hq : r ≠ q) : StAt W' r s st := (grown_block hg h.lt hq).trans h
end

set_option maxHeartbeats 1000000 in
theorem stNum_any (s : ByteArray) (r n x : Nat) (st st' : St) (w : World) (h : StAt w r s st) (hs : s.size ≤ 1000000) (hn1 : 1 ≤ n) (hn : n ≤ 4) (hp : st.1 ≤ 1000000) (hx : Hid (numS s.data.toList n st = (x, st'))) :
    Calls Try.prog 23 #[.pointer (some ⟨r, 0, none⟩), .int .i64 n] w fun e w' => e = .returned (.int .i64 x) ∧ StAt w' r s st' ∧ w.grownBy w' (some r) := by
  have SZ := Lib.hid (Lib.size_eq s)
  obtain ⟨p, e⟩ := st
  have h0 := h.c0
  have h1 := h.c1
  have h2 := h.c2
  have hf := h.fz
  simp only at h1 h2 hp
  have H := Lib.hid h
  clear h
  by_cases he : e = 0
  · subst he
    by_cases hin : p + n ≤ s.size
    · have hx2 := hx.out
      rw [numS_ok (by rw [← SZ.out]; exact hin)] at hx2
      injection hx2 with hx3 hx4
      subst hx4
      have hxl : x < 4294967296 := by
        rw [← hx3]
        unfold nu
        have := be_lt (cut s.data.toList p n)
        have h2 : (cut s.data.toList p n).length ≤ 4 := by unfold cut; rw [List.length_take]; omega
        have h3 : 256 ^ (cut s.data.toList p n).length ≤ 256 ^ 4 := Nat.pow_le_pow_right (by omega) h2
        omega
      have HG : Hid (∀ m, Calls Try.prog 19 #[.string s, .int .i64 p, .int .i64 n] (w.drewN m) fun e w' => e = .returned (.tuple #[.int .u64 x, .bool true]) ∧ w.drewN m = w') := fun m => by
        have := refget_yes s p n (w.drewN m) (by unfold maxLen; omega) hn1 (by omega) hin
        rw [← hx3]
        exact this
      clear hx hx3
      go_enter Try.func23, Try.ntmps23
      go_wp2_with fail
      go_quiet ((go_at_call 19; exact quiet_left (HG.out _)))
      go_wp2_with fail
      go_ret
      refine ⟨rfl, ?_, ?_⟩
      · have := (H.out.drewN 1).set1 (p + n)
        exact (H.out.drewN _).set1 (p + n)
      · exact only_setCell (g := r) (grown_drewN (grown_refl w _) _) (p := ⟨r, 1, none⟩) (.inl rfl) _
    · have hx2 := hx.out
      rw [numS_short (by rw [← SZ.out]; omega)] at hx2
      injection hx2 with hx3 hx4
      subst hx3
      subst hx4
      have hno : Hid (holdsB s.size (p : Int) (n : Int) = false) := holds_no (by omega)
      clear hx
      go_enter Try.func23, Try.ntmps23
      go_wp2_with fail
      go_quiet ((go_at_call 19; exact quiet_left (refget_no s p n _ (by unfold maxLen; omega) (.inr (.inr hno.out)))))
      go_wp2_with fail
      go_ret
      refine ⟨rfl, ?_, ?_⟩
      · exact (H.out.drewN _).set2 2
      · exact only_setCell (g := r) (grown_drewN (grown_refl w _) _) (p := ⟨r, 2, none⟩) (.inl rfl) _
  · have hx2 := hx.out
    rw [numS_err he] at hx2
    injection hx2 with hx3 hx4
    subst hx3
    subst hx4
    have hne : ((e : Int) != 0) = true := bne_iff_ne.2 (by omega)
    clear hx he
    go_enter Try.func23, Try.ntmps23
    go_wp2_with fail
    go_ret
    exact ⟨rfl, H.out, grown_refl _ _⟩

set_option maxHeartbeats 1000000 in
theorem stName_any (s : ByteArray) (r : Nat) (o : List UInt8) (st st' : St) (w : World) (h : StAt w r s st) (hs : s.size ≤ 1000000) (hp : st.1 ≤ 1000000) (hx : Hid (nameS s.data.toList st = (o, st'))) :
    Calls Try.prog 24 #[.pointer (some ⟨r, 0, none⟩)] w fun e w' => e = .returned (.string (mk o)) ∧ StAt w' r s st' ∧ w.grownBy w' (some r) := by
  have SZ := Lib.hid (Lib.size_eq s)
  obtain ⟨p, e⟩ := st
  have h0 := h.c0
  have h1 := h.c1
  have h2 := h.c2
  have hf := h.fz
  simp only at h1 h2 hp
  have H := Lib.hid h
  clear h
  by_cases he : e = 0
  · subst he
    obtain ⟨R, hR⟩ : ∃ R, nm s.data.toList s.data.toList.length 2 p p none [] = R := ⟨_, rfl⟩
    have HG := Lib.hid (fun m => refNm_nat s p R (w.drewN m) hs (by omega) (by (show _ = _; rw [SZ.out]; exact hR)))
    cases R with
    | error k =>
      have hx2 := hx.out
      rw [nameS_no hR] at hx2
      injection hx2 with hx3 hx4
      subst hx3
      subst hx4
      clear hx hR
      go_enter Try.func24, Try.ntmps24
      go_wp2_with fail
      go_quiet ((go_at_call 10; exact quiet_left (HG.out _)))
      go_wp2_with fail
      go_ret
      refine ⟨rfl, ?_, ?_⟩
      · exact ((H.out.drewN _).set2 k).set1 0
      · exact only_setCell (g := r) (only_setCell (g := r) (grown_drewN (grown_refl w _) _) (p := ⟨r, 2, none⟩) (.inl rfl) _) (p := ⟨r, 1, none⟩) (.inl rfl) _
    | ok oq =>
      obtain ⟨o2, q⟩ := oq
      have hx2 := hx.out
      rw [nameS_ok hR] at hx2
      injection hx2 with hx3 hx4
      subst hx3
      subst hx4
      clear hx hR
      go_enter Try.func24, Try.ntmps24
      go_wp2_with fail
      go_quiet ((go_at_call 10; exact quiet_left (HG.out _)))
      go_wp2_with fail
      go_ret
      refine ⟨rfl, ?_, ?_⟩
      · exact ((H.out.drewN _).set2 0).set1 q
      · exact only_setCell (g := r) (only_setCell (g := r) (grown_drewN (grown_refl w _) _) (p := ⟨r, 2, none⟩) (.inl rfl) _) (p := ⟨r, 1, none⟩) (.inl rfl) _
  · have hx2 := hx.out
    rw [nameS_err he] at hx2
    injection hx2 with hx3 hx4
    subst hx3
    subst hx4
    have hne : ((e : Int) != 0) = true := bne_iff_ne.2 (by omega)
    clear hx he
    go_enter Try.func24, Try.ntmps24
    go_wp2_with fail
    go_ret
    exact ⟨rfl, H.out, grown_refl _ _⟩
end Go.Proofs.Ytngbifdenbfepaa
