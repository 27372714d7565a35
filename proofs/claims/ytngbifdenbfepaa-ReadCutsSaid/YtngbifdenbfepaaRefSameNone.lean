/- The document's Same of two empty messages; errors of a reading. No condition. -/
import Derived.Test.YtngbifdenbfepaaProg
import Derived.Test.YtngbifdenbfepaaBytes
import Derived.Test.YtngbifdenbfepaaNmMath
import Derived.Test.YtngbifdenbfepaaRecMath
import Derived.Test.YtngbifdenbfepaaMsgMath
import Derived.Test.YtngbifdenbfepaaStMath
import Derived.Test.YtngbifdenbfepaaDatMath
import Derived.Test.YtngbifdenbfepaaDatMore
import Derived.Test.YtngbifdenbfepaaRdrRead
import Derived.WalkKit
import Derived.Lib.Hide
import Derived.Outline
import Derived.IntWalk
import Derived.WalkSpells
import Derived.WalkLawsBesides
namespace Go.Proofs.Ytngbifdenbfepaa
open Go.RowKit Bytes NmMath RecMath MsgMath StMath DatMath

theorem records_none (w : World) : Calls Try.prog 26 #[.slice none 0 0, .slice none 0 0] w fun e w' => e = .returned (.bool true) ∧ w = w' := by
  go_enter Try.func26, Try.ntmps26
  go_wp2_with fail
  go_loop [5] (fun i => i = .int .i64 0) (fun _ => 0)
  case atStart => rfl
  case round =>
    obtain rfl := hrel
    go_wp2_with fail
    go_ret
    exact ⟨rfl, rfl⟩
theorem same_none (w : World) : Calls Try.prog 13 #[.agg #[.int .u16 0, .int .u16 0, .slice none 0 0, .slice none 0 0, .slice none 0 0, .slice none 0 0], .agg #[.int .u16 0, .int .u16 0, .slice none 0 0, .slice none 0 0, .slice none 0 0, .slice none 0 0]] w fun e w' => e = .returned (.bool true) ∧ Below w.heap.size w w' := by
  have HRN := Lib.hid records_none
  have HB : Hid (Below w.heap.size w ((w.alloc (.cells #[.int .u16 0, .int .u16 0, .slice none 0 0, .slice none 0 0, .slice none 0 0, .slice none 0 0] 33)).alloc (.cells #[.int .u16 0, .int .u16 0, .slice none 0 0, .slice none 0 0, .slice none 0 0, .slice none 0 0] 33))) := ((Below.refl _ _).alloc (Nat.le_refl _) _).alloc (by simp) _
  go_enter Try.func13, Try.ntmps13
  go_wp2_with ((go_at_call 26; refine (HRN.out _).mono ?_; rintro e w' ⟨rfl, rfl⟩))
  go_loop [5] (fun i => i = .int .i64 0) (fun _ => 0)
  case atStart => rfl
  case round =>
    obtain rfl := hrel
    go_wp2_with fail
    go_ret
    exact ⟨rfl, HB.out⟩
theorem bare_ne {l : List UInt8} {E K p x : Nat} (hK : K ≠ 0) (h : bare l E K p [] = .error x) : x ≠ 0 := by
  unfold bare at h
  split at h
  · next hr => injection h with h; have := run_err hr; omega
  · split at h
    · cases h
    · injection h with h; omega
theorem nm_ne {l : List UInt8} {E K p b : Nat} {next : Option Nat} {o : List UInt8} : K ≠ 0 → ∀ {x : Nat}, nm l E K p b next o = .error x → x ≠ 0 := by
  fun_induction nm l E K p b next o with
  | case1 E K p b next o k hr =>
    intro hK x e
    injection e with e
    have := run_err hr
    omega
  | case2 => intro hK x e; cases e
  | case3 E K p b next o o1 q hr h0 h1 h2 ih => intro hK x e; exact ih (by decide) e
  | case4 => intro hK x e; injection e with e; omega
  | case5 => intro hK x e; injection e with e; omega
theorem many_ne {α : Type} {f : Nat → Except Nat (α × Nat)} (hf : ∀ p x, f p = .error x → x ≠ 0) : ∀ {n p x : Nat}, many f n p = .error x → x ≠ 0 := by
  intro n
  induction n with
  | zero => intro p x h; cases h
  | succ n ih =>
    intro p x h
    rw [many] at h
    split at h
    · next hx => injection h with h; subst h; exact hf _ _ hx
    · split at h
      · next hx => injection h with h; subst h; exact ih hx
      · cases h
theorem nameE_ne {l : List UInt8} {E kind p x : Nat} (h : nameE l E kind p = .error x) : x ≠ 0 := by
  unfold nameE at h
  split at h
  · injection h with h; omega
  · split at h
    · exact bare_ne (by decide) h
    · exact nm_ne (by decide) h
theorem numE_ne {l : List UInt8} {E size p x : Nat} (h : numE l E size p = .error x) : x ≠ 0 := by
  unfold numE at h
  split at h
  · cases h
  · injection h with h; omega
theorem txtE_50 {l : List UInt8} {E p x : Nat} {out : List (List UInt8)} : txtE l E out p = .error x → x = 50 := by
  fun_induction txtE l E out p with
  | case1 out p h h2 ih => exact ih
  | case2 => intro h; injection h with h; omega
  | case3 => intro h; cases h
theorem textsE_50 {l : List UInt8} {E kind p x : Nat} (h : textsE l E kind p = .error x) : x = 50 := by
  have part : ∀ n, partE l E n p = .error x → x = 50 := fun n h => by
    unfold partE at h
    split at h
    · cases h
    · injection h with h; omega
  unfold textsE at h
  split at h
  · exact part _ h
  · split at h
    · exact part _ h
    · split at h
      · split at h
        · exact txtE_50 h
        · injection h with h; omega
      · cases h
theorem endE_50 {l : List UInt8} {E kind p x : Nat} {nms : List (List UInt8)} {ns : List Nat} (h : endE l E kind nms ns p = .error x) : x = 50 := by
  unfold endE at h
  split at h
  · split at h
    · next hx => injection h with h; subst h; exact textsE_50 hx
    · split at h
      · injection h with h; omega
      · cases h
  · split at h
    · injection h with h; omega
    · cases h
theorem bodyE_ne {l : List UInt8} {E kind p x : Nat} (h : bodyE l E kind p = .error x) : x ≠ 0 := by
  unfold bodyE at h
  split at h
  · split at h
    · next hx => injection h with h; subst h; exact many_ne (fun _ _ h => nameE_ne h) hx
    · split at h
      · next hx => injection h with h; subst h; exact many_ne (fun _ _ h => numE_ne h) hx
      · have := endE_50 h; omega
  · split at h
    · next hx => injection h with h; subst h; exact many_ne (fun _ _ h => numE_ne h) hx
    · split at h
      · next hx => injection h with h; subst h; exact many_ne (fun _ _ h => nameE_ne h) hx
      · have := endE_50 h; omega
theorem recE_ne {l : List UInt8} {p x : Nat} (h : recE l p = .error x) : x ≠ 0 := by
  unfold recE at h
  split at h
  · next hx => injection h with h; subst h; exact nm_ne (by decide) hx
  · unfold headE at h
    split at h
    · split at h
      · unfold lateE at h
        split at h
        · next hx => injection h with h; subst h; exact bodyE_ne hx
        · split at h
          · injection h with h; omega
          · cases h
      · injection h with h; omega
    · injection h with h; omega
theorem qn_ne {l : List UInt8} {p x : Nat} (h : qn l p = .error x) : x ≠ 0 := by
  unfold qn at h
  split at h
  · next hx => injection h with h; subst h; exact nm_ne (by decide) hx
  · split at h
    · cases h
    · injection h with h; omega
theorem msg_ne {l : List UInt8} {x : Nat} (h : msg (recE l) l = .error x) : x ≠ 0 := by
  have hr : ∀ {n p x : Nat}, many (recE l) n p = .error x → x ≠ 0 := many_ne fun _ _ h => recE_ne h
  unfold msg at h
  split at h
  · injection h with h; omega
  · split at h
    · injection h with h; omega
    · unfold msg1 at h
      split at h
      · next hx => injection h with h; subst h; exact many_ne (fun _ _ h => qn_ne h) hx
      · unfold msg2 at h
        split at h
        · next hx => injection h with h; subst h; exact hr hx
        · unfold msg3 at h
          split at h
          · next hx => injection h with h; subst h; exact hr hx
          · unfold msg4 at h
            split at h
            · next hx => injection h with h; subst h; exact hr hx
            · split at h
              · injection h with h; omega
              · cases h
theorem rd_ne {l : List UInt8} {x : Nat} (h : rd (recE l) l = .error x) : x ≠ 0 := by
  unfold rd at h
  split at h
  · injection h with h; omega
  · exact msg_ne h
end Go.Proofs.Ytngbifdenbfepaa
