/- A row of frames of the call's own stands while bytes come to a feed. No condition. -/
import Derived.Test.YtekcipmhljhelaaProg
import Derived.Test.YtekcipmhljhelaaBytes
import Derived.Test.YtekcipmhljhelaaFrMath
import Derived.Test.YtekcipmhljhelaaFdMath
import Derived.Test.YtekcipmhljhelaaFdRow
import Derived.Test.YtekcipmhljhelaaFdCode
import Derived.WalkKit
import Derived.Lib.Hide
import Derived.OwnWalk
namespace Go.Proofs.Ytekcipmhljhelaa.Fd
open Go Go.RowKit Bytes Fr

theorem own_fdk {w w' : World} {g b n : Nat} {v : Value} {xs : List Value} {S : FSt} (h : w.ownsRow g 40 4 v n xs) (hF : FdAt w b S) (hk : FdK b w w') : w'.ownsRow g 40 4 v n xs := own_feedK h hF hk
/-- A feed stands while a row of frames grows. -/
theorem FdAt.grown {w w' : World} {g b n : Nat} {v : Value} {xs : List Value} {S : FSt} (hF : FdAt w b S) (h : w.ownsRow g 40 4 v n xs) (hG : w.grownBy w' v.ownBlock) : FdAt w' b S := (hF.grown2 h hG).1
theorem grown_below {w w' : World} {g n : Nat} {v : Value} {xs : List Value} (h : w.ownsRow g 40 4 v n xs) (hG : w.grownBy w' v.ownBlock) (hg : g ≤ w.heap.size) : Below g w w' :=
  (Below.refl g w).grown hG hg (fun b hb => (h.lt b hb).1)
/-- A row stands while another one grows. -/
theorem own_apart {w w' : World} {g n : Nat} {v : Value} {xs : List Value} {r : Option Nat} (h : w.ownsRow g 40 4 v n xs) (hG : w.grownBy w' r) (hne : ∀ k, v.ownBlock = some k → r ≠ some k) : w'.ownsRow g 40 4 v n xs := by
  refine ⟨h.1, ?_⟩
  rcases h.2 with hn | ⟨k, cap, cur, rfl, hb, hgg, rest⟩
  · exact .inl hn
  · have hlt : k < w.heap.size := by
      rcases Nat.lt_or_ge k w.heap.size with h1 | h1
      · exact h1
      · rw [Array.getElem?_eq_none h1] at hgg; cases hgg
    exact .inr ⟨k, cap, cur, rfl, hb, (hG.block k hlt (fun e => hne k rfl e.symm)).trans hgg, rest⟩
theorem own_reads {w : World} {g n c : Nat} {A : Option Addr} {L : List Frm} (h : w.ownsRow g 40 4 (.slice A n c) n (frCs L)) (hn : L.length = n) : RdF w w.heap.size A L := by
  obtain ⟨A2, c2, e, hr, _⟩ := own_rdf h hn.symm
  injection e with e1
  rw [e1]
  exact hr
/-- Two rows and three feeds. -/
structure Fours (w : World) (gx gy : Nat) (x y : Value) (n m : Nat) (X Y : List Frm) (ba bb bc : Nat) (Sa Sb Sc : FSt) : Prop where
  rx : w.ownsRow gx 40 4 x n (frCs X)
  ry : w.ownsRow gy 40 4 y m (frCs Y)
  fa : FdAt w ba Sa
  fb : FdAt w bb Sb
  fc : FdAt w bc Sc
  ac : Aps w ba bc
  bc : Aps w bb bc
section
variable {w w' : World} {gx gy n m ba bb bc : Nat} {x y : Value} {X Y : List Frm} {Sa Sb Sc S : FSt}
/-- Bytes come to the third. -/
theorem Fours.fdk (h : Fours w gx gy x y n m X Y ba bb bc Sa Sb Sc) (hF : FdAt w' bc S) (hk : FdK bc w w') (ha : ba ≠ bc) (hb : bb ≠ bc) : Fours w' gx gy x y n m X Y ba bb bc Sa Sb S :=
  have h1 := h.fa.other h.fc hk ha h.ac
  have h2 := h.fb.other h.fc hk hb h.bc
  ⟨own_fdk h.rx h.fc hk, own_fdk h.ry h.fc hk, h1.1, h2.1, hF, h1.2.1, h2.2.1⟩
theorem aps_same {w w' : World} {a b : Nat} (h : Aps w a b) (ha : rowOf w' a = rowOf w a) (hb : rowOf w' b = rowOf w b) : Aps w' a b := fun k hk e => h k (ha.symm.trans hk) (hb.symm.trans e)
theorem Fours.grown {gz p : Nat} {z : Value} {zs : List Value} (h : Fours w gx gy x y n m X Y ba bb bc Sa Sb Sc) (hz : w.ownsRow gz 40 4 z p zs) (hG : w.grownBy w' z.ownBlock) (hx : ∀ k, x.ownBlock = some k → k < gz) (hy : ∀ k, y.ownBlock = some k → k < gz) : Fours w' gx gy x y n m X Y ba bb bc Sa Sb Sc :=
  have ha := h.fa.grown2 hz hG
  have hb := h.fb.grown2 hz hG
  have hc := h.fc.grown2 hz hG
  ⟨own_apart h.rx hG (fun k hk e => by have := (hz.lt k e).1; have := hx k hk; omega), own_apart h.ry hG (fun k hk e => by have := (hz.lt k e).1; have := hy k hk; omega), ha.1, hb.1, hc.1, aps_same h.ac ha.2 hc.2, aps_same h.bc hb.2 hc.2⟩
theorem Fours.below (h : Fours w gx gy x y n m X Y ba bb bc Sa Sb Sc) (hB : Below w.heap.size w w') : Fours w' gx gy x y n m X Y ba bb bc Sa Sb Sc :=
  ⟨own_rest h.rx hB, own_rest h.ry hB, h.fa.below hB, h.fb.below hB, h.fc.below hB, h.ac.below h.fa h.fc hB, h.bc.below h.fb h.fc hB⟩
end
end Go.Proofs.Ytekcipmhljhelaa.Fd
