/- A map ranged over while the value at the key at hand is turned: look-up and store of an entry that is there. No condition. -/
import Derived.Test.YtieicfobhgfonaaProg
import Derived.Test.YtieicfobhgfonaaMpFun
import Derived.WalkKit
import Derived.Lib.Hide
import Derived.MapKept
import Derived.Below
import Derived.Laws.IdiomRangeMap
import Derived.Maps.RangeRun
namespace Go.Proofs.Ytieicfobhgfonaa.Mp
open Go Go.RowKit Go.MapKept
section
variable {P : Program} {w : World} {bm c : Nat} {d : TypeDesc} {es : Array MapEntry} {mty kt et : TypeId} {e : MapEntry}
theorem find_there (hs : Stamped es c) (hk : ∀ x ∈ es.toList, IsKey d x.key) (he : e ∈ es.toList) : ∃ j, Instr.findNow d e.key es.toList 0 = some (some (j, e.val)) ∧ es[j]? = some e := by
  rcases findNow_spec (hk e he) es.toList 0 hk with ⟨_, h2⟩ | ⟨j, x, h1, h2, h3⟩
  · exact absurd rfl (h2 e he)
  · have hx : x ∈ es.toList := List.mem_of_getElem? h2
    have := key_one hs hx he h3
    subst this
    rw [Nat.zero_add] at h1
    exact ⟨j, h1, by simpa using h2⟩
theorem look_there (hb : w.heap[bm]? = some (.map es c)) (hs : Stamped es c) (hk : ∀ x ∈ es.toList, IsKey d x.key) (he : e ∈ es.toList) (hm : P.underlying mty = some (.map kt et)) (hd : P.underlying kt = some d) :
    (Instr.lookup mty (.map (some bm)) e.key false).run P w = .ok e.val w := by
  obtain ⟨j, h1, _⟩ := find_there hs hk he
  simp [Instr.lookup, run_underlying hm, MapKept.run_getObj_map hb, run_checkKey hd (hk e he), run_findKey hd h1, Result.andThen]
/-- The value of one entry is another one. -/
def setV (es : Array MapEntry) (e : MapEntry) (v : Value) : Array MapEntry := es.map (fun x => if x.born = e.born then { x with val := v } else x)
theorem modify_setV (hs : Stamped es c) {j : Nat} (hj : es[j]? = some e) (v : Value) : es.modify j (fun x => { x with key := e.key, val := v }) = setV es e v := by
  unfold setV
  apply Array.ext_getElem?
  intro i
  rw [Array.getElem?_modify, Array.getElem?_map]
  by_cases hij : j = i
  · subst hij
    rw [if_pos rfl, hj]
    simp
  · rw [if_neg hij]
    cases hx : es[i]? with
    | none => rfl
    | some x =>
      have hne : x.born ≠ e.born := fun h => by
        have hn := hs.2.1
        have e1 : (es.toList.map (·.born))[i]? = some e.born := by rw [List.getElem?_map, Array.getElem?_toList, hx]; exact congrArg some h
        have e3 : (es.toList.map (·.born))[j]? = some e.born := by rw [List.getElem?_map, Array.getElem?_toList, hj]; rfl
        have hlj : j < (es.toList.map (·.born)).length := by
          rcases Nat.lt_or_ge j (es.toList.map (·.born)).length with h | h
          · exact h
          · rw [List.getElem?_eq_none h] at e3; cases e3
        exact hij ((List.getElem?_inj hlj hn).1 (e3.trans e1.symm))
      simp [hne]
theorem put_there (hb : w.heap[bm]? = some (.map es c)) (hs : Stamped es c) (hk : ∀ x ∈ es.toList, IsKey d x.key) (he : e ∈ es.toList) (hm : P.underlying mty = some (.map kt et)) (hd : P.underlying kt = some d) (v : Value) :
    (Instr.mapUpdate mty (.map (some bm)) e.key v).run P w = .ok () { w with heap := w.heap.setIfInBounds bm (.map (setV es e v) c) } := by
  obtain ⟨j, h1, hj⟩ := find_there hs hk he
  rw [← modify_setV hs hj v]
  simp [Instr.mapUpdate, run_underlying hm, MapKept.run_getObj_map hb, run_checkKey hd (hk e he), run_findKey hd h1, hj, run_keyThatStays (hk e he), MapKept.run_setObj_map _ hb, Result.andThen]
/-- The entries that were handed out have turned. -/
def updE (f : Value → Value) (seen : Array Nat) (x : MapEntry) : MapEntry := if seen.contains x.born then { x with val := f x.val } else x
def updA (f : Value → Value) (seen : Array Nat) (es : Array MapEntry) : Array MapEntry := es.map (updE f seen)
theorem updE_born (f : Value → Value) (seen : Array Nat) (x : MapEntry) : (updE f seen x).born = x.born := by unfold updE; split <;> rfl
theorem updE_key (f : Value → Value) (seen : Array Nat) (x : MapEntry) : (updE f seen x).key = x.key := by unfold updE; split <;> rfl
theorem updA_none (f : Value → Value) (es : Array MapEntry) : updA f #[] es = es := by
  unfold updA updE
  simp
theorem updA_stamped (f : Value → Value) (seen : Array Nat) (hs : Stamped es c) : Stamped (updA f seen es) c := by
  obtain ⟨h1, h2, h3⟩ := hs
  have e1 : (updA f seen es).toList.map (·.born) = es.toList.map (·.born) := by
    unfold updA
    rw [Array.toList_map, List.map_map]
    exact List.map_congr_left (fun x _ => updE_born f seen x)
  have e2 : (updA f seen es).toList.map (·.key) = es.toList.map (·.key) := by
    unfold updA
    rw [Array.toList_map, List.map_map]
    exact List.map_congr_left (fun x _ => updE_key f seen x)
  refine ⟨fun x hx => ?_, by rw [e1]; exact h2, by rw [e2]; exact h3⟩
  unfold updA at hx
  rw [Array.toList_map] at hx
  obtain ⟨y, hy, rfl⟩ := List.mem_map.1 hx
  rw [updE_born]
  exact h1 y hy
theorem updA_keys (f : Value → Value) (seen : Array Nat) (hk : ∀ x ∈ es.toList, IsKey d x.key) : ∀ x ∈ (updA f seen es).toList, IsKey d x.key := fun x hx => by
  unfold updA at hx
  rw [Array.toList_map] at hx
  obtain ⟨y, hy, rfl⟩ := List.mem_map.1 hx
  rw [updE_key]
  exact hk y hy
/-- What is left has not turned. -/
theorem updA_left (f : Value → Value) {seen : Array Nat} (he : e ∈ (leftOf (updA f seen es) seen).toList) : e ∈ (leftOf es seen).toList ∧ e ∈ es.toList ∧ e ∈ (updA f seen es).toList ∧ seen.contains e.born = false := by
  obtain ⟨h1, h2⟩ := mem_left he
  have h1' := h1
  unfold updA at h1
  rw [Array.toList_map] at h1
  obtain ⟨y, hy, rfl⟩ := List.mem_map.1 h1
  rw [updE_born] at h2
  have : updE f seen y = y := by unfold updE; rw [h2]; rfl
  rw [this] at h1' ⊢
  refine ⟨?_, hy, h1', h2⟩
  unfold leftOf
  exact Array.mem_toList_iff.2 (Array.mem_filter.2 ⟨Array.mem_toList_iff.1 hy, by rw [h2]; rfl⟩)
theorem updA_push (f : Value → Value) {seen : Array Nat} (hs : Stamped es c) (he : e ∈ es.toList) (hn : seen.contains e.born = false) : setV (updA f seen es) e (f e.val) = updA f (seen.push e.born) es := by
  unfold setV updA
  rw [Array.map_map]
  refine Array.map_congr_left (fun x hx => ?_)
  have hx := Array.mem_toList_iff.2 hx
  show (if (updE f seen x).born = e.born then _ else _) = _
  rw [updE_born]
  by_cases hb : x.born = e.born
  · have := born_inj hs.2.1 hx he hb
    subst this
    rw [if_pos rfl]
    unfold updE
    rw [hn, contains_push, beq_self_eq_true, Bool.or_true]
    rfl
  · rw [if_neg hb]
    show updE f seen x = _
    unfold updE
    rw [contains_push, beq_eq_false_iff_ne.2 hb, Bool.or_false]
/-- All have turned. -/
theorem updA_all (f : Value → Value) {seen : Array Nat} (h : (leftOf (updA f seen es) seen).size = 0) : updA f seen es = es.map (fun x => { x with val := f x.val }) := by
  have hall := all_seen _ seen h
  unfold updA at hall ⊢
  refine Array.map_congr_left (fun x hx => ?_)
  have h1 := hall (updE f seen x) (by rw [Array.toList_map]; exact List.mem_map_of_mem (Array.mem_toList_iff.2 hx))
  rw [updE_born] at h1
  unfold updE
  rw [h1]
  rfl
open Go.ChangeMaps (setBlock)
/-- A step of the iterator, or a block turned: the rest stands. -/
theorem heap_block {w w2 : World} {r : Nat} {o o' : Obj} (h : w.heap[r]? = some o) (h2 : w2 = w ∨ w2 = w.drew) : (setBlock w2 r o').heap[r]? = some o' ∧ (∀ k, k ≠ r → (setBlock w2 r o').heap[k]? = w.heap[k]?) ∧ (setBlock w2 r o').os = w.os ∧ (setBlock w2 r o').tape = w.tape ∧ (setBlock w2 r o').output = w.output ∧ (setBlock w2 r o').heap.size = w.heap.size := by
  rcases h2 with rfl | rfl
  · exact ⟨(MapKept.heap_set h).1, (MapKept.heap_set h).2, rfl, rfl, rfl, by simp [setBlock]⟩
  · have h : w.drew.heap[r]? = some o := h
    exact ⟨(MapKept.heap_set h).1, (MapKept.heap_set h).2, rfl, rfl, rfl, by simp [setBlock]⟩
theorem below_block {a w w2 : World} {r : Nat} {o o' : Obj} (hB : Below r a w) (h : w.heap[r]? = some o) (h2 : w2 = w ∨ w2 = w.drew) : Below r a (setBlock w2 r o') := by
  obtain ⟨_, h3, h4, h5, h6, h7⟩ := heap_block (o' := o') h h2
  exact ⟨h4.trans hB.os, h5.trans hB.tape, h6.trans hB.output, by rw [h7]; exact hB.size, fun k hk => (h3 k (by omega)).trans (hB.block k hk)⟩
theorem iterSeen_at {w : World} {r : Nat} {m : Option Nat} {a c : Nat} {s : Array Nat} (h : w.heap[r]? = some (.mapIter m a s c)) : w.iterSeen r = s := by unfold World.iterSeen; rw [h]
end
end Go.Proofs.Ytieicfobhgfonaa.Mp
