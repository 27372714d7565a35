/- A map of the call's own as a function of its keys: looked up, laid, deleted. Keys are numbers, texts or bools. -/
import Derived.Test.YtieicfobhgfonaaProg
import Derived.WalkKit
import Derived.Lib.Hide
import Derived.MapKept
import Derived.Laws.IdiomRangeMap
namespace Go.Proofs.Ytieicfobhgfonaa.Mp
open Go Go.RowKit Go.MapKept

/-- Block bm is a map that reads as f. -/
def MapF (w : World) (bm : Nat) (d : TypeDesc) (f : Value → Option Value) : Prop :=
  ∃ es clock, w.heap[bm]? = some (.map es clock) ∧ Stamped es clock ∧ (∀ x ∈ es.toList, IsKey d x.key ∧ f x.key = some x.val) ∧ (∀ k v, f k = some v → ∃ x ∈ es.toList, x.key = k ∧ x.val = v)
theorem MapF.kept {w w' : World} {bm : Nat} {d : TypeDesc} {f : Value → Option Value} (h : MapF w bm d f) (hb : w'.heap[bm]? = w.heap[bm]?) : MapF w' bm d f := by
  obtain ⟨es, c, h1, r⟩ := h
  exact ⟨es, c, hb.trans h1, r⟩
theorem MapF.lt {w : World} {bm : Nat} {d : TypeDesc} {f : Value → Option Value} (h : MapF w bm d f) : bm < w.heap.size := by
  obtain ⟨es, c, h1, _⟩ := h
  rcases Nat.lt_or_ge bm w.heap.size with h2 | h2
  · exact h2
  · rw [Array.getElem?_eq_none h2] at h1; cases h1
theorem mapf_new (w : World) (d : TypeDesc) : MapF (w.alloc (.map #[] 0)) w.heap.size d (fun _ => none) :=
  ⟨#[], 0, heap_alloc_new w _, stamped_empty 0, fun x hx => by simp at hx, fun k v h => by cases h⟩
section
variable {P : Program} {w : World} {bm : Nat} {d : TypeDesc} {f : Value → Option Value} {mty kt et : TypeId} {k : Value}
theorem find_fun {es : Array MapEntry} (hf : ∀ x ∈ es.toList, IsKey d x.key ∧ f x.key = some x.val) (hg : ∀ k v, f k = some v → ∃ x ∈ es.toList, x.key = k ∧ x.val = v) (hk : IsKey d k) :
    (Instr.findNow d k es.toList 0 = some none ∧ f k = none ∧ ∀ x ∈ es.toList, x.key ≠ k) ∨ ∃ j e, Instr.findNow d k es.toList 0 = some (some (j, e.val)) ∧ es[j]? = some e ∧ e.key = k ∧ f k = some e.val := by
  rcases findNow_spec hk es.toList 0 (fun x hx => (hf x hx).1) with ⟨h1, h2⟩ | ⟨j, e, h1, h2, h3⟩
  · refine .inl ⟨h1, ?_, h2⟩
    cases hv : f k with
    | none => rfl
    | some v =>
      obtain ⟨x, hx, e, _⟩ := hg k v hv
      exact absurd e (h2 x hx)
  · have he : e ∈ es.toList := List.mem_of_getElem? h2
    refine .inr ⟨j, e, by rw [Nat.zero_add] at h1; exact h1, by simpa using h2, h3, ?_⟩
    rw [← h3]
    exact (hf e he).2
theorem MapF.look (h : MapF w bm d f) (hm : P.underlying mty = some (.map kt et)) (hd : P.underlying kt = some d) (hk : IsKey d k) {z : Value} (hz : (zeroValue et).run P w = .ok z w) :
    (Instr.lookup mty (.map (some bm)) k true).run P w = .ok (.tuple #[(f k).getD z, .bool (f k).isSome]) w := by
  obtain ⟨es, c, hb, hs, hf, hg⟩ := h
  rcases find_fun hf hg hk with ⟨h1, h2, _⟩ | ⟨j, e, h1, _, _, h2⟩
  · simp [Instr.lookup, run_underlying hm, MapKept.run_getObj_map hb, run_checkKey hd hk, run_findKey hd h1, Result.andThen, h2, hz]
  · simp [Instr.lookup, run_underlying hm, MapKept.run_getObj_map hb, run_checkKey hd hk, run_findKey hd h1, Result.andThen, h2]
theorem MapF.look1 (h : MapF w bm d f) (hm : P.underlying mty = some (.map kt et)) (hd : P.underlying kt = some d) (hk : IsKey d k) {z : Value} (hz : (zeroValue et).run P w = .ok z w) :
    (Instr.lookup mty (.map (some bm)) k false).run P w = .ok ((f k).getD z) w := by
  obtain ⟨es, c, hb, hs, hf, hg⟩ := h
  rcases find_fun hf hg hk with ⟨h1, h2, _⟩ | ⟨j, e, h1, _, _, h2⟩
  · simp [Instr.lookup, run_underlying hm, MapKept.run_getObj_map hb, run_checkKey hd hk, run_findKey hd h1, Result.andThen, h2, hz]
  · simp [Instr.lookup, run_underlying hm, MapKept.run_getObj_map hb, run_checkKey hd hk, run_findKey hd h1, Result.andThen, h2]
theorem key_one {es : Array MapEntry} {c : Nat} (hs : Stamped es c) {x y : MapEntry} (hx : x ∈ es.toList) (hy : y ∈ es.toList) (h : x.key = y.key) : x = y := by
  obtain ⟨i, hi⟩ := List.getElem?_of_mem hx
  obtain ⟨j, hj⟩ := List.getElem?_of_mem hy
  have hn := hs.2.2
  have e1 : (es.toList.map (·.key))[i]? = some x.key := by rw [List.getElem?_map, hi]; rfl
  have e2 : (es.toList.map (·.key))[j]? = some x.key := by rw [List.getElem?_map, hj, h]; rfl
  have hij : i = j := by
    have hli : i < (es.toList.map (·.key)).length := by
      rcases Nat.lt_or_ge i (es.toList.map (·.key)).length with h | h
      · exact h
      · rw [List.getElem?_eq_none h] at e1; cases e1
    exact (List.getElem?_inj hli hn).1 (e1.trans e2.symm)
  rw [hij, hj] at hi
  exact (Option.some.inj hi).symm
/-- A value laid under a key. -/
theorem MapF.put (h : MapF w bm d f) (hm : P.underlying mty = some (.map kt et)) (hd : P.underlying kt = some d) (hk : IsKey d k) (v : Value) :
    ∃ w', (Instr.mapUpdate mty (.map (some bm)) k v).run P w = .ok () w' ∧ (∀ g : Value → Option Value, g k = some v → (∀ j, j ≠ k → g j = f j) → MapF w' bm d g) ∧ w.grownBy w' (some bm) := by
  obtain ⟨es, c, hb, hs, hf, hg⟩ := h
  rcases find_fun hf hg hk with ⟨h1, h2, h3⟩ | ⟨j, e, h1, hj, h3, h2⟩
  · refine ⟨{ w with heap := w.heap.setIfInBounds bm (.map (es.push { key := k, val := v, born := c }) (c + 1)) }, by simp [Instr.mapUpdate, run_underlying hm, MapKept.run_getObj_map hb, run_checkKey hd hk, run_findKey hd h1, MapKept.run_setObj_map _ hb, Result.andThen], fun g g1 g2 => ⟨_, _, (MapKept.heap_set hb).1, stamped_push hs h3, ?_, ?_⟩, ⟨rfl, rfl, rfl, by simp, fun r' _ hne => (MapKept.heap_set hb).2 r' (fun e => hne (by rw [e]))⟩⟩
    · intro x hx
      simp only [Array.toList_push, List.mem_append, List.mem_singleton] at hx
      rcases hx with hx | rfl
      · exact ⟨(hf x hx).1, by rw [g2 _ (h3 x hx)]; exact (hf x hx).2⟩
      · exact ⟨hk, g1⟩
    · intro j v' hv
      by_cases hjk : j = k
      · subst hjk
        rw [g1] at hv
        injection hv with hv
        exact ⟨{ key := j, val := v, born := c }, by simp, rfl, hv⟩
      · rw [g2 j hjk] at hv
        obtain ⟨x, hx, e1, e2⟩ := hg j v' hv
        exact ⟨x, by simp only [Array.toList_push, List.mem_append]; exact .inl hx, e1, e2⟩
  · have hkey : ∀ e', es[j]? = some e' → ({ e' with key := k, val := v } : MapEntry).key = e'.key := fun e' he' => by rw [hj] at he'; cases he'; exact h3.symm
    have he : e ∈ es.toList := List.mem_of_getElem? (by simpa using hj)
    have hat : ∀ i, (es.modify j (fun e => { e with key := k, val := v })).toList[i]? = if j = i then (es.toList[i]?).map (fun e => { e with key := k, val := v }) else es.toList[i]? := fun i => by
      rw [Array.getElem?_toList, Array.getElem?_modify, Array.getElem?_toList]
    refine ⟨{ w with heap := w.heap.setIfInBounds bm (.map (es.modify j (fun e => { e with key := k, val := v })) c) }, by simp [Instr.mapUpdate, run_underlying hm, MapKept.run_getObj_map hb, run_checkKey hd hk, run_findKey hd h1, hj, h3, run_keyThatStays hk, MapKept.run_setObj_map _ hb, Result.andThen], fun g g1 g2 => ⟨_, _, (MapKept.heap_set hb).1, stamped_modify hs _ _ (fun _ _ => rfl) (fun e' _ he' => hkey e' he'), ?_, ?_⟩, ⟨rfl, rfl, rfl, by simp, fun r' _ hne => (MapKept.heap_set hb).2 r' (fun e => hne (by rw [e]))⟩⟩
    · intro x hx
      obtain ⟨i, hi⟩ := List.getElem?_of_mem hx
      rw [hat] at hi
      split at hi
      · next hji =>
        subst hji
        rw [Array.getElem?_toList, hj] at hi
        injection hi with hi
        subst hi
        exact ⟨hk, g1⟩
      · next hji =>
        have hx2 : x ∈ es.toList := List.mem_of_getElem? hi
        have hne : x.key ≠ k := fun e2 => by
          have hxe := key_one hs hx2 he (e2.trans h3.symm)
          rw [hxe] at hi
          have hjl : es.toList[j]? = some e := by simpa using hj
          have hn := hs.2.1
          have e1 : (es.toList.map (·.born))[i]? = some e.born := by rw [List.getElem?_map, hi]; rfl
          have e3 : (es.toList.map (·.born))[j]? = some e.born := by rw [List.getElem?_map, hjl]; rfl
          have hlj : j < (es.toList.map (·.born)).length := by
            rcases Nat.lt_or_ge j (es.toList.map (·.born)).length with h | h
            · exact h
            · rw [List.getElem?_eq_none h] at e3; cases e3
          exact hji ((List.getElem?_inj hlj hn).1 (e3.trans e1.symm))
        exact ⟨(hf x hx2).1, by rw [g2 _ hne]; exact (hf x hx2).2⟩
    · intro q v' hv
      by_cases hqk : q = k
      · subst hqk
        rw [g1] at hv
        injection hv with hv
        refine ⟨{ e with key := q, val := v }, List.mem_of_getElem? (i := j) ?_, rfl, hv⟩
        rw [hat, if_pos rfl, Array.getElem?_toList, hj]
        rfl
      · rw [g2 q hqk] at hv
        obtain ⟨x, hx, e1, e2⟩ := hg q v' hv
        obtain ⟨i, hi⟩ := List.getElem?_of_mem hx
        refine ⟨x, List.mem_of_getElem? (i := i) ?_, e1, e2⟩
        rw [hat, if_neg (fun hji => by
          subst hji
          rw [Array.getElem?_toList, hj] at hi
          injection hi with hi
          rw [← hi, h3] at e1
          exact hqk e1.symm)]
        exact hi
/-- A key deleted. -/
theorem MapF.del (h : MapF w bm d f) (hm : P.underlying mty = some (.map kt et)) (hd : P.underlying kt = some d) (hk : IsKey d k) :
    ∃ w', (∀ ty, (Builtin.delete_ #[mty, kt] ty #[.map (some bm), k]).run P w = .ok (.tuple #[]) w') ∧ (∀ g : Value → Option Value, g k = none → (∀ j, j ≠ k → g j = f j) → MapF w' bm d g) ∧ w.grownBy w' (some bm) := by
  obtain ⟨es, c, hb, hs, hf, hg⟩ := h
  rcases find_fun hf hg hk with ⟨h1, h2, h3⟩ | ⟨j, e, h1, hj, h3, h2⟩
  · refine ⟨{ w with heap := w.heap.setIfInBounds bm (.map es c) }, fun _ => by simp [Builtin.delete_, run_underlying hm, MapKept.run_getObj_map hb, run_checkKey hd hk, run_findKey hd h1, MapKept.run_setObj_map _ hb, Result.andThen], fun g g1 g2 => ⟨_, _, (MapKept.heap_set hb).1, hs, fun x hx => ⟨(hf x hx).1, by rw [g2 _ (h3 x hx)]; exact (hf x hx).2⟩, fun q v' hv => hg q v' (by
      by_cases hqk : q = k
      · subst hqk; rw [g1] at hv; cases hv
      · rw [← g2 q hqk]; exact hv)⟩, ⟨rfl, rfl, rfl, by simp, fun r' _ hne => (MapKept.heap_set hb).2 r' (fun e => hne (by rw [e]))⟩⟩
  · have hjl : j < es.size := by
      rcases Nat.lt_or_ge j es.size with h | h
      · exact h
      · rw [Array.getElem?_eq_none h] at hj; cases hj
    have he : e ∈ es.toList := List.mem_of_getElem? (by simpa using hj)
    have hel : (es.eraseIdxIfInBounds j).toList = es.toList.eraseIdx j := by
      unfold Array.eraseIdxIfInBounds
      rw [dif_pos hjl, Array.toList_eraseIdx]
    have hsub : ∀ x, x ∈ es.toList.eraseIdx j → x ∈ es.toList := fun x hx => (List.eraseIdx_sublist _ _).subset hx
    have hne : ∀ x, x ∈ es.toList.eraseIdx j → x.key ≠ k := fun x hx e2 => by
      have hxe := key_one hs (hsub x hx) he (e2.trans h3.symm)
      rw [hxe] at hx
      obtain ⟨i, hi, hge⟩ := List.mem_eraseIdx_iff_getElem?.1 hx
      have hjl2 : es.toList[j]? = some e := by simpa using hj
      have hn := hs.2.1
      have e1 : (es.toList.map (·.born))[i]? = some e.born := by rw [List.getElem?_map, hge]; rfl
      have e3 : (es.toList.map (·.born))[j]? = some e.born := by rw [List.getElem?_map, hjl2]; rfl
      have hlj : j < (es.toList.map (·.born)).length := by
        rcases Nat.lt_or_ge j (es.toList.map (·.born)).length with h | h
        · exact h
        · rw [List.getElem?_eq_none h] at e3; cases e3
      exact hi ((List.getElem?_inj hlj hn).1 (e3.trans e1.symm)).symm
    refine ⟨{ w with heap := w.heap.setIfInBounds bm (.map (es.eraseIdxIfInBounds j) c) }, fun _ => by simp [Builtin.delete_, run_underlying hm, MapKept.run_getObj_map hb, run_checkKey hd hk, run_findKey hd h1, MapKept.run_setObj_map _ hb, Result.andThen], fun g g1 g2 => ⟨_, _, (MapKept.heap_set hb).1, stamped_erase hs _, ?_, ?_⟩, ⟨rfl, rfl, rfl, by simp, fun r' _ hne => (MapKept.heap_set hb).2 r' (fun e => hne (by rw [e]))⟩⟩
    · rw [hel]
      intro x hx
      exact ⟨(hf x (hsub x hx)).1, by rw [g2 _ (hne x hx)]; exact (hf x (hsub x hx)).2⟩
    · rw [hel]
      intro q v' hv
      by_cases hqk : q = k
      · subst hqk; rw [g1] at hv; cases hv
      · rw [g2 q hqk] at hv
        obtain ⟨x, hx, e1, e2⟩ := hg q v' hv
        obtain ⟨i, hi⟩ := List.getElem?_of_mem hx
        refine ⟨x, List.mem_eraseIdx_iff_getElem?.2 ⟨i, fun hij => ?_, hi⟩, e1, e2⟩
        subst hij
        rw [Array.getElem?_toList, hj] at hi
        injection hi with hi
        rw [← hi, h3] at e1
        exact hqk e1.symm
end
end Go.Proofs.Ytieicfobhgfonaa.Mp
