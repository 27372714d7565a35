/- Texts of one proof, one behind the other: WrMsg, WrWrite, RecFew. -/
import Derived.Test.YtihkmdojakalbaaProg
import Derived.Test.YtihkmdojakalbaaBytes
import Derived.Test.YtihkmdojakalbaaNumBe
import Derived.Test.YtihkmdojakalbaaWriteSparesProofG1
import Derived.Test.YtihkmdojakalbaaNameMath
import Derived.Test.YtihkmdojakalbaaRecMath
import Derived.Test.YtihkmdojakalbaaRecAt
import Derived.Test.YtihkmdojakalbaaWriteSparesProofG2
import Derived.Test.YtihkmdojakalbaaWriteSparesProofG5
import Derived.Test.YtihkmdojakalbaaWriteSparesProofG6
import Derived.Test.YtihkmdojakalbaaWriteSparesProofG7
import Derived.Test.YtihkmdojakalbaaWriteSparesProofG10
import Derived.WalkKit
import Derived.Lib.Hide
import Derived.Laws.Rows
import Derived.Outline
import Derived.IntWalk
import Derived.WalkSpells
import Derived.WalkLawsBesides
import Derived.RegionTactic
import Derived.Lib.MinMax
import Derived.Deep.QuietTactic
import Derived.BigQuiet
import Derived.Deep.Draws

/- The contract of the writer's message. For messages that are right. -/
namespace Go.Proofs.Ytihkmdojakalbaa
open Go.RowKit Bytes MsgMath NameMath RecMath WrMath

/-- A block of another kind, within the writer's calls. -/
structure MgSt (w wr : World) (r bm g B : Nat) (s : Wr) (v u : Value) (cs : Array Value) (t : TypeId) : Prop where
  wat : WrAt wr r bm g s u
  fr : Wrote r bm v w u wr
  bx : wr.heap[B]? = some (.cells cs t (0, 0))
  gl : g ≤ wr.heap.size
  t1 : t ≠ 73
  t2 : 5 ≠ t
section
variable {w wr w' : World} {r bm g B : Nat} {s s' s0 : Wr} {v u u' : Value} {cs : Array Value} {t : TypeId}
theorem MgSt.call (h : MgSt w wr r bm g B s v u cs t) (hw : WrAt w' r bm g s' u') (hf : Wrote r bm u wr u' w') : MgSt w w' r bm g B s' v u' cs t :=
  ⟨hw, h.fr.trans hf, hf.cells h.wat h.bx h.t1 h.t2, Nat.le_trans h.gl hf.size, h.t1, h.t2⟩
theorem MgSt.below (h : MgSt w wr r bm g B s v u cs t) (hB : Below wr.heap.size wr w') : MgSt w w' r bm g B s v u cs t :=
  ⟨h.wat.below hB, h.fr.below hB, (hB.block B (Array.getElem?_eq_some_iff.1 h.bx).1).trans h.bx, Nat.le_trans h.gl hB.size, h.t1, h.t2⟩
theorem mgSt_start (cs : Array Value) (h : WrAt w r bm g s v) (hg : g ≤ w.heap.size) (h1 : t ≠ 73) (h2 : 5 ≠ t) : MgSt w (w.alloc (.cells cs t)) r bm g w.heap.size s v v cs t :=
  have hB : Below w.heap.size w (w.alloc (.cells cs t)) := (Below.refl _ _).alloc (Nat.le_refl _) _
  ⟨h.below hB, (Wrote.refl _ _ _ _).below hB, heap_alloc_new w _, by simp; omega, h1, h2⟩
theorem MgSt.bel (h : MgSt w wr r bm g B s v u cs t) (h0 : WrAt w r bm g s0 v) : Below g w wr := h.fr.to_below h0 (by
  have := h0.lt
  have := h0.gr
  omega)
end
theorem cells_own' {w : World} {g size n c : Nat} {e : TypeId} {A : Option Addr} {xs : List Value} (h : w.ownsRow g e size (.slice A n c) n xs) : CellsAt w w.heap.size A xs := by
  obtain ⟨A', c', ev, hc⟩ := cells_own h
  injection ev with e1 _ _
  rw [e1]
  exact hc
/-- How long what is written can be, behind so many things. -/
theorem qnsW_inv {L : List Qn} (h : ∀ q ∈ L, isN q.name = true) (s : Wr) (hI : Inv s) : Inv (qnsW L s) ∧ (qnsW L s).1.length ≤ s.1.length + L.length * 300 := by
  have h1 := qnsW_longer s h
  refine ⟨h1.inv hI, ?_⟩
  have h2 := h1.len.2
  have h3 : (L.map fun q => q.name.length + 4).sum ≤ L.length * 300 := by
    clear h1 h2
    induction L with
    | nil => exact Nat.le_refl _
    | cons q L ih =>
      rw [List.map_cons, List.sum_cons, List.length_cons]
      have := isN_le (h q (by simp))
      have := ih fun q hq => h q (by simp [hq])
      omega
  omega
theorem recsW_inv {L : List Rec} (h : ∀ R ∈ L, checkE R = 0) (s : Wr) (hI : Inv s) : Inv (recsW L s) ∧ (recsW L s).1.length ≤ s.1.length + L.length * 400000 := by
  have h1 := recsW_longer s h
  refine ⟨h1.inv hI, ?_⟩
  have h2 := h1.len.2
  have h3 : (L.map fun R => R.name.length + 10 + (plainO R).length).sum ≤ L.length * 400000 := by
    clear h1 h2
    induction L with
    | nil => exact Nat.le_refl _
    | cons q L ih =>
      rw [List.map_cons, List.sum_cons, List.length_cons]
      have h0 := h q (by simp)
      have := (right_names h0).2.1
      have := plain_bound h0
      rw [← plainO_ok h0] at this
      have := ih fun q hq => h q (by simp [hq])
      omega
  omega
set_option maxHeartbeats 8000000 in
set_option maxRecDepth 100000 in
theorem message_w (M : Msg) (Aq Aa An Ax : Option Addr) (nq na nn nx cq ca cn cx B r bm g : Nat) (Za Zn Zx : List RecZ) (v : Value) (w : World) (h : WrAt w r bm g ([], []) v) (hv : Hid (MsgV w B M Aq Aa An Ax nq na nn nx ca cn cx Za Zn Zx)) (hB : B ≤ g) (hf : Hid (FewM M)) (hE : Hid (checkM M = 0)) :
    Calls Try.prog 32 #[.pointer (some ⟨r, 0, none⟩), .agg (msgA M.id M.flags Aq nq cq Aa na ca An nn cn Ax nx cx)] w (WrEnd w r bm g (msgW M) v) := by
  obtain ⟨hcnt, hqN, hrE⟩ := checkM_ok hE.out
  rw [hv.out.eq, hv.out.ea, hv.out.en, hv.out.ex] at hcnt
  have hgw : g ≤ w.heap.size := by have := h.lt; have := h.gr; omega
  obtain ⟨id, hid⟩ : ∃ n, M.id = n := ⟨_, rfl⟩
  obtain ⟨fl, hfl⟩ : ∃ n, M.flags = n := ⟨_, rfl⟩
  have hid2 : id ≤ 65535 := by rw [← hid]; exact hf.out.id
  have hfl2 : fl ≤ 65535 := by rw [← hfl]; exact hf.out.flags
  obtain ⟨S1, hS1⟩ : ∃ S, numW id 2 (([], []) : Wr) = S := ⟨_, rfl⟩
  obtain ⟨S2, hS2⟩ : ∃ S, numW fl 2 S1 = S := ⟨_, rfl⟩
  obtain ⟨S3, hS3⟩ : ∃ S, numW nq 2 S2 = S := ⟨_, rfl⟩
  obtain ⟨S4, hS4⟩ : ∃ S, numW na 2 S3 = S := ⟨_, rfl⟩
  obtain ⟨S5, hS5⟩ : ∃ S, numW nn 2 S4 = S := ⟨_, rfl⟩
  obtain ⟨S6, hS6⟩ : ∃ S, numW nx 2 S5 = S := ⟨_, rfl⟩
  have hst : startW M = S6 := by unfold startW; rw [hv.out.eq, hv.out.ea, hv.out.en, hv.out.ex, hid, hfl, hS1, hS2, hS3, hS4, hS5, hS6]
  have hi6 := start_inv M
  rw [hst] at hi6
  have L2 := (numW_longer fl 2 S1).of_eq hS2
  have L3 := (numW_longer nq 2 S2).of_eq hS3
  have L4 := (numW_longer na 2 S3).of_eq hS4
  have L5 := (numW_longer nn 2 S4).of_eq hS5
  have L6 := (numW_longer nx 2 S5).of_eq hS6
  have HLN : Hid (S1.1.length ≤ 12 ∧ S2.1.length ≤ 12 ∧ S3.1.length ≤ 12 ∧ S4.1.length ≤ 12 ∧ S5.1.length ≤ 12 ∧ S6.1.length ≤ 12) := by
    have a2 := L2.len; have a3 := L3.len; have a4 := L4.len; have a5 := L5.len; have a6 := L6.len; have a7 := hi6.2
    exact ⟨by omega, by omega, by omega, by omega, by omega, by omega⟩
  obtain ⟨SQ, hSQ⟩ : ∃ S, qnsW M.qs S6 = S := ⟨_, rfl⟩
  have hqi := qnsW_inv hqN S6 hi6.1
  have hmsg : msgW M = recsW (recsM M) SQ := by unfold msgW; rw [hst, hSQ]
  obtain ⟨SM, hSM⟩ : ∃ S, msgW M = S := ⟨_, rfl⟩
  rw [hSM] at hmsg ⊢
  rw [hSQ] at hqi
  have HQI := Lib.hid hqi
  have HI6 := Lib.hid hi6.1
  have HMSG := Lib.hid hmsg
  have HSQ := Lib.hid hSQ
  have H1 := Lib.hid hS1
  have H2 := Lib.hid hS2
  have H3 := Lib.hid hS3
  have H4 := Lib.hid hS4
  have H5 := Lib.hid hS5
  have H6 := Lib.hid hS6
  have HQN := Lib.hid hqN
  have HRE := Lib.hid hrE
  have HW := Lib.hid h
  have HGW := Lib.hid hgw
  obtain ⟨Bx, hBx⟩ : ∃ B, w.heap.size = B := ⟨_, rfl⟩
  have HB0 := Lib.hid (mgSt_start (t := 27) (msgA id fl Aq nq cq Aa na ca An nn cn Ax nx cx) h hgw (by decide) (by decide))
  rw [hBx] at HB0
  rw [hid, hfl]
  have hu1 : IntKind.u32.wrap (id : Int) = (id : Int) := by rw [IntKind.wrap_u32]; omega
  have hu2 : IntKind.u32.wrap (fl : Int) = (fl : Int) := by rw [IntKind.wrap_u32]; omega
  have hu3 : IntKind.u32.wrap (nq : Int) = (nq : Int) := by rw [IntKind.wrap_u32]; omega
  have hu4 : IntKind.u32.wrap (na : Int) = (na : Int) := by rw [IntKind.wrap_u32]; omega
  have hu5 : IntKind.u32.wrap (nn : Int) = (nn : Int) := by rw [IntKind.wrap_u32]; omega
  have hu6 : IntKind.u32.wrap (nx : Int) = (nx : Int) := by rw [IntKind.wrap_u32]; omega
  have HNUM := Lib.hid (fun n s v w h hg hn hl => number_any n 2 r bm g s v w h hg hn (by decide) (by decide) hl)
  have b0 := cell_of_row _ _ 0 _ _ _ HB0.out.bx
  clear hS1 hS2 hS3 hS4 hS5 hS6 hst hi6 L2 L3 L4 L5 L6 hSQ hqi hmsg hSM hqN hrE h hgw hid hfl
  go_enter Try.func32, Try.ntmps32
  go_wp2_with fail
  clear hBx
  generalize w.alloc (.cells #[.int .u16 id, .int .u16 fl, .slice Aq nq cq, .slice Aa na ca, .slice An nn cn, .slice Ax nx cx] 27) = wa at *
  refine (HNUM.out id _ _ wa HB0.out.wat HB0.out.gl (by omega) (by decide)).mono ?_
  rintro e w1 ⟨v1, rfl, h2, h3⟩
  rw [H1.out] at h2
  have K1 := Lib.hid (HB0.out.call h2 h3)
  have d1 := cell_of_row _ _ 1 _ _ _ K1.out.bx
  clear h2 h3 b0
  go_wp2_with fail
  refine (HNUM.out fl _ _ w1 K1.out.wat K1.out.gl (by omega) (by have := HLN.out.1; omega)).mono ?_
  rintro e w2 ⟨v2, rfl, h2, h3⟩
  rw [H2.out] at h2
  have K2 := Lib.hid (K1.out.call h2 h3)
  have d2 := cell_of_row _ _ 2 _ _ _ K2.out.bx
  have d3 := cell_of_row _ _ 3 _ _ _ K2.out.bx
  have d4 := cell_of_row _ _ 4 _ _ _ K2.out.bx
  have d5 := cell_of_row _ _ 5 _ _ _ K2.out.bx
  clear h2 h3 d1
  obtain ⟨Bi, hBi⟩ : ∃ B, w2.heap.size = B := ⟨_, rfl⟩
  have K2a := Lib.hid (K2.out.below ((Below.refl _ _).alloc (Nat.le_refl _) (.cells #[.int .i64 nq, .int .i64 na, .int .i64 nn, .int .i64 nx] 3)))
  have I2 : Hid (MgSt w (w2.alloc (.cells #[.int .i64 nq, .int .i64 na, .int .i64 nn, .int .i64 nx] 3)) r bm g Bi S2 v v2 #[.int .i64 nq, .int .i64 na, .int .i64 nn, .int .i64 nx] 3) := ⟨K2a.out.wat, K2a.out.fr, by rw [← hBi]; exact heap_alloc_new w2 _, K2a.out.gl, by decide, by decide⟩
  go_wp2_with fail
  clear hBi d2 d3 d4 d5
  generalize w2.alloc (.cells #[.int .i64 nq, .int .i64 na, .int .i64 nn, .int .i64 nx] 3) = w3 at *
  go_loopw [34] (fun i wr => ∃ (k : Nat) (s' : Wr) (u : Value), i = .int .i64 k ∧ Hid ((k = 0 ∧ s' = S2) ∨ (k = 1 ∧ s' = S3) ∨ (k = 2 ∧ s' = S4) ∨ (k = 3 ∧ s' = S5) ∨ (k = 4 ∧ s' = S6)) ∧ Hid (MgSt w wr r bm g Bx s' v u (msgA id fl Aq nq cq Aa na ca An nn cn Ax nx cx) 27) ∧ Hid (MgSt w wr r bm g Bi s' v u #[.int .i64 nq, .int .i64 na, .int .i64 nn, .int .i64 nx] 3)) (fun i _ => 4 - (intOf i).toNat)
  case atStart => exact ⟨0, S2, v2, rfl, .inl ⟨rfl, rfl⟩, K2a, I2⟩
  case round =>
    obtain ⟨k, s', u, rfl, hk, hK, hI⟩ := hrel
    have i0 := cell_of_row _ _ 0 _ _ _ hI.out.bx
    have i1 := cell_of_row _ _ 1 _ _ _ hI.out.bx
    have i2 := cell_of_row _ _ 2 _ _ _ hI.out.bx
    have i3 := cell_of_row _ _ 3 _ _ _ hI.out.bx
    rcases hk.out with ⟨rfl, e1⟩ | ⟨rfl, e1⟩ | ⟨rfl, e1⟩ | ⟨rfl, e1⟩ | ⟨rfl, e1⟩
    · subst e1
      have HN := Lib.hid (HNUM.out nq _ _ wr hK.out.wat hK.out.gl (by omega) (by have := HLN.out.2.1; omega))
      rw [H3.out] at HN
      go_wp2_with fail
      refine HN.out.mono ?_
      rintro e w4 ⟨v4, rfl, h2, h3⟩
      have E1 := Lib.hid (hK.out.call h2 h3)
      have E2 := Lib.hid (hI.out.call h2 h3)
      clear h2 h3 HN hK hI i0 i1 i2 i3
      go_wp2_with fail
      go_roundw
      case rel => exact ⟨1, S3, _, by go_num, .inr (.inl ⟨rfl, rfl⟩), E1, E2⟩
      case measure => simp [intOf]
    · subst e1
      have HN := Lib.hid (HNUM.out na _ _ wr hK.out.wat hK.out.gl (by omega) (by have := HLN.out.2.2.1; omega))
      rw [H4.out] at HN
      go_wp2_with fail
      refine HN.out.mono ?_
      rintro e w4 ⟨v4, rfl, h2, h3⟩
      have E1 := Lib.hid (hK.out.call h2 h3)
      have E2 := Lib.hid (hI.out.call h2 h3)
      clear h2 h3 HN hK hI i0 i1 i2 i3
      go_wp2_with fail
      go_roundw
      case rel => exact ⟨2, S4, _, by go_num, .inr (.inr (.inl ⟨rfl, rfl⟩)), E1, E2⟩
      case measure => simp [intOf]
    · subst e1
      have HN := Lib.hid (HNUM.out nn _ _ wr hK.out.wat hK.out.gl (by omega) (by have := HLN.out.2.2.2.1; omega))
      rw [H5.out] at HN
      go_wp2_with fail
      refine HN.out.mono ?_
      rintro e w4 ⟨v4, rfl, h2, h3⟩
      have E1 := Lib.hid (hK.out.call h2 h3)
      have E2 := Lib.hid (hI.out.call h2 h3)
      clear h2 h3 HN hK hI i0 i1 i2 i3
      go_wp2_with fail
      go_roundw
      case rel => exact ⟨3, S5, _, by go_num, .inr (.inr (.inr (.inl ⟨rfl, rfl⟩))), E1, E2⟩
      case measure => simp [intOf]
    · subst e1
      have HN := Lib.hid (HNUM.out nx _ _ wr hK.out.wat hK.out.gl (by omega) (by have := HLN.out.2.2.2.2.1; omega))
      rw [H6.out] at HN
      go_wp2_with fail
      refine HN.out.mono ?_
      rintro e w4 ⟨v4, rfl, h2, h3⟩
      have E1 := Lib.hid (hK.out.call h2 h3)
      have E2 := Lib.hid (hI.out.call h2 h3)
      clear h2 h3 HN hK hI i0 i1 i2 i3
      go_wp2_with fail
      go_roundw
      case rel => exact ⟨4, S6, _, by go_num, .inr (.inr (.inr (.inr ⟨rfl, rfl⟩))), E1, E2⟩
      case measure => simp [intOf]
    · subst e1
      have d2 := cell_of_row _ _ 2 _ _ _ hK.out.bx
      clear hI i0 i1 i2 i3 hk
      go_wp2_with fail
      obtain ⟨wo, rfl⟩ : ∃ wo : World, wo = wr := ⟨_, rfl⟩
      go_loopw [46] (fun i ws => ∃ (j : Nat) (s2 : Wr) (u2 : Value), i = .int .i64 j ∧ j ≤ nq ∧ Hid (MgSt w ws r bm g Bx s2 v u2 (msgA id fl Aq nq cq Aa na ca An nn cn Ax nx cx) 27) ∧ Hid (qnsW (M.qs.drop j) s2 = SQ) ∧ Hid (Inv s2 ∧ s2.1.length ≤ 12 + j * 300)) (fun i _ => nq - (intOf i).toNat)
      case atStart => exact ⟨0, s', u, rfl, Nat.zero_le _, hK, HSQ, HI6.out, by have := HLN.out.2.2.2.2.2; omega⟩
      case round =>
        obtain ⟨j, s2, u2, rfl, hj, hK2, hR, hI2⟩ := hrel
        clear d2 hK
        by_cases hlt : j < nq
        · have hjl : j < M.qs.length := by rw [hv.out.eq]; exact hlt
          obtain ⟨b, off, rfl, hbl, p0, p1, p2⟩ := (hv.out.at_.q.on ((hK2.out.bel HW.out).mono hB) (Nat.le_refl _)).qn hjl
          have hqn := hf.out.qs _ (List.getElem_mem hjl)
          have hqis := HQN.out _ (List.getElem_mem hjl)
          have hRn := hR.out
          rw [qnsW_drop hjl] at hRn
          obtain ⟨QQ, hQQ⟩ : ∃ Q, M.qs[j]'hjl = Q := ⟨_, rfl⟩
          rw [hQQ] at p0 p1 p2 hqn hqis hRn
          have hql := qnW_longer hqis s2
          have hnl := nameW_longer _ (rests_of hqis) s2
          have h255 := isN_le hqis
          obtain ⟨x, hx⟩ : ∃ x, mk QQ.name = x := ⟨_, rfl⟩
          obtain ⟨T1, hT1⟩ : ∃ S, nameW QQ.name s2 = S := ⟨_, rfl⟩
          obtain ⟨T2, hT2⟩ : ∃ S, numW QQ.kind 2 T1 = S := ⟨_, rfl⟩
          obtain ⟨T3, hT3⟩ : ∃ S, numW QQ.cls 2 T2 = S := ⟨_, rfl⟩
          have hq3 : qnW QQ s2 = T3 := by unfold qnW; rw [hT1, hT2, hT3]
          rw [hq3] at hRn hql
          rw [hT1] at hnl
          have N2 := (numW_longer QQ.kind 2 T1).of_eq hT2
          have HRN := Lib.hid hRn
          have hx1 : nameW x.data.toList s2 = T1 := by rw [← hx, mk_list]; exact hT1
          have hxR : Rests x.data.toList ∧ x.size ≤ 255 := ⟨by rw [← hx, mk_list]; exact rests_of hqis, by rw [← hx, mk_size]; exact h255⟩
          have HLEN : Hid ((s2.1.length ≤ 900000000 ∧ s2.2.length ≤ 900000000) ∧ T1.1.length ≤ 1000000000 ∧ T2.1.length ≤ 1000000000 ∧ Inv T3 ∧ T3.1.length ≤ 12 + (j + 1) * 300) := by
            have a1 := hI2.out.1.2; have a2 := hI2.out.2; have a3 := hnl.len; have a4 := hql.len; have a5 := N2.len
            exact ⟨⟨by omega, by omega⟩, by omega, by omega, hql.inv hI2.out.1, by omega⟩
          have HX1 := Lib.hid hx1
          have HXR := Lib.hid hxR
          rw [hx] at p0
          obtain ⟨qk, hqk⟩ : ∃ n, QQ.kind = n := ⟨_, rfl⟩
          obtain ⟨qc, hqc⟩ : ∃ n, QQ.cls = n := ⟨_, rfl⟩
          rw [hqk] at p1 hqn hT2
          rw [hqc] at p2 hqn hT3
          have HT2 := Lib.hid hT2
          have HT3 := Lib.hid hT3
          have hw1 : IntKind.u32.wrap (qk : Int) = (qk : Int) := by rw [IntKind.wrap_u32]; omega
          have hw2 : IntKind.u32.wrap (qc : Int) = (qc : Int) := by rw [IntKind.wrap_u32]; omega
          have hqk2 : qk < 4294967296 := by omega
          have hqc2 : qc < 4294967296 := by omega
          obtain ⟨Bq, hBq⟩ : ∃ n, wr.heap.size = n := ⟨_, rfl⟩
          have d2 := cell_of_row _ _ 2 _ _ _ hK2.out.bx
          have KB := Lib.hid (hK2.out.below ((Below.refl _ _).alloc (Nat.le_refl _) (.cells #[.string x, .int .u16 qk, .int .u16 qc] 44)))
          have QB : Hid (MgSt w (wr.alloc (.cells #[.string x, .int .u16 qk, .int .u16 qc] 44)) r bm g Bq s2 v u2 #[.string x, .int .u16 qk, .int .u16 qc] 44) := ⟨KB.out.wat, KB.out.fr, by rw [← hBq]; exact heap_alloc_new wr _, KB.out.gl, by decide, by decide⟩
          clear hx hT1 hT2 hT3 hq3 hRn hql hnl h255 N2 hx1 hxR hqk hqc hQQ hqis hqn hR
          go_wp2_with fail
          clear hBq p0 p1 p2 d2
          generalize wr.alloc (.cells #[.string x, .int .u16 qk, .int .u16 qc] 44) = wq at *
          refine (name_any x r bm g s2 u2 wq QB.out.wat QB.out.gl HXR.out.1 HXR.out.2 HLEN.out.1.1 hI2.out.1.1 HLEN.out.1.2).mono ?_
          rintro e w5 ⟨v5, rfl, h2, h3⟩
          rw [HX1.out] at h2
          have K5 := Lib.hid (KB.out.call h2 h3)
          have Q5 := Lib.hid (QB.out.call h2 h3)
          have g1 := cell_of_row _ _ 1 _ _ _ Q5.out.bx
          clear h2 h3 KB QB hK2
          go_wp2_with fail
          refine (HNUM.out qk T1 _ w5 K5.out.wat K5.out.gl hqk2 HLEN.out.2.1).mono ?_
          rintro e w6 ⟨v6, rfl, h2, h3⟩
          rw [HT2.out] at h2
          have K6 := Lib.hid (K5.out.call h2 h3)
          have Q6 := Lib.hid (Q5.out.call h2 h3)
          have g2 := cell_of_row _ _ 2 _ _ _ Q6.out.bx
          clear h2 h3 K5 Q5 g1
          go_wp2_with fail
          refine (HNUM.out qc T2 _ w6 K6.out.wat K6.out.gl hqc2 HLEN.out.2.2.1).mono ?_
          rintro e w7 ⟨v7, rfl, h2, h3⟩
          rw [HT3.out] at h2
          have K7 := Lib.hid (K6.out.call h2 h3)
          clear h2 h3 K6 Q6 g2
          go_wp2_with fail
          go_roundw
          case rel =>
            (repeat apply Exists.intro)
            first | exact ⟨by go_num, by omega, K7, HRN, HLEN.out.2.2.2⟩ | exact ⟨⟨j + 1, T3, _, by go_num, by omega, K7, HRN, HLEN.out.2.2.2⟩, rfl⟩
          case measure => simp [intOf]; omega
        · have hs2 : s2 = SQ := by
            have := hR.out
            rw [List.drop_eq_nil_of_le (by rw [hv.out.eq]; omega)] at this
            exact this
          subst hs2
          have e0 := cell_of_row _ _ 0 _ _ _ hK2.out.bx
          have e1 := cell_of_row _ _ 1 _ _ _ hK2.out.bx
          have e2 := cell_of_row _ _ 2 _ _ _ hK2.out.bx
          have e3 := cell_of_row _ _ 3 _ _ _ hK2.out.bx
          have e4 := cell_of_row _ _ 4 _ _ _ hK2.out.bx
          have e5 := cell_of_row _ _ 5 _ _ _ hK2.out.bx
          have hjn : ¬ ((j : Int) < (nq : Int)) := by omega
          have HRC := Lib.hid (records_w M id fl Aq Aa An Ax nq na nn nx cq ca cn cx B Za Zn Zx wr (hv.out.on ((hK2.out.bel HW.out).mono hB) (Nat.le_refl _)) (Nat.le_trans hB hK2.out.gl) hf)
          clear hlt hR
          go_wp2_with fail
          refine HRC.out.mono ?_
          rintro e w5 ⟨v5, rfl, hO, hB5⟩
          have hall := hv.out.all
          obtain ⟨ZZ, hZZ⟩ : ∃ Z, Za ++ Zn ++ Zx = Z := ⟨_, rfl⟩
          obtain ⟨nz, hnz⟩ : ∃ n, na + nn + nx = n := ⟨_, rfl⟩
          rw [hZZ] at hall hO
          rw [hnz] at hall hO
          have K5 := Lib.hid (hK2.out.below hB5)
          obtain ⟨Ar, cr, rfl, _⟩ := cells_own hO
          have HO := Lib.hid hO
          have HALL := Lib.hid hall
          have hnz2 : nz ≤ 256 := by omega
          clear hO hB5 hK2 hall e0 e1 e2 e3 e4 e5 hZZ hnz HRC
          go_wp2_with fail
          go_loopw [68] (fun i ws => ∃ (k : Nat) (s3 : Wr) (u3 : Value), i = .int .i64 k ∧ k ≤ nz ∧ Hid (MgSt w ws r bm g Bx s3 v u3 (msgA id fl Aq nq cq Aa na ca An nn cn Ax nx cx) 27) ∧ Hid (∃ gq, ws.ownsRow gq 49 7 (.slice Ar nz cr) nz (recCs ZZ)) ∧ Hid (recsW ((recsM M).drop k) s3 = SM) ∧ Hid (Inv s3 ∧ s3.1.length ≤ 100000 + k * 400000)) (fun i _ => nz - (intOf i).toNat)
          case atStart => exact ⟨0, s2, u2, rfl, Nat.zero_le _, K5, ⟨_, HO.out⟩, HMSG.out.symm, hI2.out.1, by have := hI2.out.2; omega⟩
          case round =>
            obtain ⟨k, s3, u3, rfl, hk, hK3, hO3, hR3, hI3⟩ := hrel
            by_cases hlk : k < nz
            · have hkz : k < ZZ.length := by rw [HALL.out.2.2]; exact hlk
              obtain ⟨gq, hOq⟩ := hO3.out
              have hcell := cells_own' hOq
              have hz1 : ZAt wr g ZZ := HALL.out.2.1.on ((hK3.out.bel HW.out).mono hB) hB
              obtain ⟨br, off, B1, e1, B2, e2, B3, e3, rfl, hbr, hat, p0, p1, p2, p3, p4, p5, p6⟩ := recs_get hcell (hz1.on (Below.refl _ _) hK3.out.gl) hkz
              obtain ⟨hkM, hkR⟩ := get_map HALL.out.1 hkz
              have hatG : RecAt wr g (ZZ[k]'hkz).1 (mk (ZZ[k]'hkz).1.name) (ZZ[k]'hkz).1.kind (ZZ[k]'hkz).1.cls (ZZ[k]'hkz).1.ttl B1 (ZZ[k]'hkz).1.names.length B2 (ZZ[k]'hkz).1.nums.length B3 (ZZ[k]'hkz).1.texts.length := by
                obtain ⟨C1, f1, C2, f2, C3, f3, q1, q2, q3, hh⟩ := hz1 (ZZ[k]'hkz) (List.getElem_mem hkz)
                have c4 : (recCs ZZ)[k * 7 + 4]? = some (ZZ[k]'hkz).2.1 := recCs_at hkz (by decide)
                have c5 : (recCs ZZ)[k * 7 + 5]? = some (ZZ[k]'hkz).2.2.1 := recCs_at hkz (by decide)
                have c6 : (recCs ZZ)[k * 7 + 6]? = some (ZZ[k]'hkz).2.2.2 := recCs_at hkz (by decide)
                obtain ⟨b9, off9, eA, _, hc9⟩ := hcell.get c4
                injection eA with eA
                injection eA with eA1 eA2
                subst eA1 eA2
                have a4 := hc9 _ _ c4
                have a5 := hc9 _ _ c5
                have a6 := hc9 _ _ c6
                rw [← Nat.add_assoc, p4, q1] at a4
                rw [← Nat.add_assoc, p5, q2] at a5
                rw [← Nat.add_assoc, p6, q3] at a6
                injection a4 with a4
                injection a5 with a5
                injection a6 with a6
                injection a4 with a4 _ _
                injection a5 with a5 _ _
                injection a6 with a6 _ _
                rw [a4, a5, a6]
                exact hh
              have hsm := hf.out.recs HQN.out _ (List.getElem_mem hkM)
              have hck := HRE.out _ (List.getElem_mem hkM)
              have hRn := hR3.out
              rw [recsW_drop hkM] at hRn
              rw [← hkR] at hsm hRn hck
              obtain ⟨RR, hRR⟩ : ∃ R, (ZZ[k]'hkz).1 = R := ⟨_, rfl⟩
              rw [hRR] at hatG p0 p1 p2 p3 p4 p5 p6 hsm hRn hck
              have hlen := recW_longer hck s3
              have hpb := plain_bound hck
              have hnb := (right_names hck).2.1
              obtain ⟨T3, hT3⟩ : ∃ S, recW RR s3 = S := ⟨_, rfl⟩
              rw [hT3] at hRn hlen
              have HT3 := Lib.hid hT3
              have HRN := Lib.hid hRn
              have HLEN : Hid (Inv T3 ∧ T3.1.length ≤ 100000 + (k + 1) * 400000) := by
                have a1 := hlen.len; have a2 := hI3.out.2
                exact ⟨hlen.inv hI3.out.1, by omega⟩
              obtain ⟨xn, hxn⟩ : ∃ x, mk RR.name = x := ⟨_, rfl⟩
              obtain ⟨rk, hrk⟩ : ∃ n, RR.kind = n := ⟨_, rfl⟩
              obtain ⟨rc, hrc⟩ : ∃ n, RR.cls = n := ⟨_, rfl⟩
              obtain ⟨rt, hrt⟩ : ∃ n, RR.ttl = n := ⟨_, rfl⟩
              obtain ⟨l1, hl1⟩ : ∃ n, RR.names.length = n := ⟨_, rfl⟩
              obtain ⟨l2, hl2⟩ : ∃ n, RR.nums.length = n := ⟨_, rfl⟩
              obtain ⟨l3, hl3⟩ : ∃ n, RR.texts.length = n := ⟨_, rfl⟩
              rw [hxn] at p0
              rw [hrk] at p1 hsm
              rw [hrc] at p2 hsm
              rw [hrt] at p3 hsm
              rw [hl1] at p4
              rw [hl2] at p5
              rw [hl3] at p6
              rw [hxn, hrk, hrc, hrt, hl1, hl2, hl3] at hatG
              have KB := Lib.hid (hK3.out.below ((Below.refl _ _).alloc (Nat.le_refl _) (.cells #[.string xn, .int .u16 rk, .int .u16 rc, .int .u32 rt, .slice B1 l1 e1, .slice B2 l2 e2, .slice B3 l3 e3] 49)))
              have HRW := Lib.hid (recW_any RR xn rk rc rt B1 l1 e1 B2 l2 e2 B3 l3 e3 r bm g s3 u3 _ KB.out.wat KB.out.gl (hatG.on ((Below.refl _ _).alloc hK3.out.gl _) (Nat.le_refl _)) hck hI3.out.1 (by have := hI3.out.2; omega) hsm.1 hsm.2.1 hsm.2.2.1 hsm.2.2.2)
              have HO4 := Lib.hid (row_below hOq ((Below.refl _ _).alloc (Nat.le_refl _) (.cells #[.string xn, .int .u16 rk, .int .u16 rc, .int .u32 rt, .slice B1 l1 e1, .slice B2 l2 e2, .slice B3 l3 e3] 49)))
              clear hRR hxn hrk hrc hrt hl1 hl2 hl3 hat hatG hsm hkR hkM hck hz1 hcell hOq hRn hlen hpb hnb hT3 hR3 hK3 hO3
              go_wp2_with fail
              refine HRW.out.mono ?_
              rintro e w6 ⟨v6, rfl, h2, h3⟩
              rw [HT3.out] at h2
              have K6 := Lib.hid (KB.out.call h2 h3)
              have O6 : Hid (∃ gq, w6.ownsRow gq 49 7 (.slice (some ⟨br, off, none⟩) nz cr) nz (recCs ZZ)) := ⟨_, h3.row KB.out.wat HO4.out (by decide) (by decide)⟩
              clear h2 h3 KB HO4 HRW p0 p1 p2 p3 p4 p5 p6
              go_wp2_with fail
              go_roundw
              case rel =>
                (repeat apply Exists.intro)
                first | exact ⟨by go_num, by omega, K6, O6, HRN, HLEN⟩ | exact ⟨⟨k + 1, T3, _, by go_num, by omega, K6, O6, HRN, HLEN⟩, rfl⟩
              case measure => simp [intOf]; omega
            · have hl2 : (recsM M).length = nz := by rw [← HALL.out.1, List.length_map]; exact HALL.out.2.2
              have hs3 : s3 = SM := by
                have := hR3.out
                rw [List.drop_eq_nil_of_le (by omega)] at this
                exact this
              subst hs3
              have hkn : ¬ ((k : Int) < (nz : Int)) := by omega
              clear hlk hR3 hl2
              go_wp2_with fail
              go_end0
              exact ⟨_, rfl, hK3.out.wat, hK3.out.fr⟩
end Go.Proofs.Ytihkmdojakalbaa

/- The contract of dnswrite's Write. For messages that can be gone through. -/
namespace Go.Proofs.Ytihkmdojakalbaa
open Go.RowKit Bytes MsgMath NameMath RecMath WrMath

set_option maxHeartbeats 4000000 in
set_option maxRecDepth 100000 in
theorem write_w (M : Msg) (Aq Aa An Ax : Option Addr) (nq na nn nx cq ca cn cx B code : Nat) (out : ByteArray) (Za Zn Zx : List RecZ) (w : World) (hv : Hid (MsgV w B M Aq Aa An Ax nq na nn nx ca cn cx Za Zn Zx)) (hB : B ≤ w.heap.size) (hf : Hid (FewM M)) (hW : Hid (writeM M = (out.data.toList, code))) :
    Calls Try.prog 16 #[.agg (msgA M.id M.flags Aq nq cq Aa na ca An nn cn Ax nx cx)] w fun e w' => e = .returned (.tuple #[.string out, .int .i64 code]) ∧ Below w.heap.size w w' := by
  obtain ⟨id, hid⟩ : ∃ n, M.id = n := ⟨_, rfl⟩
  obtain ⟨fl, hfl⟩ : ∃ n, M.flags = n := ⟨_, rfl⟩
  obtain ⟨E, hE⟩ : ∃ E, checkM M = E := ⟨_, rfl⟩
  obtain ⟨g, hg⟩ : ∃ g, w.heap.size = g := ⟨_, rfl⟩
  obtain ⟨wa, hwa⟩ : ∃ wa, w.alloc (.cells (msgA id fl Aq nq cq Aa na ca An nn cn Ax nx cx) 27) = wa := ⟨_, rfl⟩
  have hba : Below g w wa := by rw [← hwa, ← hg]; exact (Below.refl _ _).alloc (Nat.le_refl _) _
  have hbx : wa.heap[g]? = some (.cells (msgA id fl Aq nq cq Aa na ca An nn cn Ax nx cx) 27 (0, 0)) := by rw [← hwa, ← hg]; exact heap_alloc_new w _
  have hsa : wa.heap.size = g + 1 := by rw [← hwa, ← hg]; simp
  rw [hg] at hB
  have HVA := Lib.hid (hv.out.on (hba.mono hB) (Nat.le_refl _))
  have HCK := Lib.hid (check_w M id fl Aq Aa An Ax nq na nn nx cq ca cn cx B E Za Zn Zx wa HVA (by omega) hf hE)
  have HBA := Lib.hid hba
  have HBX := Lib.hid hbx
  have HSA := Lib.hid hsa
  have HE := Lib.hid hE
  have k0 := cell_of_row _ _ 0 _ _ _ hbx
  have k1 := cell_of_row _ _ 1 _ _ _ hbx
  have k2 := cell_of_row _ _ 2 _ _ _ hbx
  have k3 := cell_of_row _ _ 3 _ _ _ hbx
  have k4 := cell_of_row _ _ 4 _ _ _ hbx
  have k5 := cell_of_row _ _ 5 _ _ _ hbx
  have hW2 := hW.out
  unfold writeM at hW2
  rw [hE] at hW2
  have hmm := @run_makeMap Try.prog
  have HID := Lib.hid hid
  have HFL := Lib.hid hfl
  rw [hid, hfl, hg]
  clear hba hbx hsa hE hid hfl
  by_cases hE0 : E = 0
  · subst hE0
    rw [if_pos rfl] at hW2
    have hlen := msgW_len HE.out
    obtain ⟨⟨O, K⟩, hO⟩ : ∃ S, msgW M = S := ⟨_, rfl⟩
    rw [hO] at hW2
    simp only at hW2
    have HO := Lib.hid hO
    have HW2 := Lib.hid hW2
    clear hW2 hO hlen
    go_enter Try.func16, Try.ntmps16
    go_wp2_with fail
    refine HCK.out.mono ?_
    rintro e w1 ⟨rfl, hB1⟩
    have HB1 : Hid (Below (g + 1) wa w1) := by have := hB1; rw [HSA.out] at this; exact this
    obtain ⟨g1, hg1⟩ : ∃ n, w1.heap.size = n := ⟨_, rfl⟩
    have HG1 : Hid (g + 1 ≤ g1) := by have := HB1.out.size; rw [HSA.out, hg1] at this; exact this
    have hbx1 := (HB1.out.block g (Nat.lt_succ_self g)).trans HBX.out
    obtain ⟨w2, hw2⟩ : ∃ w2, w1.alloc (.map #[] 0) = w2 := ⟨_, rfl⟩
    obtain ⟨w3, hw3⟩ : ∃ w3, w2.alloc (.cells #[.slice none 0 0, .map (some g1)] 73) = w3 := ⟨_, rfl⟩
    have hs2 : w2.heap.size = g1 + 1 := by rw [← hw2, ← hg1]; simp
    have hb13 : Below g1 w1 w3 := by rw [← hw3, ← hw2, ← hg1]; exact ((Below.refl _ _).alloc (Nat.le_refl _) _).alloc (by simp) _
    have hwat : WrAt w3 (g1 + 1) g1 g1 ([], []) (.slice none 0 0) := by
      refine ⟨by rw [← hw3, ← hs2]; exact heap_alloc_new w2 _, World.ownsRow_nil _ _ _ _, ?_, by omega, Nat.le_refl _⟩
      have h1 : MapIs w2 g1 [] := by rw [← hw2, ← hg1]; exact mapIs_made w1
      rw [← hw3]
      exact h1.kept (World.grownBy_alloc w2 _ none) (by simp)
    have hbx3 := (hb13.block g (by have := HG1.out; omega)).trans hbx1
    have j0 := cell_of_row _ _ 0 _ _ _ hbx3
    have j1 := cell_of_row _ _ 1 _ _ _ hbx3
    have j2 := cell_of_row _ _ 2 _ _ _ hbx3
    have j3 := cell_of_row _ _ 3 _ _ _ hbx3
    have j4 := cell_of_row _ _ 4 _ _ _ hbx3
    have j5 := cell_of_row _ _ 5 _ _ _ hbx3
    have HB3 : Hid (Below (g + 1) wa w3) := HB1.out.trans (hb13.mono HG1.out)
    have hmsg := message_w M Aq Aa An Ax nq na nn nx cq ca cn cx B (g1 + 1) g1 g1 Za Zn Zx (.slice none 0 0) w3 hwat (HVA.out.on (HB3.out.mono (by omega)) (Nat.le_refl _)) (by have := HG1.out; omega) hf HE.out
    rw [HO.out, HID.out, HFL.out] at hmsg
    have HMSG := Lib.hid hmsg
    have HWAT := Lib.hid hwat
    have HS2 := Lib.hid hs2
    clear hmsg hwat hbx3 hbx1 hB1 hb13
    go_wp2_with fail
    refine HMSG.out.mono ?_
    rintro e w4 ⟨v4, rfl, h2, h3⟩
    have HB4 : Hid (Below g w w4) := HBA.out.trans ((HB3.out.mono (Nat.le_succ _)).trans ((h3.to_below HWAT.out (by have := HWAT.out.lt; omega)).mono (by have := HG1.out; omega)))
    obtain ⟨A4, c4, rfl⟩ := h2.slice
    have n0 := h2.c0
    have hown := h2.own
    simp only at n0 hown
    obtain ⟨m, hm⟩ : ∃ m, O.length = m := ⟨_, rfl⟩
    rw [hm] at n0 hown
    have hconv := (convert_own hown)
    have hres := HW2.out
    rw [hm] at hres
    clear hm HW2 HO hW
    by_cases hl : 65535 < m
    · rw [if_pos hl] at hres
      injection hres with e1 e2
      subst e2
      obtain rfl : out = ⟨#[]⟩ := list_inj e1.symm
      have hli : (65535 : Int) < m := by omega
      clear j0 j1 j2 j3 j4 j5 hconv hown h2 h3 hw2 hw3 hg1 hs2
      go_wp2_with fail
      go_ret2
      exact ⟨rfl, HB4.out⟩
    · rw [if_neg hl] at hres
      injection hres with e1 e2
      subst e2
      have hout : mk O = out := list_inj e1
      clear e1
      have hli : (m : Int) ≤ 65535 := by omega
      have hld : decide ((65535 : Int) < m) = false := decide_eq_false (by omega)
      rw [hout] at hconv
      clear hout
      clear j0 j1 j2 j3 j4 j5 hown h2 h3 hw2 hw3 hg1 hs2
      go_wp2_with fail
      go_ret2
      exact ⟨rfl, HB4.out⟩
  · rw [if_neg hE0] at hW2
    injection hW2 with e1 e2
    subst e2
    obtain rfl : out = ⟨#[]⟩ := list_inj e1.symm
    have hez : ((E : Int) != 0) = true := bne_iff_ne.2 (by omega)
    go_enter Try.func16, Try.ntmps16
    go_wp2_with fail
    refine HCK.out.mono ?_
    rintro e w1 ⟨rfl, hB1⟩
    have HB4 : Hid (Below g w w1) := HBA.out.trans (hB1.mono (by rw [HSA.out]; exact Nat.le_succ _))
    clear hB1
    go_wp2_with fail
    go_ret2
    exact ⟨rfl, HB4.out⟩
end Go.Proofs.Ytihkmdojakalbaa

/- The contracts of the laws' own looks at lists of texts and at records: is one small enough to go through it? -/
namespace Go.Proofs.Ytihkmdojakalbaa
open Go.RowKit Bytes Strs Nums NameMath RecMath

def FewTexts (L : List (List UInt8)) (w : World) (e : Ending) (w' : World) : Prop := ∃ b : Bool, e = .returned (.bool b) ∧ (b = true → L.length < 5000 ∧ ∀ j, j < L.length → (L.getD j []).length < 5000) ∧ w = w'
set_option maxHeartbeats 2000000 in
set_option maxRecDepth 100000 in
theorem fewTexts_any (A : Option Addr) (c n : Nat) (L : List (List UInt8)) (w : World) (hr : RdS w w.heap.size A L) (hn0 : Hid (L.length = n)) (hn : n ≤ maxLen) :
    Calls Try.prog 56 #[.slice A n c] w (FewTexts L w) := by
  have HR := Lib.hid hr; clear hr
  unfold maxLen at hn
  have hmin : ∃ m : Nat, min (n : Int) 5000 = (m : Int) ∧ m ≤ 5000 ∧ (n < 5000 ∨ 5000 ≤ m) := ⟨min n 5000, by omega, by omega, by omega⟩
  obtain ⟨m0, hm0, hm1, hm2⟩ := hmin
  have HM2 := Lib.hid hm2; clear hm2
  go_enter Try.func56, Try.ntmps56
  go_wp2_with fail
  clear hm0
  go_loop [3, 4] (fun v i => ∃ k m : Nat, k ≤ n ∧ i = .int .i64 k ∧ v = .int .i64 m ∧ m ≤ 10000 ∧ Hid ((n < 5000 ∨ 5000 ≤ m) ∧ ∀ j, j < k → (L.getD j []).length < 5000 ∨ 5000 ≤ m)) (fun _ i => n - (intOf i).toNat)
  case atStart => exact ⟨0, m0, Nat.zero_le _, rfl, rfl, by omega, Lib.hid ⟨HM2.out, fun j hj => absurd hj (Nat.not_lt_zero _)⟩⟩
  case round =>
    obtain ⟨k, m, hk, rfl, rfl, hm, hH⟩ := hrel
    by_cases hlt : k < n
    · by_cases hml : (m : Int) < 5000
      · have hkl : k < L.length := by rw [hn0.out]; exact hlt
        obtain ⟨a, rfl, hab, hcell⟩ := HR.out.get hkl
        have hsz := mk_size (L.getD k [])
        have hmin : ∃ y : Nat, min ((mk (L.getD k [])).size : Int) 5000 = (y : Int) ∧ y ≤ 5000 ∧ ((L.getD k []).length < 5000 ∨ 5000 ≤ y) := ⟨min (mk (L.getD k [])).size 5000, by omega, by omega, by omega⟩
        obtain ⟨y, hy, hy1, hy2⟩ := hmin
        have hH2 : Hid ((n < 5000 ∨ 5000 ≤ m + y) ∧ ∀ j, j < k + 1 → (L.getD j []).length < 5000 ∨ 5000 ≤ m + y) := by
          refine ⟨by have := hH.out.1; omega, fun j hj => ?_⟩
          rcases Nat.lt_or_ge j k with h | h
          · have := hH.out.2 j h; omega
          · obtain rfl : j = k := by omega
            omega
        generalize mk (L.getD k []) = x at *
        clear hkl hsz hy2 hH
        go_wp2_with fail
        go_round
        case rel => exact ⟨k + 1, m + y, by omega, by go_num, by go_num, by omega, hH2⟩
        case measure => simp [intOf]; omega
      · go_wp2_with fail
        go_ret
        exact ⟨false, rfl, fun h => (by cases h), rfl⟩
    · by_cases hml : (m : Int) < 5000
      · have hok : L.length < 5000 ∧ ∀ j, j < L.length → (L.getD j []).length < 5000 := by
          rw [hn0.out]
          refine ⟨by have := hH.out.1; omega, fun j hj => ?_⟩
          have := hH.out.2 j (by omega)
          omega
        have HOK := Lib.hid hok
        have hd : decide ((m : Int) < 5000) = true := decide_eq_true hml
        clear hok hH
        go_wp2_with fail
        go_ret
        exact ⟨true, rfl, fun _ => HOK.out, rfl⟩
      · have hd : decide ((m : Int) < 5000) = false := decide_eq_false hml
        go_wp2_with fail
        go_ret
        exact ⟨false, rfl, fun h => (by cases h), rfl⟩

/-- A record that came in: no list longer than a machine has room for. -/
def FewRec (R : Rec) (w : World) (e : Ending) (w' : World) : Prop := ∃ b : Bool, e = .returned (.bool b) ∧ (b = true → Small R ∧ R.name.length ≤ 5000) ∧ Below w.heap.size w w'
set_option maxHeartbeats 2000000 in
set_option maxRecDepth 100000 in
theorem few_any (R : Rec) (x : ByteArray) (k l t : Nat) (A1 : Option Addr) (n1 c1 : Nat) (A2 : Option Addr) (n2 c2 : Nat) (A3 : Option Addr) (n3 c3 : Nat) (w : World) (hR : Hid (RecAt w w.heap.size R x k l t A1 n1 A2 n2 A3 n3)) (hu : Hid (∀ k, k < R.nums.length → R.nums.getD k 0 ≤ 4294967295)) (hm1 : n1 ≤ maxLen) (hm2 : n2 ≤ maxLen) (hm3 : n3 ≤ maxLen) :
    Calls Try.prog 30 #[.agg #[.string x, .int .u16 k, .int .u16 l, .int .u32 t, .slice A1 n1 c1, .slice A2 n2 c2, .slice A3 n3 c3]] w (FewRec R w) := by
  have HR2 := Lib.hid (hR.out.box (.cells #[.string x, .int .u16 k, .int .u16 l, .int .u32 t, .slice A1 n1 c1, .slice A2 n2 c2, .slice A3 n3 c3] 49))
  have HB0 : Hid (Below w.heap.size w (w.alloc (.cells #[.string x, .int .u16 k, .int .u16 l, .int .u32 t, .slice A1 n1 c1, .slice A2 n2 c2, .slice A3 n3 c3] 49))) := (Below.refl _ _).alloc (Nat.le_refl _) _
  have hxl := Lib.hid (show x.size = R.name.length by rw [Lib.size_eq, hR.out.name])
  have HM1 := Lib.hid hm1
  have HM3 := Lib.hid hm3
  unfold maxLen at hm1 hm2 hm3
  go_enter Try.func30, Try.ntmps30
  go_wp2_with fail
  refine (fewTexts_any A1 c1 n1 R.names _ HR2.out.rd1 (Lib.hid HR2.out.len1) HM1.out).mono ?_
  rintro e w' ⟨b1, rfl, hb1, rfl⟩
  have HB1 := Lib.hid hb1
  clear hb1
  cases b1 with
  | false =>
    go_wp2_with fail
    go_ret
    exact ⟨false, rfl, fun h => (by cases h), HB0.out⟩
  | true =>
    go_wp2_with fail
    refine (fewTexts_any A3 c3 n3 R.texts _ HR2.out.rd3 (Lib.hid HR2.out.len3) HM3.out).mono ?_
    rintro e w' ⟨b3, rfl, hb3, rfl⟩
    have HB3 := Lib.hid hb3
    clear hb3
    cases b3 with
    | false =>
      go_wp2_with fail
      go_ret
      exact ⟨false, rfl, fun h => (by cases h), HB0.out⟩
    | true =>
      by_cases h2 : (n2 : Int) ≤ 5000
      · by_cases hx : (x.size : Int) ≤ 5000
        · have hok : Small R ∧ R.name.length ≤ 5000 := by
            have h1 := HB1.out (by trivial)
            have h3 := HB3.out (by trivial)
            have hl := hxl.out
            have hn2 := HR2.out.len2
            exact ⟨⟨by omega, by omega, fun k hk => by have := h1.2 k hk; omega, by omega, hu.out, by omega, fun k hk => by have := h3.2 k hk; omega⟩, by omega⟩
          have HOK := Lib.hid hok
          have hd : decide ((x.size : Int) ≤ 5000) = true := decide_eq_true hx
          clear hok
          go_wp2_with fail
          go_ret
          exact ⟨true, rfl, fun _ => HOK.out, HB0.out⟩
        · have hd : decide ((x.size : Int) ≤ 5000) = false := decide_eq_false hx
          go_wp2_with fail
          go_ret
          exact ⟨false, rfl, fun h => (by cases h), HB0.out⟩
      · have hd : decide ((n2 : Int) ≤ 5000) = false := decide_eq_false h2
        go_wp2_with fail
        go_ret
        exact ⟨false, rfl, fun h => (by cases h), HB0.out⟩
end Go.Proofs.Ytihkmdojakalbaa
