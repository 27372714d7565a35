/- Base64url without padding, over lists of bytes: the signs of bytes, the bytes of signs, and both gathered bit by bit. No condition. -/
import Derived.Lib.Strings
import Derived.Lib.IndexLaws
namespace Go.Proofs.Ytfmgnccgdffocaa.B64
open Go

/-- The signs, each at the place of its number. -/
def sgL : List UInt8 := [65, 66, 67, 68, 69, 70, 71, 72, 73, 74, 75, 76, 77, 78, 79, 80, 81, 82, 83, 84, 85, 86, 87, 88, 89, 90, 97, 98, 99, 100, 101, 102, 103, 104, 105, 106, 107, 108, 109, 110, 111, 112, 113, 114, 115, 116, 117, 118, 119, 120, 121, 122, 48, 49, 50, 51, 52, 53, 54, 55, 56, 57, 45, 95]
def sg (n : Nat) : UInt8 := sgL.getD n 0
/-- What a sign stands for; -1: it is none. -/
def num (c : UInt8) : Int := Lib.indexByte sgL c

theorem num_sg {n : Nat} (h : n < 64) : num (sg n) = n := by
  have := List.all_eq_true.1 (show ((List.range 64).all fun n => num (sg n) == (n : Int)) = true by decide +kernel) n (List.mem_range.2 h)
  exact eq_of_beq this
theorem num_yes {c : UInt8} (h : 0 ≤ num c) : (num c).toNat < 64 ∧ sg (num c).toNat = c := by
  obtain ⟨o, ho⟩ := Int.eq_ofNat_of_zero_le h
  have h1 := (Lib.indexByte_some (l := sgL) (c := c) (o := o) ho).1
  rw [ho, Int.toNat_natCast]
  have hl : o < sgL.length := by
    rcases Nat.lt_or_ge o sgL.length with h | h
    · exact h
    · rw [List.getElem?_eq_none h] at h1; cases h1
  refine ⟨hl, ?_⟩
  unfold sg
  rw [List.getD_eq_getElem?_getD, h1]
  rfl
theorem num_ge (c : UInt8) : -1 ≤ num c := Lib.indexByte_ge _ _
theorem num_lt (c : UInt8) : num c < 64 := by
  by_cases h : 0 ≤ num c
  · have := (num_yes h).1; omega
  · omega
theorem sg_ne {c : UInt8} {n : Nat} (h : num c ≠ n) (hn : n < 64) : sg n ≠ c := fun e => h (by rw [← e, num_sg hn])

/-- The signs of bytes. -/
def enc : List UInt8 → List UInt8
  | a :: b :: c :: r =>
    sg ((a.toNat * 65536 + b.toNat * 256 + c.toNat) / 262144) :: sg ((a.toNat * 65536 + b.toNat * 256 + c.toNat) / 4096 % 64) ::
      sg ((a.toNat * 65536 + b.toNat * 256 + c.toNat) / 64 % 64) :: sg ((a.toNat * 65536 + b.toNat * 256 + c.toNat) % 64) :: enc r
  | [a, b] => [sg ((a.toNat * 65536 + b.toNat * 256) / 262144), sg ((a.toNat * 65536 + b.toNat * 256) / 4096 % 64), sg ((a.toNat * 65536 + b.toNat * 256) / 64 % 64)]
  | [a] => [sg (a.toNat * 65536 / 262144), sg (a.toNat * 65536 / 4096 % 64)]
  | [] => []

/-- What is still to come, with c bits held in h. -/
def flow (h c : Nat) (l : List UInt8) : List UInt8 :=
  if 6 ≤ c then sg (h / 2 ^ (c - 6) % 64) :: flow h (c - 6) l
  else match l with
    | [] => if c = 0 then [] else [sg (h * 2 ^ (6 - c) % 4294967296 % 64)]
    | x :: r => flow ((h * 256 + x.toNat) % 4294967296) (c + 8) r
  termination_by (l.length, c)

theorem flow_out {h c : Nat} {l : List UInt8} (hc : 6 ≤ c) : flow h c l = sg (h / 2 ^ (c - 6) % 64) :: flow h (c - 6) l := by
  rw [flow.eq_def, if_pos hc]
theorem flow_in {h c : Nat} {x : UInt8} {r : List UInt8} (hc : c < 6) : flow h c (x :: r) = flow ((h * 256 + x.toNat) % 4294967296) (c + 8) r := by
  rw [flow.eq_def, if_neg (by omega)]
theorem flow_nil {h c : Nat} (hc : c < 6) : flow h c [] = if c = 0 then [] else [sg (h * 2 ^ (6 - c) % 4294967296 % 64)] := by
  rw [flow.eq_def, if_neg (by omega)]

theorem sgc {m n : Nat} {l k : List UInt8} (h : m = n) (hl : l = k) : sg m :: l = sg n :: k := by rw [h, hl]
theorem flow_enc : ∀ (l : List UInt8) (h : Nat), flow h 0 l = enc l
  | [], h => by rw [flow_nil (by omega), if_pos rfl]; rfl
  | [a], h => by
    have ha := a.toNat_lt
    rw [flow_in (by omega), flow_out (by omega), flow_nil (by omega), if_neg (by omega)]
    refine sgc ?_ (sgc ?_ rfl)
    · show (h * 256 + a.toNat) % 4294967296 / 4 % 64 = _
      omega
    · show ((h * 256 + a.toNat) % 4294967296 * 16) % 4294967296 % 64 = _
      omega
  | [a, b], h => by
    have ha := a.toNat_lt
    have hb := b.toNat_lt
    rw [flow_in (by omega), flow_out (by omega), flow_in (by omega), flow_out (by omega), flow_nil (by omega), if_neg (by omega)]
    refine sgc ?_ (sgc ?_ (sgc ?_ rfl))
    · show (h * 256 + a.toNat) % 4294967296 / 4 % 64 = _
      omega
    · show ((h * 256 + a.toNat) % 4294967296 * 256 + b.toNat) % 4294967296 / 16 % 64 = _
      omega
    · show (((h * 256 + a.toNat) % 4294967296 * 256 + b.toNat) % 4294967296 * 4) % 4294967296 % 64 = _
      omega
  | a :: b :: c :: r, h => by
    have ha := a.toNat_lt
    have hb := b.toNat_lt
    have hc := c.toNat_lt
    rw [flow_in (by omega), flow_out (by omega), flow_in (by omega), flow_out (by omega), flow_in (by omega), flow_out (by omega), flow_out (by omega)]
    refine sgc ?_ (sgc ?_ (sgc ?_ (sgc ?_ (flow_enc r _))))
    · show (h * 256 + a.toNat) % 4294967296 / 4 % 64 = _
      omega
    · show ((h * 256 + a.toNat) % 4294967296 * 256 + b.toNat) % 4294967296 / 16 % 64 = _
      omega
    · show (((h * 256 + a.toNat) % 4294967296 * 256 + b.toNat) % 4294967296 * 256 + c.toNat) % 4294967296 / 64 % 64 = _
      omega
    · show (((h * 256 + a.toNat) % 4294967296 * 256 + b.toNat) % 4294967296 * 256 + c.toNat) % 4294967296 / 1 % 64 = _
      omega

/-- The bytes of signs, gathered bit by bit: c bits are held in h. -/
def dflow : Nat → Nat → List UInt8 → Option (List UInt8)
  | h, c, [] => if 6 ≤ c ∨ h % 2 ^ c ≠ 0 then none else some []
  | h, c, x :: r => if num x < 0 then none
    else if 8 ≤ c + 6 then (dflow ((h * 64 + (num x).toNat) % 4294967296) (c - 2) r).map (UInt8.ofNat ((h * 64 + (num x).toNat) % 4294967296 / 2 ^ (c - 2)) :: ·)
    else dflow ((h * 64 + (num x).toNat) % 4294967296) (c + 6) r
/-- The bytes whose signs they are. -/
def dec (t : List UInt8) : Option (List UInt8) := dflow 0 0 t

theorem dflow_no {h c : Nat} {x : UInt8} {r : List UInt8} (hx : num x < 0) : dflow h c (x :: r) = none := by
  rw [dflow, if_pos hx]
theorem dflow_out {h c : Nat} {x : UInt8} {r : List UInt8} (hx : 0 ≤ num x) (hc : 2 ≤ c) :
    dflow h c (x :: r) = (dflow ((h * 64 + (num x).toNat) % 4294967296) (c - 2) r).map (UInt8.ofNat ((h * 64 + (num x).toNat) % 4294967296 / 2 ^ (c - 2)) :: ·) := by
  rw [dflow, if_neg (by omega), if_pos (by omega)]
theorem dflow_in {h c : Nat} {x : UInt8} {r : List UInt8} (hx : 0 ≤ num x) (hc : c < 2) :
    dflow h c (x :: r) = dflow ((h * 64 + (num x).toNat) % 4294967296) (c + 6) r := by
  rw [dflow, if_neg (by omega), if_neg (by omega)]
theorem dflow_nil (h c : Nat) : dflow h c [] = if 6 ≤ c ∨ h % 2 ^ c ≠ 0 then none else some [] := by rw [dflow]

theorem num_sg_nn {n : Nat} (h : n < 64) : 0 ≤ num (sg n) := by rw [num_sg h]; omega
theorem num_sg_nat {n : Nat} (h : n < 64) : (num (sg n)).toNat = n := by rw [num_sg h]; rfl
theorem ofNat_eq {n : Nat} {a : UInt8} (h : n % 256 = a.toNat) : UInt8.ofNat n = a := by
  apply UInt8.toNat_inj.1
  rw [UInt8.toNat_ofNat', h]

/-- The signs of bytes are read as these. -/
theorem dflow_enc : ∀ (l : List UInt8) (h : Nat), dflow h 0 (enc l) = some l
  | [], h => by
    show dflow h 0 [] = _
    rw [dflow_nil, if_neg]
    show ¬ (6 ≤ 0 ∨ h % 1 ≠ 0)
    omega
  | [a], h => by
    have ha := a.toNat_lt
    have h1 : a.toNat * 65536 / 262144 < 64 := by omega
    have h2 : a.toNat * 65536 / 4096 % 64 < 64 := by omega
    show dflow h 0 [_, _] = _
    rw [dflow_in (num_sg_nn h1) (by omega), dflow_out (num_sg_nn h2) (by omega), num_sg_nat h1, num_sg_nat h2, dflow_nil, if_neg, Option.map_some]
    · congr 2
      apply ofNat_eq
      show (((h * 64 + a.toNat * 65536 / 262144) % 4294967296 * 64 + a.toNat * 65536 / 4096 % 64) % 4294967296 / 16) % 256 = _
      omega
    · show ¬ (6 ≤ 4 ∨ ((h * 64 + a.toNat * 65536 / 262144) % 4294967296 * 64 + a.toNat * 65536 / 4096 % 64) % 4294967296 % 16 ≠ 0)
      omega
  | [a, b], h => by
    have ha := a.toNat_lt
    have hb := b.toNat_lt
    have h1 : (a.toNat * 65536 + b.toNat * 256) / 262144 < 64 := by omega
    have h2 : (a.toNat * 65536 + b.toNat * 256) / 4096 % 64 < 64 := by omega
    have h3 : (a.toNat * 65536 + b.toNat * 256) / 64 % 64 < 64 := by omega
    show dflow h 0 [_, _, _] = _
    rw [dflow_in (num_sg_nn h1) (by omega), dflow_out (num_sg_nn h2) (by omega), dflow_out (num_sg_nn h3) (by omega), num_sg_nat h1, num_sg_nat h2, num_sg_nat h3, dflow_nil, if_neg, Option.map_some, Option.map_some]
    · congr 2
      · apply ofNat_eq
        show (((h * 64 + (a.toNat * 65536 + b.toNat * 256) / 262144) % 4294967296 * 64 + (a.toNat * 65536 + b.toNat * 256) / 4096 % 64) % 4294967296 / 16) % 256 = _
        omega
      · congr 1
        apply ofNat_eq
        show ((((h * 64 + (a.toNat * 65536 + b.toNat * 256) / 262144) % 4294967296 * 64 + (a.toNat * 65536 + b.toNat * 256) / 4096 % 64) % 4294967296 * 64 + (a.toNat * 65536 + b.toNat * 256) / 64 % 64) % 4294967296 / 4) % 256 = _
        omega
    · show ¬ (6 ≤ 2 ∨ (((h * 64 + (a.toNat * 65536 + b.toNat * 256) / 262144) % 4294967296 * 64 + (a.toNat * 65536 + b.toNat * 256) / 4096 % 64) % 4294967296 * 64 + (a.toNat * 65536 + b.toNat * 256) / 64 % 64) % 4294967296 % 4 ≠ 0)
      omega
  | a :: b :: c :: r, h => by
    have ha := a.toNat_lt
    have hb := b.toNat_lt
    have hc := c.toNat_lt
    have h1 : (a.toNat * 65536 + b.toNat * 256 + c.toNat) / 262144 < 64 := by omega
    have h2 : (a.toNat * 65536 + b.toNat * 256 + c.toNat) / 4096 % 64 < 64 := by omega
    have h3 : (a.toNat * 65536 + b.toNat * 256 + c.toNat) / 64 % 64 < 64 := by omega
    have h4 : (a.toNat * 65536 + b.toNat * 256 + c.toNat) % 64 < 64 := by omega
    show dflow h 0 (_ :: _ :: _ :: _ :: enc r) = _
    rw [dflow_in (num_sg_nn h1) (by omega), dflow_out (num_sg_nn h2) (by omega), dflow_out (num_sg_nn h3) (by omega), dflow_out (num_sg_nn h4) (by omega), num_sg_nat h1, num_sg_nat h2, num_sg_nat h3, num_sg_nat h4]
    show Option.map _ (Option.map _ (Option.map _ (dflow _ 0 (enc r)))) = _
    rw [dflow_enc r, Option.map_some, Option.map_some, Option.map_some]
    congr 2
    · apply ofNat_eq
      show (((h * 64 + (a.toNat * 65536 + b.toNat * 256 + c.toNat) / 262144) % 4294967296 * 64 + (a.toNat * 65536 + b.toNat * 256 + c.toNat) / 4096 % 64) % 4294967296 / 16) % 256 = _
      omega
    · congr 1
      · apply ofNat_eq
        show ((((h * 64 + (a.toNat * 65536 + b.toNat * 256 + c.toNat) / 262144) % 4294967296 * 64 + (a.toNat * 65536 + b.toNat * 256 + c.toNat) / 4096 % 64) % 4294967296 * 64 + (a.toNat * 65536 + b.toNat * 256 + c.toNat) / 64 % 64) % 4294967296 / 4) % 256 = _
        omega
      · congr 1
        apply ofNat_eq
        show (((((h * 64 + (a.toNat * 65536 + b.toNat * 256 + c.toNat) / 262144) % 4294967296 * 64 + (a.toNat * 65536 + b.toNat * 256 + c.toNat) / 4096 % 64) % 4294967296 * 64 + (a.toNat * 65536 + b.toNat * 256 + c.toNat) / 64 % 64) % 4294967296 * 64 + (a.toNat * 65536 + b.toNat * 256 + c.toNat) % 64) % 4294967296 / 1) % 256 = _
        omega

theorem sg_back {x : UInt8} {n : Nat} (hx : 0 ≤ num x) (h : n = (num x).toNat) : sg n = x := by rw [h]; exact (num_yes hx).2

set_option maxHeartbeats 2000000 in
/-- What is read was written with just these signs. -/
theorem enc_dflow : ∀ (t : List UInt8) (h : Nat) (b : List UInt8), dflow h 0 t = some b → enc b = t
  | [], h, b, hb => by
    rw [dflow_nil] at hb
    split at hb
    · cases hb
    · cases hb; rfl
  | [x], h, b, hb => by
    by_cases hx : num x < 0
    · rw [dflow_no hx] at hb; cases hb
    · rw [dflow_in (by omega) (by omega), dflow_nil, if_pos (Or.inl (by omega))] at hb
      cases hb
  | [x, y], h, b, hb => by
    by_cases hx : num x < 0
    · rw [dflow_no hx] at hb; cases hb
    rw [dflow_in (by omega) (by omega)] at hb
    by_cases hy : num y < 0
    · rw [dflow_no hy] at hb; cases hb
    have ux := (num_yes (c := x) (by omega)).1
    have uy := (num_yes (c := y) (by omega)).1
    rw [dflow_out (by omega) (by omega), dflow_nil] at hb
    split at hb
    · cases hb
    · rename_i hno
      rw [Option.map_some] at hb
      cases hb
      have hno' : ¬ (6 ≤ 4 ∨ ((h * 64 + (num x).toNat) % 4294967296 * 64 + (num y).toNat) % 4294967296 % 16 ≠ 0) := hno
      have hA : (UInt8.ofNat (((h * 64 + (num x).toNat) % 4294967296 * 64 + (num y).toNat) % 4294967296 / 2 ^ (0 + 6 - 2))).toNat = ((h * 64 + (num x).toNat) % 4294967296 * 64 + (num y).toNat) % 4294967296 / 16 % 256 := UInt8.toNat_ofNat'
      show [sg _, sg _] = _
      rw [hA, sg_back (x := x) (by omega) (by omega), sg_back (x := y) (by omega) (by omega)]
  | [x, y, z], h, b, hb => by
    by_cases hx : num x < 0
    · rw [dflow_no hx] at hb; cases hb
    rw [dflow_in (by omega) (by omega)] at hb
    by_cases hy : num y < 0
    · rw [dflow_no hy] at hb; cases hb
    rw [dflow_out (by omega) (by omega)] at hb
    by_cases hz : num z < 0
    · rw [dflow_no hz] at hb; cases hb
    have ux := (num_yes (c := x) (by omega)).1
    have uy := (num_yes (c := y) (by omega)).1
    have uz := (num_yes (c := z) (by omega)).1
    rw [dflow_out (by omega) (by omega), dflow_nil] at hb
    split at hb
    · cases hb
    · rename_i hno
      rw [Option.map_some, Option.map_some] at hb
      cases hb
      have hno' : ¬ (6 ≤ 2 ∨ (((h * 64 + (num x).toNat) % 4294967296 * 64 + (num y).toNat) % 4294967296 * 64 + (num z).toNat) % 4294967296 % 4 ≠ 0) := hno
      have hA : (UInt8.ofNat (((h * 64 + (num x).toNat) % 4294967296 * 64 + (num y).toNat) % 4294967296 / 2 ^ (0 + 6 - 2))).toNat = ((h * 64 + (num x).toNat) % 4294967296 * 64 + (num y).toNat) % 4294967296 / 16 % 256 := UInt8.toNat_ofNat'
      have hB : (UInt8.ofNat ((((h * 64 + (num x).toNat) % 4294967296 * 64 + (num y).toNat) % 4294967296 * 64 + (num z).toNat) % 4294967296 / 2 ^ (0 + 6 - 2 - 2))).toNat = (((h * 64 + (num x).toNat) % 4294967296 * 64 + (num y).toNat) % 4294967296 * 64 + (num z).toNat) % 4294967296 / 4 % 256 := UInt8.toNat_ofNat'
      show [sg _, sg _, sg _] = _
      rw [hA, hB, sg_back (x := x) (by omega) (by omega), sg_back (x := y) (by omega) (by omega), sg_back (x := z) (by omega) (by omega)]
  | x :: y :: z :: u :: r, h, b, hb => by
    by_cases hx : num x < 0
    · rw [dflow_no hx] at hb; cases hb
    rw [dflow_in (by omega) (by omega)] at hb
    by_cases hy : num y < 0
    · rw [dflow_no hy] at hb; cases hb
    rw [dflow_out (by omega) (by omega)] at hb
    by_cases hz : num z < 0
    · rw [dflow_no hz] at hb; cases hb
    rw [dflow_out (by omega) (by omega)] at hb
    by_cases hu : num u < 0
    · rw [dflow_no hu] at hb; cases hb
    rw [dflow_out (by omega) (by omega)] at hb
    have ux := (num_yes (c := x) (by omega)).1
    have uy := (num_yes (c := y) (by omega)).1
    have uz := (num_yes (c := z) (by omega)).1
    have uu := (num_yes (c := u) (by omega)).1
    cases hd : dflow (((((h * 64 + (num x).toNat) % 4294967296 * 64 + (num y).toNat) % 4294967296 * 64 + (num z).toNat) % 4294967296 * 64 + (num u).toNat) % 4294967296) 0 r with
    | none =>
      rw [show (0 + 6 - 2 - 2 - 2 : Nat) = 0 from rfl, hd] at hb
      cases hb
    | some b' =>
      have ih := enc_dflow r _ b' hd
      rw [show (0 + 6 - 2 - 2 - 2 : Nat) = 0 from rfl, hd, Option.map_some, Option.map_some, Option.map_some] at hb
      cases hb
      have hA : (UInt8.ofNat (((h * 64 + (num x).toNat) % 4294967296 * 64 + (num y).toNat) % 4294967296 / 2 ^ (0 + 6 - 2))).toNat = ((h * 64 + (num x).toNat) % 4294967296 * 64 + (num y).toNat) % 4294967296 / 16 % 256 := UInt8.toNat_ofNat'
      have hB : (UInt8.ofNat ((((h * 64 + (num x).toNat) % 4294967296 * 64 + (num y).toNat) % 4294967296 * 64 + (num z).toNat) % 4294967296 / 2 ^ (0 + 6 - 2 - 2))).toNat = (((h * 64 + (num x).toNat) % 4294967296 * 64 + (num y).toNat) % 4294967296 * 64 + (num z).toNat) % 4294967296 / 4 % 256 := UInt8.toNat_ofNat'
      have hC : (UInt8.ofNat (((((h * 64 + (num x).toNat) % 4294967296 * 64 + (num y).toNat) % 4294967296 * 64 + (num z).toNat) % 4294967296 * 64 + (num u).toNat) % 4294967296 / 2 ^ 0)).toNat = ((((h * 64 + (num x).toNat) % 4294967296 * 64 + (num y).toNat) % 4294967296 * 64 + (num z).toNat) % 4294967296 * 64 + (num u).toNat) % 4294967296 / 1 % 256 := UInt8.toNat_ofNat'
      show sg _ :: sg _ :: sg _ :: sg _ :: enc b' = _
      rw [hA, hB, hC, ih, sg_back (x := x) (by omega) (by omega), sg_back (x := y) (by omega) (by omega), sg_back (x := z) (by omega) (by omega), sg_back (x := u) (by omega) (by omega)]

theorem dec_enc (l : List UInt8) : dec (enc l) = some l := dflow_enc l 0
theorem enc_dec {t b : List UInt8} (h : dec t = some b) : enc b = t := enc_dflow t 0 b h
theorem enc_inj {a b : List UInt8} (h : enc a = enc b) : a = b := by
  have h1 := dec_enc a
  rw [h, dec_enc b] at h1
  exact (Option.some.inj h1).symm

theorem enc_len : ∀ l : List UInt8, (enc l).length = (l.length * 8 + 5) / 6
  | [] => rfl
  | [_] => by simp [enc]
  | [_, _] => by simp [enc]
  | _ :: _ :: _ :: r => by
    show (enc r).length + 1 + 1 + 1 + 1 = ((r.length + 1 + 1 + 1) * 8 + 5) / 6
    rw [enc_len r]
    omega
theorem dec_len {t b : List UInt8} (h : dec t = some b) : b.length ≤ t.length := by
  rw [← enc_dec h, enc_len]
  omega
theorem enc_cat : ∀ (l m : List UInt8), l.length % 3 = 0 → enc (l ++ m) = enc l ++ enc m
  | [], m, _ => rfl
  | [_], m, h => by simp at h
  | [_, _], m, h => by simp at h
  | a :: b :: c :: r, m, h => by
    show _ :: _ :: _ :: _ :: enc (r ++ m) = _ :: _ :: _ :: _ :: (enc r ++ enc m)
    rw [enc_cat r m (by simp only [List.length_cons] at h; omega)]
end Go.Proofs.Ytfmgnccgdffocaa.B64
