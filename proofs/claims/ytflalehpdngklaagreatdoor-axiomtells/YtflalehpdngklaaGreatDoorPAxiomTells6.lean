/- Walks and plain facts that the proof of the statement AxiomTells uses, joined: AxiH OrdP LesA LesB AxhA OrdAB AxhB AxhC AxhD AxhF. Conditions: each theorem's own. -/
import Derived.BigQuiet
import Derived.Deep.QuietTactic
import Derived.Deep.RegionHeld3
import Derived.Deep.CutRange
import Derived.OneCell
import Derived.Lib.BufferWrite
import Derived.Test.YtflalehpdngklaaGreatDoorPAxiomTells0
import Derived.Test.YtflalehpdngklaaGreatDoorPAxiomTells1
import Derived.Test.YtflalehpdngklaaGreatDoorPAxiomTells2
import Derived.Test.YtflalehpdngklaaGreatDoorPAxiomTells3
import Derived.Test.YtflalehpdngklaaGreatDoorPAxiomTells4
import Derived.Test.YtflalehpdngklaaGreatDoorPAxiomTells5
namespace Go.Proofs.YtflalehpdngklaaGreatDoor
set_option maxRecDepth 100000
open Go.RowKit

/-- Where one stands in a row, from a place on; -1: nowhere. -/
def placeF : List Int → Int → Nat → Int
  | [], _, _ => -1
  | a :: r, i, k => if a = i then (k : Int) else placeF r i (k + 1)
def placeI (l : List Int) (i : Int) : Int := placeF l i 0
theorem placeF_neg (i : Int) : ∀ (l : List Int) (k : Nat), placeF l i k < 0 ↔ i ∉ l
  | [], k => by simp [placeF]
  | a :: r, k => by
    unfold placeF
    by_cases h : a = i
    · rw [if_pos h]
      constructor
      · intro h2; omega
      · intro h2; exact absurd (by rw [h]; exact List.mem_cons_self) h2
    · rw [if_neg h, placeF_neg i r (k + 1), List.mem_cons]
      constructor
      · intro h2 h3
        rcases h3 with h3 | h3
        · exact h h3.symm
        · exact h2 h3
      · intro h2 h3; exact h2 (.inr h3)
theorem placeF_step {l : List Int} {i : Int} {k : Nat} (h : k < l.length) : placeF (l.drop k) i k = if l[k] = i then (k : Int) else placeF (l.drop (k + 1)) i (k + 1) := by
  rw [List.drop_eq_getElem_cons h]; rfl
theorem rplace_any (va : Value) (l : List Int) (i : Int) (w : World) (hl : Ints w va l) :
    Calls Tryz.prog 105 #[va, .int .i64 i] w fun e w' => e = .returned (.int .i64 (placeI l i)) ∧ w = w' := by
  have HL := Lib.hid hl
  obtain ⟨ao, cap, rfl, hal⟩ := hl.form
  have HR : Hid (placeI l i = placeF (l.drop 0) i 0) := Lib.hid (by rw [List.drop_zero]; rfl)
  generalize placeI l i = z at *
  clear hl
  go_enter Tryz.func105, Tryz.ntmps105
  go_wp2_with fail
  go_loopw [5] (fun v wr => ∃ k : Nat, k ≤ l.length ∧ v = .int .i64 k ∧ Hid (z = placeF (l.drop k) i k) ∧ w = wr) (fun v _ => l.length - (intOf v).toNat)
  case atStart => exact ⟨0, by omega, rfl, HR, rfl⟩
  case round =>
    clear HR
    obtain ⟨k, hk, rfl, HP, rfl⟩ := hrel
    by_cases hlt : k < l.length
    · have hki : (k : Int) < (l.length : Int) := by omega
      obtain ⟨g, o, hao, e0⟩ := HL.out.at hlt
      cases hao
      have HN := Lib.hid (HP.out.trans (placeF_step hlt))
      clear HP
      generalize l[k] = x at *
      by_cases hx : x = i
      · have HV : Hid ((k : Int) = z) := Lib.hid (by rw [HN.out, if_pos hx])
        subst hx
        clear HN
        go_wp2_with fail
        go_ret
        exact ⟨congrArg (fun q => Ending.returned (Value.int .i64 q)) HV.out, rfl⟩
      · have HV : Hid (z = placeF (l.drop (k + 1)) i (k + 1)) := Lib.hid (by rw [HN.out, if_neg hx])
        clear HN
        go_wp2_with fail
        go_roundw
        case rel => exact ⟨k + 1, by omega, by go_num, HV, by first | rfl | trivial⟩
        case measure => simp [intOf]; omega
    · have hk2 : k = l.length := by omega
      subst hk2
      have HV : Hid (z = -1) := Lib.hid (by rw [HP.out, List.drop_length]; rfl)
      clear HP
      go_wp2_with fail
      go_ret
      exact ⟨congrArg (fun q => Ending.returned (Value.int .i64 q)) HV.out.symm, rfl⟩
/-- Are all numbers below n there, and no more of them? -/
def rowTo (l : List Int) (k : Nat) : Bool := (List.range k).all fun i => decide ((i : Int) ∈ l)
theorem rowTo_succ (l : List Int) (k : Nat) : rowTo l (k + 1) = (rowTo l k && decide ((k : Int) ∈ l)) := by
  unfold rowTo; rw [List.range_succ, List.all_append]; simp
theorem rowTo_no {l : List Int} {k n : Nat} (h : k < n) (hn : ¬ (k : Int) ∈ l) : rowTo l n = false := by
  unfold rowTo
  rw [List.all_eq_false]
  exact ⟨k, List.mem_range.2 h, by simpa using hn⟩
def rowRef12 (n : Nat) (l : List Int) : Bool := rowTo l n && decide ((l.length : Int) = n)
theorem rrow12_any (n : Nat) (va : Value) (l : List Int) (w : World) (hn : n ≤ 1000) (hl : Ints w va l) :
    Calls Tryz.prog 84 #[.int .i64 n, va] w fun e w' => e = .returned (.bool (rowRef12 n l)) ∧ w = w' := by
  have CP := Lib.hid (fun i => rplace_any va l i w hl)
  obtain ⟨ao, cap, rfl, hal⟩ := hl.form
  have HR : Hid (rowRef12 n l = (rowTo l n && decide ((l.length : Int) = n))) := Lib.hid rfl
  generalize rowRef12 n l = z at *
  clear hl
  go_enter Tryz.func84, Tryz.ntmps84
  go_wp2_with fail
  go_loopw [5] (fun v wr => ∃ k : Nat, k ≤ n ∧ v = .int .i64 k ∧ Hid (rowTo l k = true) ∧ w = wr) (fun v _ => n - (intOf v).toNat)
  case atStart => exact ⟨0, by omega, rfl, Lib.hid rfl, rfl⟩
  case round =>
    obtain ⟨k, hk, rfl, HP, rfl⟩ := hrel
    by_cases hlt : k < n
    · have hki : (k : Int) < (n : Int) := by omega
      have CK := Lib.hid (CP.out (k : Int))
      by_cases hm : (k : Int) ∈ l
      · have hz : ¬ placeI l (k : Int) < 0 := fun h => (placeF_neg _ l 0).1 h hm
        have HV : Hid (rowTo l (k + 1) = true) := Lib.hid (by rw [rowTo_succ, HP.out, decide_eq_true hm]; rfl)
        clear HP HR CP hm
        generalize placeI l (k : Int) = p at *
        go_wp2_with fail
        refine (CK.out).mono ?_
        rintro e w1 ⟨rfl, rfl⟩
        go_wp2_with fail
        go_roundw
        case rel => exact ⟨k + 1, by omega, by go_num, HV, by first | rfl | trivial⟩
        case measure => simp [intOf]; omega
      · have hz : placeI l (k : Int) < 0 := (placeF_neg _ l 0).2 hm
        have HV : Hid (false = z) := Lib.hid (by rw [HR.out, rowTo_no hlt hm]; rfl)
        clear HP HR CP hm
        generalize placeI l (k : Int) = p at *
        go_wp2_with fail
        refine (CK.out).mono ?_
        rintro e w1 ⟨rfl, rfl⟩
        go_wp2_with fail
        go_ret
        exact ⟨ret_b HV.out, rfl⟩
    · have hk2 : k = n := by omega
      subst hk2
      by_cases hq : (l.length : Int) = (k : Int)
      · have HV : Hid (true = z) := Lib.hid (by rw [HR.out, HP.out, decide_eq_true hq]; rfl)
        clear HP HR CP
        go_wp2_with fail
        go_ret
        exact ⟨ret_b HV.out, rfl⟩
      · have HV : Hid (false = z) := Lib.hid (by rw [HR.out, HP.out, decide_eq_false hq]; rfl)
        clear HP HR CP
        go_wp2_with fail
        go_ret
        exact ⟨ret_b ((beq_eq_false_iff_ne.2 hq).trans HV.out), rfl⟩
/-- Where the length is n, all numbers below n are there just where none but those are: counted. -/
theorem count_full : ∀ (n : Nat) (l : List Int), l.length = n → rowTo l n = true → ∀ a ∈ l, 0 ≤ a ∧ a < (n : Int)
  | 0, [], _, _, a, h => by cases h
  | n + 1, l, hl, hr, a, ha => by
    rw [rowTo_succ, Bool.and_eq_true, decide_eq_true_eq] at hr
    obtain ⟨h1, h2⟩ := hr
    have hle : (l.erase (n : Int)).length = n := by rw [List.length_erase_of_mem h2, hl]; rfl
    have hr2 : rowTo (l.erase (n : Int)) n = true := by
      unfold rowTo at h1 ⊢
      rw [List.all_eq_true] at h1 ⊢
      intro i hi
      have hin := List.mem_range.1 hi
      have h3 := h1 i hi
      rw [decide_eq_true_eq] at h3 ⊢
      exact (List.mem_erase_of_ne (by omega)).2 h3
    have ih := count_full n (l.erase (n : Int)) hle hr2
    by_cases hn : a = (n : Int)
    · omega
    · have := ih a ((List.mem_erase_of_ne hn).2 ha)
      omega
theorem row_same (n : Nat) (hn : n ≤ 64) (l : List Int) : rowOkA (n : Int) l = rowRef12 n l := by
  unfold rowOkA rowRef12
  rw [Bool.and_comm]
  by_cases hl : (l.length : Int) = n
  · rw [decide_eq_true hl, Bool.and_true, Bool.and_true, Bool.eq_iff_iff, decide_eq_true_eq, setL_eq, ← below_eq]
    have hm : min 64 ((n : Int)).toNat = n := by omega
    rw [hm]
    have hb : ∀ (m : List Int) (i : Nat), i < 64 → ((ofL m).testBit i = true ↔ (i : Int) ∈ m) := fun m i hi => by
      rw [testBit_ofL, decide_eq_true hi, Bool.true_and]
      unfold hasL
      rw [List.any_eq_true]
      constructor
      · rintro ⟨x, hx, he⟩
        have : x = (i : Int) := by simpa using he
        rw [← this]; exact hx
      · intro h; exact ⟨_, h, by simp⟩
    have hr : ∀ i : Nat, ((i : Int) ∈ (List.range n).map Int.ofNat) ↔ i < n := fun i => by
      rw [List.mem_map]
      constructor
      · rintro ⟨q, hq, e⟩
        have := List.mem_range.1 hq
        have e2 : (q : Int) = (i : Int) := e
        omega
      · intro h; exact ⟨i, List.mem_range.2 h, rfl⟩
    constructor
    · intro e
      unfold rowTo
      rw [List.all_eq_true]
      intro i hi
      have hin := List.mem_range.1 hi
      rw [decide_eq_true_eq]
      refine (hb l i (by omega)).1 ?_
      rw [e]
      exact (hb _ i (by omega)).2 ((hr i).2 hin)
    · intro h
      refine set_ext (isSet_ofL l) (isSet_ofL _) fun i hi => ?_
      rw [Bool.eq_iff_iff, hb l i hi, hb _ i hi, hr i]
      constructor
      · intro hm
        have := count_full n l (by omega) h _ hm
        omega
      · intro hin
        unfold rowTo at h
        have := List.all_eq_true.1 h i (List.mem_range.2 hin)
        simpa using this
  · rw [decide_eq_false hl, Bool.and_false, Bool.and_false]
end Go.Proofs.YtflalehpdngklaaGreatDoor

namespace Go.Proofs.YtflalehpdngklaaGreatDoor
set_option maxRecDepth 100000
open Go.RowKit

set_option maxHeartbeats 4000000 in
theorem rtime_any (va : Value) (h : List TxnV) (a b : Nat) (w : World) (hT : Txns w va h) (ha : a < h.length) (hb : b < h.length) :
    Calls Tryz.prog 159 #[va, .int .i64 a, .int .i64 b] w fun e w' => e = .returned (.bool (decide (h[a].c < h[b].b))) ∧ Below w.heap.size w w' := by
  obtain ⟨ao, cap, rfl, hal⟩ := hT.form
  obtain ⟨g, o, hao, c0, c1, c2, c3⟩ := hT.at ha
  cases hao
  obtain ⟨g', o', hao, d0, d1, d2, d3⟩ := hT.at hb
  cases hao
  have hai : (a : Int) < (h.length : Int) := by omega
  have hbi : (b : Int) < (h.length : Int) := by omega
  generalize h[a].c = x at *
  generalize h[b].b = y at *
  clear c0 c1 c3 d0 d2 d3 hT
  go_enter Tryz.func159, Tryz.ntmps159
  go_wp2_with fail
  go_quiet (fail)
  go_wp2_with fail
  go_ret
  exact ⟨rfl, below_drewN (Below.refl _ _) _⟩
set_option maxHeartbeats 4000000 in
theorem rsession_any (va : Value) (h : List TxnV) (a b : Nat) (w : World) (hT : Txns w va h) (ha : a < h.length) (hb : b < h.length) :
    Calls Tryz.prog 158 #[va, .int .i64 a, .int .i64 b] w fun e w' => e = .returned (.bool (decide (a < b) && decide (h[a].s = h[b].s))) ∧ Below w.heap.size w w' := by
  obtain ⟨ao, cap, rfl, hal⟩ := hT.form
  obtain ⟨g, o, hao, c0, c1, c2, c3⟩ := hT.at ha
  cases hao
  obtain ⟨g', o', hao, d0, d1, d2, d3⟩ := hT.at hb
  cases hao
  have hai : (a : Int) < (h.length : Int) := by omega
  have hbi : (b : Int) < (h.length : Int) := by omega
  generalize h[a].s = x at *
  generalize h[b].s = y at *
  clear c1 c2 c3 d1 d2 d3 hT
  by_cases hab : a < b
  · have H : Hid ((decide (a < b) && decide (x = y)) = decide (x = y)) := Lib.hid (by rw [decide_eq_true hab]; rfl)
    have habi : (a : Int) < (b : Int) := by omega
    rw [H.out]
    clear hab H
    go_enter Tryz.func158, Tryz.ntmps158
    go_wp2_with fail
    go_quiet (fail)
    go_wp2_with fail
    go_ret
    exact ⟨rfl, below_drewN (Below.refl _ _) _⟩
  · have H : Hid ((decide (a < b) && decide (x = y)) = false) := Lib.hid (by rw [decide_eq_false hab]; rfl)
    have habi : ¬ (a : Int) < (b : Int) := by omega
    have hd : decide ((a : Int) < (b : Int)) = false := decide_eq_false habi
    have hle : (b : Int) ≤ (a : Int) := by omega
    have hdn : decide (a < b) = false := decide_eq_false hab
    rw [H.out]
    clear H
    go_enter Tryz.func158, Tryz.ntmps158
    go_wp2_with fail
    go_quiet (fail)
    go_wp2_with fail
    go_ret
    exact ⟨rfl, below_drewN (Below.refl _ _) _⟩
end Go.Proofs.YtflalehpdngklaaGreatDoor

namespace Go.Proofs.YtflalehpdngklaaGreatDoor
set_option maxRecDepth 100000
open Go.RowKit

/-- Does one come ahead of another one in a row, as the reference says it? -/
def ahR (l : List Int) (i k : Int) : Bool := decide (placeI l i < placeI l k)
theorem rahead_any (va : Value) (l : List Int) (i k : Int) (w : World) (hl : Ints w va l) :
    Calls Tryz.prog 163 #[va, .int .i64 i, .int .i64 k] w fun e w' => e = .returned (.bool (ahR l i k)) ∧ w = w' := by
  have C := Lib.hid (fun j => rplace_any va l j w hl)
  have HR : Hid (ahR l i k = decide (placeI l i < placeI l k)) := Lib.hid rfl
  obtain ⟨ao, cap, rfl, hal⟩ := hl.form
  have CI := Lib.hid (C.out i)
  have CK := Lib.hid (C.out k)
  generalize ahR l i k = z at *
  generalize placeI l i = x at *
  generalize placeI l k = y at *
  clear hl C
  go_enter Tryz.func163, Tryz.ntmps163
  go_wp2_with fail
  refine (CI.out).mono ?_
  rintro e w1 ⟨rfl, rfl⟩
  go_wp2_with fail
  refine (CK.out).mono ?_
  rintro e w1 ⟨rfl, rfl⟩
  go_wp2_with fail
  go_ret
  exact ⟨ret_b HR.out.symm, rfl⟩
/-- Must one be seen by another one, whatever else is, as the reference says it? -/
def mustR (h : List TxnV) (x : Nat) (l : List Int) (i k : Nat) : Bool := ((froR h i k || (hasT x 1 && sesP h i k)) || (hasT x 32 && timP h i k)) || (ahR l (i : Int) (k : Int) && (hasT x 16 || (hasT x 8 && rivR h i k)))
/-- Is one seen by another one, since that sees somebody else, as the reference says it? -/
def folJ (m : List Pr) (x : Nat) (l : List Int) (i k j : Int) : Bool := hasP m j k && ((hasT x 2 && hasP m i j) || (hasT x 4 && ahR l i j))
def folR (m : List Pr) (x : Nat) (l : List Int) (i k : Int) (n : Nat) : Bool := (List.range n).any fun j => folJ m x l i k (j : Int)
end Go.Proofs.YtflalehpdngklaaGreatDoor

namespace Go.Proofs.YtflalehpdngklaaGreatDoor
set_option maxRecDepth 100000
open Go.RowKit

/-- All pairs of numbers below n. -/
def gridP (n : Nat) : List Pr := (List.range n).flatMap fun i => (List.range n).map fun k => (((i : Nat) : Int), ((k : Nat) : Int))
theorem gridP_len (n : Nat) : (gridP n).length = n * n := by
  unfold gridP
  rw [List.length_flatMap]
  have : ((List.range n).map fun i => ((List.range n).map fun k => ((((i : Nat) : Int), ((k : Nat) : Int)) : Pr)).length) = (List.range n).map fun _ => n := by simp
  rw [this, List.map_const']
  have hr : ∀ n k : Nat, (List.replicate n k).sum = n * k := by
    intro n k; induction n with
    | zero => simp
    | succ n ih => rw [List.replicate_succ, List.sum_cons, ih, Nat.succ_mul]; omega
  rw [hr, List.length_range]
theorem mem_gridP {n : Nat} {p : Pr} : p ∈ gridP n ↔ ∃ i k : Nat, i < n ∧ k < n ∧ p = ((i : Int), (k : Int)) := by
  unfold gridP
  rw [List.mem_flatMap]
  constructor
  · rintro ⟨i, hi, h⟩
    obtain ⟨k, hk, e⟩ := List.mem_map.1 h
    exact ⟨i, k, List.mem_range.1 hi, List.mem_range.1 hk, e.symm⟩
  · rintro ⟨i, k, hi, hk, rfl⟩
    exact ⟨i, List.mem_range.2 hi, List.mem_map.2 ⟨k, List.mem_range.2 hk, rfl⟩⟩
/-- Each once, of numbers below n, and each is one of M. -/
def InM (n : Nat) (M : Nat → Nat → Prop) (m : List Pr) : Prop := m.Nodup ∧ ∀ p ∈ m, ∃ i k : Nat, i < n ∧ k < n ∧ p = ((i : Int), (k : Int)) ∧ M i k
theorem InM.len {n : Nat} {M : Nat → Nat → Prop} {m : List Pr} (h : InM n M m) : m.length ≤ n * n := by
  rw [← gridP_len]
  refine nodup_le m (gridP n) h.1 fun p hp => ?_
  obtain ⟨i, k, hi, hk, e, _⟩ := h.2 p hp
  exact mem_gridP.2 ⟨i, k, hi, hk, e⟩
theorem InM.put {n : Nat} {M : Nat → Nat → Prop} {m : List Pr} (h : InM n M m) {i k : Nat} (hi : i < n) (hk : k < n) (hM : M i k) : InM n M (putP m (i : Int) (k : Int)) := by
  refine ⟨putP_nodup h.1, fun p hp => ?_⟩
  rcases mem_putP.1 hp with hp | rfl
  · exact h.2 p hp
  · exact ⟨i, k, hi, hk, rfl, hM⟩
/-- What must be seen of the start, what comes ahead, as the reference says it. -/
def staR (h : List TxnV) (x : Nat) (l : List Int) (n : Nat) : Mat := fun i k => decide (i < n) && decide (k < n) && decide (i ≠ k) && mustR h x l i k
def ahdR (l : List Int) (n : Nat) : Mat := fun i k => decide (i < n) && decide (k < n) && ahR l (i : Int) (k : Int)
theorem ahdR_iff {l : List Int} {n i k : Nat} : ahdR l n i k = true ↔ i < n ∧ k < n ∧ ahR l (i : Int) (k : Int) = true := by
  unfold ahdR; simp [and_assoc]
/-- Are all pairs ahead of a place looked at: each is there, or isn't wanted? -/
def DoneTo (n : Nat) (P : Nat → Nat → Prop) (i0 k0 : Nat) : Prop := ∀ i k : Nat, i < n → k < n → (i < i0 ∨ (i = i0 ∧ k < k0)) → P i k
theorem DoneTo.row {n : Nat} {P : Nat → Nat → Prop} {i0 : Nat} (h : DoneTo n P i0 n) : DoneTo n P (i0 + 1) 0 := fun i k hi hk hlt => h i k hi hk (by omega)
theorem DoneTo.next {n : Nat} {P : Nat → Nat → Prop} {i0 k0 : Nat} (h : DoneTo n P i0 k0) (hp : P i0 k0) : DoneTo n P i0 (k0 + 1) := fun i k hi hk hlt => by
  by_cases e : i = i0 ∧ k = k0
  · rw [e.1, e.2]; exact hp
  · exact h i k hi hk (by omega)
theorem DoneTo.none {n : Nat} {P : Nat → Nat → Prop} : DoneTo n P 0 0 := fun i k _ _ h => by omega
theorem DoneTo.mono {n : Nat} {P Q : Nat → Nat → Prop} {i0 k0 : Nat} (h : DoneTo n P i0 k0) (hp : ∀ i k, P i k → Q i k) : DoneTo n Q i0 k0 := fun i k hi hk hlt => hp i k (h i k hi hk hlt)
theorem DoneTo.all {n : Nat} {P : Nat → Nat → Prop} {k0 : Nat} (h : DoneTo n P n k0) (i k : Nat) (hi : i < n) (hk : k < n) : P i k := h i k hi hk (.inl hi)
/-- The first round: what must be seen of the start. -/
def FirP (h : List TxnV) (x : Nat) (l : List Int) (n : Nat) (m : List Pr) (i k : Nat) : Prop := staR h x l n i k = true → ((i : Int), (k : Int)) ∈ m
theorem folR_iff {m : List Pr} {x : Nat} {l : List Int} {i k : Int} {n : Nat} : folR m x l i k n = true ↔ ∃ j : Nat, j < n ∧ ((j : Int), k) ∈ m ∧ ((hasT x 2 = true ∧ (i, (j : Int)) ∈ m) ∨ (hasT x 4 = true ∧ ahR l i (j : Int) = true)) := by
  unfold folR folJ
  rw [List.any_eq_true]
  constructor
  · rintro ⟨j, hj, h⟩
    rw [Bool.and_eq_true, Bool.or_eq_true, Bool.and_eq_true, Bool.and_eq_true, hasP_iff, hasP_iff] at h
    exact ⟨j, List.mem_range.1 hj, h.1, h.2⟩
  · rintro ⟨j, hj, h1, h2⟩
    refine ⟨j, List.mem_range.2 hj, ?_⟩
    rw [Bool.and_eq_true, Bool.or_eq_true, Bool.and_eq_true, Bool.and_eq_true, hasP_iff, hasP_iff]
    exact ⟨h1, h2⟩
theorem FirP.put {h : List TxnV} {x : Nat} {l : List Int} {n : Nat} {m : List Pr} {a b : Int} {i k : Nat} (hf : FirP h x l n m i k) : FirP h x l n (putP m a b) i k := fun hs => mem_putP.2 (.inl (hf hs))
end Go.Proofs.YtflalehpdngklaaGreatDoor

namespace Go.Proofs.YtflalehpdngklaaGreatDoor
set_option maxRecDepth 100000
open Go.RowKit

/-- The row has all numbers below n, each once. -/
def FullRow (n : Nat) (l : List Int) : Prop := l.Nodup ∧ ∀ a : Int, a ∈ l ↔ 0 ≤ a ∧ a < (n : Int)
theorem full_nodup : ∀ (n : Nat) (l : List Int), l.length = n → rowTo l n = true → l.Nodup
  | 0, l, hl, _ => by
    cases l with
    | nil => exact List.nodup_nil
    | cons a l => simp at hl
  | n + 1, l, hl, hr => by
    rw [rowTo_succ, Bool.and_eq_true, decide_eq_true_eq] at hr
    obtain ⟨h1, h2⟩ := hr
    have hle : (l.erase (n : Int)).length = n := by rw [List.length_erase_of_mem h2, hl]; rfl
    have hr2 : rowTo (l.erase (n : Int)) n = true := by
      unfold rowTo at h1 ⊢
      rw [List.all_eq_true] at h1 ⊢
      intro i hi
      have hin := List.mem_range.1 hi
      have h3 := h1 i hi
      rw [decide_eq_true_eq] at h3 ⊢
      exact (List.mem_erase_of_ne (by omega)).2 h3
    have ih := full_nodup n (l.erase (n : Int)) hle hr2
    have hlt := count_full n (l.erase (n : Int)) hle hr2
    have hp := List.perm_cons_erase h2
    rw [hp.nodup_iff, List.nodup_cons]
    exact ⟨fun hm => by have := hlt _ hm; omega, ih⟩
theorem full_of_row {n : Nat} {l : List Int} (h : rowRef12 n l = true) : FullRow n l := by
  unfold rowRef12 at h
  rw [Bool.and_eq_true, decide_eq_true_eq] at h
  obtain ⟨h1, h2⟩ := h
  refine ⟨full_nodup n l (by omega) h1, fun a => ⟨fun ha => count_full n l (by omega) h1 a ha, fun ha => ?_⟩⟩
  unfold rowTo at h1
  have := List.all_eq_true.1 h1 a.toNat (List.mem_range.2 (by omega))
  rw [decide_eq_true_eq] at this
  have e : ((a.toNat : Nat) : Int) = a := by omega
  rw [e] at this
  exact this
theorem full_of_perm {n : Nat} {L : List Nat} (h : L.Perm (List.range n)) : FullRow n (L.map Int.ofNat) := by
  refine ⟨nodup_ofNat (h.nodup_iff.2 List.nodup_range), fun a => ?_⟩
  rw [List.mem_map]
  constructor
  · rintro ⟨k, hk, rfl⟩
    have := List.mem_range.1 (h.mem_iff.1 hk)
    have e : Int.ofNat k = (k : Int) := rfl
    rw [e]; omega
  · intro ha
    exact ⟨a.toNat, h.mem_iff.2 (List.mem_range.2 (by omega)), by have : Int.ofNat a.toNat = ((a.toNat : Nat) : Int) := rfl; rw [this]; omega⟩
theorem placeF_at : ∀ (l : List Int) (k0 k : Nat) (hk : k < l.length), l.Nodup → placeF l l[k] k0 = ((k0 + k : Nat) : Int)
  | [], _, k, hk, _ => by simp at hk
  | a :: l, k0, 0, _, _ => by unfold placeF; rw [if_pos (by rfl)]; rfl
  | a :: l, k0, k + 1, hk, hn => by
    rw [List.nodup_cons] at hn
    have hk2 : k < l.length := by simpa using hk
    have hne : ¬ a = (a :: l)[k + 1] := fun e => hn.1 (by rw [e]; exact List.getElem_mem hk2)
    unfold placeF
    rw [if_neg hne]
    have := placeF_at l (k0 + 1) k hk2 hn.2
    rw [show k0 + (k + 1) = k0 + 1 + k by omega]
    exact this
theorem placeI_at {l : List Int} (hn : l.Nodup) {k : Nat} (hk : k < l.length) : placeI l l[k] = (k : Int) := by
  unfold placeI
  rw [placeF_at l 0 k hk hn, Nat.zero_add]
theorem placeI_nn {l : List Int} {a : Int} : 0 ≤ placeI l a ↔ a ∈ l := by
  have h := placeF_neg a l 0
  have h2 : placeI l a < 0 ↔ a ∉ l := h
  constructor
  · intro h3
    exact Decidable.byContradiction fun h4 => by have := h2.2 h4; omega
  · intro h3
    exact Decidable.byContradiction fun h4 => h2.1 (by omega) h3
theorem ahR_iff {l : List Int} (hn : l.Nodup) {a b : Int} (ha : a ∈ l) (hb : b ∈ l) : ahR l a b = true ↔ Ahead l a b := by
  obtain ⟨i, hi, rfl⟩ := List.mem_iff_getElem.1 ha
  obtain ⟨j, hj, rfl⟩ := List.mem_iff_getElem.1 hb
  unfold ahR
  rw [placeI_at hn hi, placeI_at hn hj, decide_eq_true_eq, ahead_at]
  constructor
  · intro hij
    refine ⟨i, hi, by rw [List.getD_eq_getElem?_getD, List.getElem?_eq_getElem hi]; rfl, ?_⟩
    refine List.mem_iff_getElem.2 ⟨j - (i + 1), by rw [List.length_drop]; omega, ?_⟩
    rw [List.getElem_drop]
    congr 1
    omega
  · rintro ⟨p, hp, h1, h2⟩
    rw [List.getD_eq_getElem?_getD, List.getElem?_eq_getElem hp, Option.getD_some] at h1
    obtain ⟨q, hq, h3⟩ := List.mem_iff_getElem.1 h2
    rw [List.length_drop] at hq
    rw [List.getElem_drop] at h3
    have e1 : p = i := (List.getElem_inj hn).1 h1
    have e2 : p + 1 + q = j := (List.getElem_inj hn).1 h3
    omega
theorem chain_mem {l : List Int} {i j : Nat} (h : chainR l i j = true) : (i : Int) ∈ l ∧ (j : Int) ∈ l := (( chainR_iff i j l).1 h).mem
theorem chain_ahd {n : Nat} {l : List Int} (hf : FullRow n l) (i j : Nat) : chainR l i j = true ↔ ahdR l n i j = true := by
  rw [ahdR_iff]
  constructor
  · intro h
    obtain ⟨h1, h2⟩ := chain_mem h
    have h3 := (hf.2 _).1 h1
    have h4 := (hf.2 _).1 h2
    exact ⟨by omega, by omega, (ahR_iff hf.1 h1 h2).2 ((chainR_iff i j l).1 h)⟩
  · rintro ⟨h1, h2, h3⟩
    have m1 : (i : Int) ∈ l := (hf.2 _).2 (by omega)
    have m2 : (j : Int) ∈ l := (hf.2 _).2 (by omega)
    exact (chainR_iff i j l).2 ((ahR_iff hf.1 m1 m2).1 h3)
theorem chain_irr {n : Nat} {l : List Int} (hf : FullRow n l) (i : Nat) : chainR l i i = false := by
  cases h : chainR l i i with
  | false => rfl
  | true => exact absurd ((chainR_iff i i l).1 h) (ahead_irr hf.1 _)
theorem hasT_bits : ∀ k : Fin 64, hasT k.val 1 = k.val.testBit 0 ∧ hasT k.val 2 = k.val.testBit 1 ∧ hasT k.val 4 = k.val.testBit 2 ∧ hasT k.val 8 = k.val.testBit 3 ∧ hasT k.val 16 = k.val.testBit 4 ∧ hasT k.val 32 = k.val.testBit 5 := by decide +kernel
theorem hasP_rep {V : Mat} {m : List Pr} (h : Rep V m) {i j : Nat} (hi : i < 64) (hj : j < 64) : hasP m (i : Int) (j : Int) = V i j := by
  rw [Bool.eq_iff_iff, hasP_iff, ← hasR_rep h, hasR_nat V i j hi hj]
theorem wrt_bit {h : List TxnV} (hc : checkI h = 0) {j : Nat} (hj : j < h.length) (y : Int) : (wrtN h y).testBit j = wrsR h j y := by
  have h64 := (check_zero hc).1
  unfold wrtN
  rw [testBit_mkS, decide_eq_true (show j < 64 by omega), decide_eq_true hj, Bool.true_and, Bool.true_and, Bool.eq_iff_iff, decide_eq_true_eq, keysOf_iff hc hj]
/-- Of those that one sees and that write to a key the last one in a row, as the reference says it. -/
def lstR (h : List TxnV) (m : List Pr) (i key : Int) (l : List Int) : Int := l.foldl (fun out a => if (hasP m a i && wrsR h a.toNat key) = true then a else out) (-1)
theorem lstR_snoc (h : List TxnV) (m : List Pr) (i key : Int) (l : List Int) (a : Int) : lstR h m i key (l ++ [a]) = if (hasP m a i && wrsR h a.toNat key) = true then a else lstR h m i key l := by
  unfold lstR; rw [List.foldl_append]; rfl
theorem lstR_take (h : List TxnV) (m : List Pr) (i key : Int) (l : List Int) (k : Nat) (hk : k < l.length) : lstR h m i key (l.take (k + 1)) = if (hasP m l[k] i && wrsR h l[k].toNat key) = true then l[k] else lstR h m i key (l.take k) := by
  rw [List.take_succ_eq_append_getElem hk, lstR_snoc]
theorem lstR_same {h : List TxnV} {V : Mat} {m : List Pr} (hc : checkI h = 0) (hR : Rep V m) {i : Nat} (hi : i < 64) (y : Int) : ∀ r : List Int, (∀ a ∈ r, 0 ≤ a ∧ a < (h.length : Int)) → lstR h m (i : Int) y r.reverse = lastI r.reverse (seeTo V (i : Int) 64 &&& wrtN h y)
  | [], _ => rfl
  | a :: r, ha => by
    have h64 := (check_zero hc).1
    have ih := lstR_same hc hR hi y r (fun b hb => ha b (List.mem_cons_of_mem _ hb))
    have h1 := ha a List.mem_cons_self
    obtain ⟨j, rfl⟩ := Int.eq_ofNat_of_zero_le h1.1
    have hj : j < h.length := by omega
    rw [List.reverse_cons, lastI_snoc, lstR_snoc, ih, hasB_nat (show j < 64 by omega), seen_bit hi (show j < 64 by omega), hasP_rep hR (show j < 64 by omega) hi, wrt_bit hc hj, Int.toNat_natCast]
/-- Is one of what is seen right, and are all; as the reference says it. -/
def pairOkR (l : List Int) (p : Pr) : Bool := decide (0 ≤ placeI l p.1) && (decide (0 ≤ placeI l p.2) && decide (placeI l p.1 < placeI l p.2))
def rdOkR (h : List TxnV) (l : List Int) (m : List Pr) (i : Nat) (r : Int × Int) : Bool := decide (lstR h m (i : Int) r.1 l = r.2)
def rightR (h : List TxnV) (l : List Int) (m : List Pr) : Bool := rowRef12 h.length l && (m.all (pairOkR l) && (List.range h.length).all fun i => (rdR h (i : Int) (refReads (opsAt h i))).all (rdOkR h l m i))
theorem all_congr {α : Type} {p q : α → Bool} : ∀ (l : List α), (∀ a ∈ l, p a = q a) → l.all p = l.all q
  | [], _ => rfl
  | a :: l, h => by rw [List.all_cons, List.all_cons, h a List.mem_cons_self, all_congr l (fun b hb => h b (List.mem_cons_of_mem _ hb))]
theorem right_same {h : List TxnV} {V : Mat} {m : List Pr} (hc : checkI h = 0) (hR : Rep V m) (l : List Int) : rightM h l V = rightR h l m := by
  have h64 := (check_zero hc).1
  unfold rightM rightR
  rw [row_same h.length h64 l]
  cases hrow : rowRef12 h.length l with
  | false => rfl
  | true =>
    have hf := full_of_row hrow
    rw [Bool.true_and, Bool.true_and]
    have e1 : inM V (chainR l) = m.all (pairOkR l) := by
      rw [Bool.eq_iff_iff, inM_iff, List.all_eq_true]
      constructor
      · rintro H ⟨a, b⟩ hp
        obtain ⟨i, j, hi, hj, rfl, rfl, hv⟩ := (hR.2 _ _).1 hp
        have hch := H i j hi hj hv
        obtain ⟨m1, m2⟩ := chain_mem hch
        have h3 := (ahR_iff hf.1 m1 m2).2 ((chainR_iff i j l).1 hch)
        unfold ahR at h3
        unfold pairOkR
        simp only
        rw [decide_eq_true (placeI_nn.2 m1), decide_eq_true (placeI_nn.2 m2), h3]; rfl
      · intro H i j hi hj hv
        have := H _ ((hR.2 _ _).2 ⟨i, j, hi, hj, rfl, rfl, hv⟩)
        unfold pairOkR at this
        simp only [Bool.and_eq_true, decide_eq_true_eq] at this
        have m1 := placeI_nn.1 this.1
        have m2 := placeI_nn.1 this.2.1
        exact (chainR_iff i j l).2 ((ahR_iff hf.1 m1 m2).1 (by unfold ahR; exact decide_eq_true this.2.2))
    rw [e1]
    congr 1
    unfold rightTo
    refine all_congr _ fun i hi => ?_
    have hin := List.mem_range.1 hi
    rw [reads_same hc hin, opsAt_eq hin]
    refine all_congr _ fun r _ => ?_
    unfold readOk rdOkR
    have := lstR_same hc hR (show i < 64 by omega) r.1 l.reverse (fun a ha => (hf.2 a).1 (List.mem_reverse.1 ha))
    rw [List.reverse_reverse] at this
    rw [this]
/-- Is a thing that is asked not kept by two, is all kept, as the reference says it. -/
def brkR (h : List TxnV) (x : Nat) (l : List Int) (m : List Pr) (i k : Nat) : Bool := !(decide (i = k)) && (!(hasP m (i : Int) (k : Int)) && ((((hasT x 1 && sesP h i k) || (hasT x 32 && timP h i k)) || (ahR l (i : Int) (k : Int) && (hasT x 16 || (hasT x 8 && rivR h i k)))) || folR m x l (i : Int) (k : Int) h.length))
def keepsR (h : List TxnV) (x : Nat) (l : List Int) (m : List Pr) : Bool := (List.range h.length).all fun i => (List.range h.length).all fun k => !(brkR h x l m i k)
theorem keepsR_iff {h : List TxnV} {x : Nat} {l : List Int} {m : List Pr} : keepsR h x l m = true ↔ ∀ i k : Nat, i < h.length → k < h.length → brkR h x l m i k = false := by
  unfold keepsR
  rw [List.all_eq_true]
  constructor
  · intro H i k hi hk
    have := List.all_eq_true.1 (H i (List.mem_range.2 hi)) k (List.mem_range.2 hk)
    simpa using this
  · intro H i hi
    rw [List.all_eq_true]
    intro k hk
    rw [H i k (List.mem_range.1 hi) (List.mem_range.1 hk)]; rfl
theorem kept_lt {h : List TxnV} {l : List Int} {V : Mat} (hc : checkI h = 0) (hf : FullRow h.length l) (hV : inM V (chainR l) = true) {b : Nat} {i j : Nat} (hi : i < 64) (hj : j < 64) (hm : keptM h (chainR l) V b i j = true) : i < h.length ∧ j < h.length ∧ i ≠ j := by
  have hV := (inM_iff _ _).1 hV
  have hch : ∀ i j, chainR l i j = true → i < h.length ∧ j < h.length ∧ i ≠ j := fun i j hc2 => by
    obtain ⟨m1, m2⟩ := chain_mem hc2
    have h3 := (hf.2 _).1 m1
    have h4 := (hf.2 _).1 m2
    refine ⟨by omega, by omega, ?_⟩
    rintro rfl
    rw [chain_irr hf] at hc2; cases hc2
  have h7 : b = 0 ∨ b = 1 ∨ b = 2 ∨ b = 3 ∨ b = 4 ∨ 5 ≤ b := by omega
  rcases h7 with rfl | rfl | rfl | rfl | rfl | hb
  · obtain ⟨h1, h2, h3⟩ := (prsTo_iff (sesP h) h.length i j hi hj h.length).1 hm
    unfold sesP at h3
    rw [Bool.and_eq_true, decide_eq_true_eq] at h3
    exact ⟨h1, h2, by omega⟩
  · obtain ⟨q, hq, a1, a2⟩ := (thenR_iff V V i j).1 hm
    exact hch i j (chain_trans hf.1 (hV i q hi hq a1) (hV q j hq hj a2))
  · obtain ⟨q, hq, a1, a2⟩ := (thenR_iff _ V i j).1 hm
    exact hch i j (chain_trans hf.1 a1 (hV q j hq hj a2))
  · exact hch i j (rivM_in h _ i j hm)
  · exact hch i j hm
  · have hm2 : timM h i j = true := by
      have e : keptM h (chainR l) V b = timM h := by
        match b, hb with
        | b + 5, _ => rfl
      rw [e] at hm; exact hm
    obtain ⟨h1, h2, h3⟩ := (prsTo_iff (timP h) h.length i j hi hj h.length).1 hm2
    refine ⟨h1, h2, ?_⟩
    rintro rfl
    unfold timP at h3
    rw [decide_eq_true_eq, cAt_eq h1, bAt_eq h1] at h3
    have := bc_of hc h1
    omega
theorem rivM_at {h : List TxnV} {l : List Int} {i k : Nat} (hi : i < h.length) (hk : k < h.length) (hne : i ≠ k) : rivM h (chainR l) i k = (chainR l i k && rivR h i k) := by
  unfold rivM rivB
  rw [decide_eq_true hi, decide_eq_true hk, decide_eq_true hne, Bool.true_and, Bool.true_and, Bool.true_and]
theorem keeps_same {h : List TxnV} {V : Mat} {m : List Pr} {l : List Int} {x : Nat} (hc : checkI h = 0) (hR : Rep V m) (hf : FullRow h.length l) (hV : inM V (chainR l) = true) (hx : x < 64) : keepsR h x l m = decide (lackN x (keptN h l V) = 0) := by
  have h64 := (check_zero hc).1
  obtain ⟨t1, t2, t4, t8, t16, t32⟩ := hasT_bits ⟨x, hx⟩
  simp only at t1 t2 t4 t8 t16 t32
  rw [Bool.eq_iff_iff, keepsR_iff, decide_eq_true_eq, lack_iff]
  have hV2 := (inM_iff _ _).1 hV
  have ah : ∀ i j : Nat, i < h.length → j < h.length → (ahR l (i : Int) (j : Int) = true ↔ chainR l i j = true) := fun i j hi hj => by
    rw [chain_ahd hf, ahdR_iff]; exact ⟨fun h => ⟨hi, hj, h⟩, fun h => h.2.2⟩
  have fo : ∀ i k : Nat, i < h.length → k < h.length → (folR m x l (i : Int) (k : Int) h.length = true ↔ (x.testBit 1 = true ∧ thenR V V i k = true) ∨ (x.testBit 2 = true ∧ thenR (chainR l) V i k = true)) := fun i k hi hk => by
    rw [folR_iff, t2, t4]
    constructor
    · rintro ⟨j, hj, h1, h2⟩
      have v1 : V j k = true := by rw [← hasP_rep hR (show j < 64 by omega) (show k < 64 by omega)]; exact hasP_iff.2 h1
      rcases h2 with ⟨h2, h3⟩ | ⟨h2, h3⟩
      · have v2 : V i j = true := by rw [← hasP_rep hR (show i < 64 by omega) (show j < 64 by omega)]; exact hasP_iff.2 h3
        exact .inl ⟨h2, (thenR_iff _ _ _ _).2 ⟨j, by omega, v2, v1⟩⟩
      · exact .inr ⟨h2, (thenR_iff _ _ _ _).2 ⟨j, by omega, (ah i j hi hj).1 h3, v1⟩⟩
    · rintro (⟨h1, h2⟩ | ⟨h1, h2⟩)
      · obtain ⟨j, hj, a1, a2⟩ := (thenR_iff _ _ _ _).1 h2
        have hjn : j < h.length := by
          obtain ⟨m1, m2⟩ := chain_mem (hV2 j k hj (by omega) a2)
          have := (hf.2 _).1 m1; omega
        exact ⟨j, hjn, hasP_iff.1 (by rw [hasP_rep hR hj (by omega)]; exact a2), .inl ⟨h1, hasP_iff.1 (by rw [hasP_rep hR (by omega) hj]; exact a1)⟩⟩
      · obtain ⟨j, hj, a1, a2⟩ := (thenR_iff _ _ _ _).1 h2
        have hjn : j < h.length := by
          obtain ⟨m1, m2⟩ := chain_mem (hV2 j k hj (by omega) a2)
          have := (hf.2 _).1 m1; omega
        exact ⟨j, hjn, hasP_iff.1 (by rw [hasP_rep hR hj (by omega)]; exact a2), .inr ⟨h1, (ah i j hi hjn).2 a1⟩⟩
  constructor
  · intro H b hb
    have hb6 : b < 6 := by
      apply Decidable.byContradiction
      intro hge
      have hp : (64 : Nat) ≤ 2 ^ b := by
        have := Nat.pow_le_pow_right (n := 2) (by omega) (show 6 ≤ b by omega)
        omega
      rw [Nat.testBit_lt_two_pow (by omega)] at hb
      cases hb
    rw [kept_bit h l V hb6, inM_iff]
    intro i j hi hj hm
    obtain ⟨hin, hjn, hne⟩ := kept_lt hc hf hV hi hj hm
    have hbr := H i j hin hjn
    cases hv : V i j with
    | true => rfl
    | false =>
      exfalso
      have hp : hasP m (i : Int) (j : Int) = false := by rw [hasP_rep hR hi hj]; exact hv
      have yes : brkR h x l m i j = true := by
        unfold brkR
        rw [decide_eq_false hne, hp]
        simp only [Bool.not_false, Bool.true_and, Bool.or_eq_true, Bool.and_eq_true]
        have h7 : b = 0 ∨ b = 1 ∨ b = 2 ∨ b = 3 ∨ b = 4 ∨ b = 5 := by omega
        rcases h7 with rfl | rfl | rfl | rfl | rfl | rfl
        · exact .inl (.inl (.inl ⟨by rw [t1]; exact hb, ((prsTo_iff (sesP h) h.length i j hi hj h.length).1 hm).2.2⟩))
        · exact .inr ((fo i j hin hjn).2 (.inl ⟨hb, hm⟩))
        · exact .inr ((fo i j hin hjn).2 (.inr ⟨hb, hm⟩))
        · have hm2 : rivM h (chainR l) i j = true := hm
          rw [rivM_at hin hjn hne, Bool.and_eq_true] at hm2
          exact .inl (.inr ⟨(ah i j hin hjn).2 hm2.1, .inr ⟨by rw [t8]; exact hb, hm2.2⟩⟩)
        · exact .inl (.inr ⟨(ah i j hin hjn).2 hm, .inl (by rw [t16]; exact hb)⟩)
        · exact .inl (.inl (.inr ⟨by rw [t32]; exact hb, ((prsTo_iff (timP h) h.length i j hi hj h.length).1 hm).2.2⟩))
      rw [yes] at hbr; cases hbr
  · intro H i k hi hk
    have K : ∀ b, b < 6 → x.testBit b = true → keptM h (chainR l) V b i k = true → V i k = true := fun b hb6 hb hm => (inM_iff _ _).1 ((kept_bit h l V hb6).symm.trans (H b hb)) i k (by omega) (by omega) hm
    cases hbr : brkR h x l m i k with
    | false => rfl
    | true =>
      exfalso
      unfold brkR at hbr
      rw [hasP_rep hR (show i < 64 by omega) (show k < 64 by omega)] at hbr
      simp only [Bool.and_eq_true, Bool.or_eq_true, Bool.not_eq_true', decide_eq_false_iff_not] at hbr
      obtain ⟨hne, hv, hq⟩ := hbr
      have yes : V i k = true := by
        rcases hq with ((⟨h1, h2⟩ | ⟨h1, h2⟩) | ⟨h1, h2⟩) | h1
        · exact K 0 (by omega) (by rw [← t1]; exact h1) ((prsTo_iff (sesP h) h.length i k (by omega) (by omega) h.length).2 ⟨hi, hk, h2⟩)
        · exact K 5 (by omega) (by rw [← t32]; exact h1) ((prsTo_iff (timP h) h.length i k (by omega) (by omega) h.length).2 ⟨hi, hk, h2⟩)
        · have hch := (ah i k hi hk).1 h1
          rcases h2 with h2 | ⟨h2, h3⟩
          · exact K 4 (by omega) (by rw [← t16]; exact h2) hch
          · refine K 3 (by omega) (by rw [← t8]; exact h2) ?_
            show rivM h (chainR l) i k = true
            rw [rivM_at hi hk hne, hch, h3]; rfl
        · rcases (fo i k hi hk).1 h1 with ⟨h1, h2⟩ | ⟨h1, h2⟩
          · exact K 1 (by omega) h1 h2
          · exact K 2 (by omega) h1 h2
      rw [yes] at hv; cases hv
/-- Does a history keep what a level asks, as the reference says it? -/
def holdsR (h : List TxnV) (lv : Int) (l : List Int) (m : List Pr) : Bool := isLv lv && (soundTo h h.length && (rightR h l m && keepsR h (askN lv) l m))
theorem holds_same {h : List TxnV} {V : Mat} {m : List Pr} (hc : checkI h = 0) (hR : Rep V m) (lv : Int) (l : List Int) : holdsB h lv l V = holdsR h lv l m := by
  unfold holdsB holdsR
  rw [right_same hc hR l]
  cases hr : rightR h l m with
  | false => simp
  | true =>
    have hr2 := hr
    rw [← right_same hc hR l] at hr2
    unfold rightM at hr2
    rw [Bool.and_eq_true, Bool.and_eq_true] at hr2
    have h64 := (check_zero hc).1
    have hf := full_of_row ((row_same h.length h64 l).symm.trans hr2.1)
    rw [keeps_same hc hR hf hr2.2.1 (askN_lt lv)]
end Go.Proofs.YtflalehpdngklaaGreatDoor

namespace Go.Proofs.YtflalehpdngklaaGreatDoor
set_option maxRecDepth 100000
open Go.RowKit

/-- What a read of a history that may be reads: nothing of others, or what one wrote, and whether that is the last. -/
theorem read_of {h : List TxnV} (hc : checkI h = 0) {k : Nat} (hk : k < h.length) {o : OpV} (ho : o ∈ refReads h[k].l) :
    (o.val = 0 ∧ badFr (wrTo h h.length) (k : Int) o = false) ∨ (o.val ≠ 0 ∧ ∃ n : Nat, ∃ hn : n < h.length, wrI o.key o.val h = (n : Int) ∧ badFr (wrTo h h.length) (k : Int) o = (decide ((n : Int) = (k : Int)) || !(vOf h[n].l o.key == o.val))) := by
  obtain ⟨h1, h2⟩ := refReads_in ho
  rcases reads_F (may_of hc) hk h1 h2 with ⟨h0, hn⟩ | ⟨h0, u, hu, hku, hw⟩
  · refine .inl ⟨h0, ?_⟩
    unfold badFr
    rw [h0, hn]
  · refine .inr ⟨h0, ?_⟩
    obtain ⟨p, hp, hpv, hpk⟩ := real_wr h h.length (Nat.le_refl _) o.val u hu
    obtain ⟨t, ht, hpt, hpw⟩ := wrs_mem.1 hp
    obtain ⟨n, hn, rfl⟩ := List.getElem_of_mem ht
    have h3 := may_wr (may_of hc) hn hpt hpw
    rw [hpv, hu] at h3
    have h4 := Option.some.inj h3
    refine ⟨n, hn, ?_, ?_⟩
    · rw [hw, h4]
    · unfold badFr
      rw [hu, h4, hpk, hku]
set_option maxHeartbeats 8000000 in
theorem rsound_any (va : Value) (h : List TxnV) (hc : checkI h = 0) (w : World) (hT : Txns w va h) :
    Calls Tryz.prog 42 #[va] w fun e w' => e = .returned (.bool (soundTo h h.length)) ∧ Below w.heap.size w w' := by
  obtain ⟨ao, cap, rfl, hal⟩ := hT.form
  have HT := Lib.hid (fun wx (hx : Below w.heap.size w wx) => hT.below hx)
  have HC := Lib.hid hc
  have HQ : Hid (soundTo h h.length = (List.range h.length).all (soundOf h)) := Lib.hid rfl
  clear hT hc
  generalize soundTo h h.length = q at *
  go_enter Tryz.func42, Tryz.ntmps42
  go_wp2_with fail
  go_loopw [3] (fun i wr => ∃ k : Nat, k ≤ h.length ∧ i = .int .i64 k ∧ (List.range k).all (soundOf h) = true ∧ Below w.heap.size w wr) (fun i _ => h.length - (intOf i).toNat)
  case atStart => exact ⟨0, by omega, rfl, rfl, Below.refl _ _⟩
  case round =>
    obtain ⟨k, hk, rfl, hall, hb⟩ := hrel
    by_cases hlt : k < h.length
    · have hki : (k : Int) < (h.length : Int) := by omega
      have HN := Lib.hid (show (List.range (k + 1)).all (soundOf h) = soundOf h k by rw [List.range_succ, List.all_append, hall]; simp)
      have HF : Hid (soundOf h k = false → false = q) := Lib.hid (fun e => by rw [HQ.out]; symm; exact List.all_eq_false.2 ⟨k, List.mem_range.2 hlt, by simp [e]⟩)
      have HS : Hid (soundOf h k = (!(refReads h[k].l).any (badFr (wrTo h h.length) (k : Int)) && steadyL h[k].l)) := Lib.hid (by unfold soundOf; rw [opsAt_eq hlt])
      have HR := Lib.hid (fun o (ho : o ∈ refReads h[k].l) => read_of HC.out hlt ho)
      have C1 := Lib.hid (fun wx (hx : Below w.heap.size w wx) => rsteady_any h[k].v h[k].l wx ((HT.out _ hx).ops hlt))
      have C2 := Lib.hid (fun wx (hx : Below w.heap.size w wx) => rreads_any h[k].v h[k].l wx ((HT.out _ hx).ops hlt))
      have HAT := Lib.hid (fun wx (hx : Below w.heap.size w wx) => (HT.out _ hx).at hlt)
      generalize soundOf h k = sk at *
      generalize refReads h[k].l = L at *
      generalize steadyL h[k].l = st at *
      generalize h[k].v = vk at *
      obtain ⟨g, o, hao, c0, c1, c2, c3⟩ := HAT.out _ hb
      cases hao
      clear c0 c1 c2
      go_wp2_with fail
      refine (C1.out _ hb).mono ?_
      rintro e w1 ⟨rfl, hb1⟩
      have hb2 := below_then hb hb1
      clear c3 hb hb1 C1
      cases st
      · have HE : Hid (false = q) := Lib.hid (HF.out (by rw [HS.out, Bool.and_false]))
        clear HF HS HN HR C2
        go_wp2_with fail
        go_ret
        exact ⟨ret_b HE.out, hb2⟩
      · obtain ⟨_, _, hao, _, _, _, c3⟩ := HAT.out _ hb2
        cases hao
        go_wp2_with fail
        refine (C2.out _ hb2).mono ?_
        rintro e w3 ⟨v3, rfl, hO, hb3⟩
        have hb4 := below_then hb2 hb3
        have hL := hO.ops
        obtain ⟨a3, cap3, rfl, _⟩ := hL.form
        clear C2 c3 hO hb2 hb3
        go_wp2_with fail
        go_loopw [5] (fun j wx => ∃ n : Nat, n ≤ L.length ∧ j = .int .i64 n ∧ (L.take n).any (badFr (wrTo h h.length) (k : Int)) = false ∧ Below w.heap.size w wx ∧ Below w3.heap.size w3 wx) (fun j _ => L.length - (intOf j).toNat)
        case atStart => exact ⟨0, by omega, rfl, rfl, hb4, Below.refl _ _⟩
        case round =>
          obtain ⟨n, hn, rfl, hany, hbx, hb5⟩ := hrel
          by_cases hltn : n < L.length
          · have hni : (n : Int) < (L.length : Int) := by omega
            obtain ⟨g1, o1, hao, d0, d1, d2⟩ := (hL.below hb5).at hltn
            cases hao
            have HX := Lib.hid (anyf_take (f := badFr (wrTo h h.length) (k : Int)) hltn hany)
            have HH := Lib.hid (fun e => anyf_hit (f := badFr (wrTo h h.length) (k : Int)) hltn e)
            have hr := HR.out _ (List.getElem_mem hltn)
            generalize badFr (wrTo h h.length) (k : Int) L[n] = bd at *
            generalize L[n].key = y at *
            generalize L[n].val = z at *
            rcases hr with ⟨hz, hbad⟩ | ⟨hz, m, hm, hwm, hbad⟩
            · have HB := Lib.hid (HX.out.trans hbad)
              subst hz
              clear HX HH hbad
              go_wp2_with fail
              go_roundw
              case rel => exact ⟨n + 1, by omega, by go_num, HB.out, hbx, hb5⟩
              case measure => simp [intOf]; omega
            · have CW := Lib.hid (fun wx (hx : Below w.heap.size w wx) => writer_any _ h y z wx (HT.out _ hx))
              rw [hwm] at CW
              have CL := Lib.hid (fun wx (hx : Below w.heap.size w wx) => rlast_any h[m].s h[m].b h[m].c h[m].v h[m].l y z wx ((HT.out _ hx).ops hm))
              have HAM := Lib.hid (fun wx (hx : Below w.heap.size w wx) => (HT.out _ hx).at hm)
              have hmi : (m : Int) < (h.length : Int) := by omega
              have hlo := block_lt d1
              simp only at hlo
              clear hwm
              go_wp2_with fail
              have kk := Below.refl wr.heap.size wr
              go_region_held3 (fun w' => w'.cell? ⟨g1, o1 + n * 3 + 1, none⟩ = some (.int .i64 y) ∧ w'.cell? ⟨g1, o1 + n * 3 + 2, none⟩ = some (.int .i64 z))
                (go_keep)
                (first
                  | (go_at_call 117; refine (CW.out _ (below_then hbx (by first | exact kk | exact kk.drew | exact below_drewN kk _))).mono ?_; rintro e wy ⟨rfl, hby⟩; have kk : Below wr.heap.size wr wy := (by first | exact below_then kk hby | exact below_then kk ⟨hby.os, hby.tape, hby.output, hby.size, hby.block⟩); have d1 := (kk.cell (p := ⟨g1, o1 + n * 3 + 1, none⟩) hlo).trans d1; have d2 := (kk.cell (p := ⟨g1, o1 + n * 3 + 2, none⟩) hlo).trans d2))
              have hb6 := below_then hbx kk
              have hb7 := below_then hb5 kk
              obtain ⟨g2, o2, hao, e0, e1, e2, e3⟩ := HAM.out _ hb6
              cases hao
              clear CW hby
              by_cases hmk : m = k
              · have HE : Hid (false = q) := Lib.hid (HF.out (by
                  have h1 := HH.out (by rw [hbad, decide_eq_true (by omega)]; rfl)
                  rw [HS.out, h1]; rfl))
                subst hmk
                clear HF HS HN HH HX HR HAT HAM CL hbad e0 e1 e2 e3
                go_wp2_with fail
                go_quiet (fail)
                go_wp2_with fail
                go_ret
                exact ⟨ret_b HE.out, by first | exact hb6 | exact below_drewN hb6 _⟩
              · have hmki : ¬ (m : Int) = (k : Int) := by omega
                have hbq : ((m : Int) == (k : Int)) = false := by simpa using hmki
                rw [decide_eq_false hmki, Bool.false_or] at hbad
                have hm0 := block_lt e0
                simp only at hm0
                have hlo2 := block_lt d1
                simp only at hlo2
                have d0' := d0
                clear kk d0'
                go_wp2_with fail
                have kk := Below.refl wy.heap.size wy
                go_region_held3 (fun w' => (w'.cell? ⟨g, o + m * 4, none⟩ = some (.int .i64 h[m].s) ∧ w'.cell? ⟨g, o + m * 4 + 1, none⟩ = some (.int .i64 h[m].b) ∧ w'.cell? ⟨g, o + m * 4 + 2, none⟩ = some (.int .i64 h[m].c) ∧ w'.cell? ⟨g, o + m * 4 + 3, none⟩ = some h[m].v) ∧ w'.cell? ⟨g1, o1 + n * 3 + 1, none⟩ = some (.int .i64 y) ∧ w'.cell? ⟨g1, o1 + n * 3 + 2, none⟩ = some (.int .i64 z))
                  (go_keep)
                  (first
                    | (go_at_call 118; refine (CL.out _ (below_then hb6 (by first | exact kk | exact kk.drew | exact below_drewN kk _))).mono ?_; rintro e wz ⟨rfl, hbz⟩; have kk : Below wy.heap.size wy wz := (by first | exact below_then kk hbz | exact below_then kk ⟨hbz.os, hbz.tape, hbz.output, hbz.size, hbz.block⟩); have d1 := (kk.cell (p := ⟨g1, o1 + n * 3 + 1, none⟩) hlo2).trans d1; have d2 := (kk.cell (p := ⟨g1, o1 + n * 3 + 2, none⟩) hlo2).trans d2; have e0 := (kk.cell (p := ⟨g, o + m * 4, none⟩) hm0).trans e0; have e1 := (kk.cell (p := ⟨g, o + m * 4 + 1, none⟩) hm0).trans e1; have e2 := (kk.cell (p := ⟨g, o + m * 4 + 2, none⟩) hm0).trans e2; have e3 := (kk.cell (p := ⟨g, o + m * 4 + 3, none⟩) hm0).trans e3))
                have hb8 := below_then hb6 kk
                have hb9 := below_then hb7 kk
                clear CL hbz d1 d2 e0 e1 e2 e3 HAM
                cases hv : (vOf h[m].l y == z)
                · have HE : Hid (false = q) := Lib.hid (HF.out (by
                    have h1 := HH.out (by rw [hbad, hv]; rfl)
                    rw [HS.out, h1]; rfl))
                  clear HF HS HN HH HX HR HAT hbad
                  go_wp2_with fail
                  go_ret
                  exact ⟨ret_b HE.out, hb8⟩
                · have HB := Lib.hid (HX.out.trans (hbad.trans (by rw [hv, Bool.not_true])))
                  clear HF HS HN HH HX HR HAT hbad
                  go_wp2_with fail
                  go_roundw
                  case rel => exact ⟨n + 1, by omega, by go_num, HB.out, hb8, hb9⟩
                  case measure => simp [intOf]; omega
          · have hn2 : n = L.length := by omega
            subst hn2
            rw [List.take_length] at hany
            have HE : Hid ((List.range (k + 1)).all (soundOf h) = true) := Lib.hid (by rw [HN.out, HS.out, hany]; rfl)
            clear HN HF HS HR HAT
            go_wp2_with fail
            go_roundw
            case rel => exact ⟨k + 1, by omega, by go_num, HE.out, hbx⟩
            case measure => simp [intOf]; omega
    · have hk2 : k = h.length := by omega
      subst hk2
      have HE : Hid (true = q) := Lib.hid (by rw [HQ.out]; exact hall.symm)
      go_wp2_with fail
      go_ret
      exact ⟨ret_b HE.out, hb⟩
end Go.Proofs.YtflalehpdngklaaGreatDoor

namespace Go.Proofs.YtflalehpdngklaaGreatDoor
set_option maxRecDepth 100000
open Go.RowKit

set_option maxHeartbeats 8000000 in
theorem rlast12_any (va vr vm : Value) (h : List TxnV) (l : List Int) (m : List Pr) (i key : Int) (w : World) (hT : Txns w va h) (hl : Ints w vr l) (hm : Prs w vm m) (hin : ∀ a ∈ l, 0 ≤ a ∧ a < (h.length : Int)) :
    Calls Tryz.prog 139 #[va, vr, vm, .int .i64 i, .int .i64 key] w fun e w' => e = .returned (.int .i64 (lstR h m i key l)) ∧ Below w.heap.size w w' := by
  have CH := Lib.hid (fun (a : Int) wx (hx : Below w.heap.size w wx) => phas_any vm m a i wx (hm.below hx))
  have CW := Lib.hid (fun (j : Nat) (hj : j < h.length) wx (hx : Below w.heap.size w wx) => rwrts8_any va h j key hj wx (hT.below hx))
  have HL := Lib.hid (fun wx (hx : Below w.heap.size w wx) => hl.below hx)
  have HIN := Lib.hid hin
  have HTK := Lib.hid (fun k hk => lstR_take h m i key l k hk)
  have HE : Hid (lstR h m i key (l.take l.length) = lstR h m i key l) := Lib.hid (by rw [List.take_length])
  have H0 : Hid (lstR h m i key (l.take 0) = -1) := Lib.hid rfl
  obtain ⟨ao, cap, rfl, hal⟩ := hT.form
  obtain ⟨ro, rcap, rfl, hrl⟩ := hl.form
  obtain ⟨mo, mcap, rfl, hml⟩ := hm.form
  clear hT hl hm hin
  go_enter Tryz.func139, Tryz.ntmps139
  go_wp2_with fail
  go_loopw [11, 12] (fun ov kv wr => ∃ k : Nat, k ≤ l.length ∧ kv = .int .i64 k ∧ ov = .int .i64 (lstR h m i key (l.take k)) ∧ Below w.heap.size w wr) (fun _ kv _ => l.length - (intOf kv).toNat)
  case atStart => exact ⟨0, by omega, rfl, by rw [H0.out], Below.refl _ _⟩
  case round =>
    obtain ⟨k, hk, rfl, rfl, hb⟩ := hrel
    by_cases hlt : k < l.length
    · have hki : (k : Int) < (l.length : Int) := by omega
      obtain ⟨g, o, hao, e0⟩ := (HL.out _ hb).at hlt
      cases hao
      have HS := Lib.hid (HTK.out k hlt)
      have hr := HIN.out _ (List.getElem_mem hlt)
      obtain ⟨j, hj⟩ : ∃ j : Nat, l[k] = (j : Int) := ⟨l[k].toNat, by omega⟩
      rw [hj] at e0 HS hr
      rw [Int.toNat_natCast] at HS
      have hjn : j < h.length := by omega
      have D1 := Lib.hid (CH.out (j : Int) _ hb)
      have D2 := Lib.hid (CW.out j hjn _ hb)
      generalize hasP m (j : Int) i = p1 at *
      generalize wrsR h j key = p2 at *
      generalize lstR h m i key (l.take k) = f0 at *
      clear CH CW HTK hj
      go_wp2_with fail
      refine (D1.out).mono ?_
      rintro e w1 ⟨rfl, rfl⟩
      cases p1 with
      | false =>
        have HN : Hid (lstR h m i key (l.take (k + 1)) = f0) := Lib.hid (by rw [HS.out]; rfl)
        go_wp2_with fail
        go_roundw
        case rel => exact ⟨k + 1, by omega, by go_num, by rw [HN.out], hb⟩
        case measure => simp [intOf]; omega
      | true =>
        go_wp2_with fail
        refine (D2.out).mono ?_
        rintro e w2 ⟨rfl, h2⟩
        have e1 := (h2.cell (p := ⟨g, o + k, none⟩) (block_lt e0)).trans e0
        have hb2 := below_then hb h2
        clear e0 hb h2
        cases p2 with
        | false =>
          have HN : Hid (lstR h m i key (l.take (k + 1)) = f0) := Lib.hid (by rw [HS.out]; rfl)
          go_wp2_with fail
          go_roundw
          case rel => exact ⟨k + 1, by omega, by go_num, by rw [HN.out], hb2⟩
          case measure => simp [intOf]; omega
        | true =>
          have HN : Hid (lstR h m i key (l.take (k + 1)) = (j : Int)) := Lib.hid (by rw [HS.out]; rfl)
          go_wp2_with fail
          go_roundw
          case rel => exact ⟨k + 1, by omega, by go_num, by rw [HN.out], hb2⟩
          case measure => simp [intOf]; omega
    · have hkn : k = l.length := by omega
      subst hkn
      go_wp2_with fail
      go_ret
      exact ⟨congrArg (fun q => Ending.returned (Value.int .i64 q)) HE.out, hb⟩
theorem all_no {α : Type} {p : α → Bool} {l : List α} {a : α} (ha : a ∈ l) (h : p a = false) : l.all p = false := by
  rw [List.all_eq_false]; exact ⟨a, ha, by rw [h]; decide⟩
theorem all_take {α : Type} {p : α → Bool} {l : List α} {k : Nat} (hk : k < l.length) (h : (l.take k).all p = true) (h1 : p l[k] = true) : (l.take (k + 1)).all p = true := by
  rw [List.take_succ_eq_append_getElem hk, List.all_append, h]; simp [h1]
theorem all_rng {p : Nat → Bool} {k : Nat} (h : (List.range k).all p = true) (h1 : p k = true) : (List.range (k + 1)).all p = true := by
  rw [List.range_succ, List.all_append, h]; simp [h1]
set_option maxHeartbeats 16000000 in
theorem rright12_any (va vr vm : Value) (h : List TxnV) (l : List Int) (m : List Pr) (w : World) (hn : h.length ≤ 64) (hT : Txns w va h) (hl : Ints w vr l) (hm : Prs w vm m) :
    Calls Tryz.prog 79 #[va, vr, vm] w fun e w' => e = .returned (.bool (rightR h l m)) ∧ Below w.heap.size w w' := by
  have CR := Lib.hid (rrow12_any h.length vr l w (by omega) hl)
  have CP := Lib.hid (fun (a : Int) wx (hx : Below w.heap.size w wx) => rplace_any vr l a wx (hl.below hx))
  have CL := Lib.hid (fun (hin : ∀ a ∈ l, 0 ≤ a ∧ a < (h.length : Int)) (i key : Int) wx (hx : Below w.heap.size w wx) => rlast12_any va vr vm h l m i key wx (hT.below hx) (hl.below hx) (hm.below hx) hin)
  have CD := Lib.hid (fun (i : Nat) (hi : i < h.length) wx (hx : Below w.heap.size w wx) => rreads8_any va h i hi wx (hT.below hx))
  have HM := Lib.hid (fun wx (hx : Below w.heap.size w wx) => hm.below hx)
  have HR : Hid (rightR h l m = (rowRef12 h.length l && (m.all (pairOkR l) && (List.range h.length).all fun (i : Nat) => (rdR h (i : Int) (refReads (opsAt h i))).all (rdOkR h l m i)))) := Lib.hid rfl
  have HF := Lib.hid (fun hr : rowRef12 h.length l = true => full_of_row hr)
  obtain ⟨ao, cap, rfl, hal⟩ := hT.form
  obtain ⟨ro, rcap, rfl, hrl⟩ := hl.form
  obtain ⟨mo, mcap, rfl, hml⟩ := hm.form
  clear hT hl hm hn
  generalize rightR h l m = z at *
  go_enter Tryz.func79, Tryz.ntmps79
  go_wp2_with fail
  refine (CR.out).mono ?_
  rintro e w1 ⟨rfl, rfl⟩
  cases hrow : rowRef12 h.length l with
  | false =>
    rw [hrow] at HR
    go_wp2_with fail
    go_ret
    exact ⟨ret_b (by rw [HR.out]; rfl), Below.refl _ _⟩
  | true =>
    have HIN := Lib.hid (fun a ha => ((HF.out hrow).2 a).1 ha)
    rw [hrow, Bool.true_and] at HR
    clear HF CR hrow
    go_wp2_with fail
    go_loopw [7] (fun kv wr => ∃ k : Nat, k ≤ m.length ∧ kv = .int .i64 k ∧ Hid ((m.take k).all (pairOkR l) = true) ∧ Below w.heap.size w wr) (fun kv _ => m.length - (intOf kv).toNat)
    case atStart => exact ⟨0, by omega, rfl, Lib.hid rfl, Below.refl _ _⟩
    case round =>
      obtain ⟨k, hk, rfl, HA, hb⟩ := hrel
      by_cases hlt : k < m.length
      · have hki : (k : Int) < (m.length : Int) := by omega
        obtain ⟨g, o, hao, c1, c2⟩ := (HM.out _ hb).at hlt
        cases hao
        have HY := Lib.hid (fun hp : pairOkR l m[k] = true => all_take hlt HA.out hp)
        have HNO := Lib.hid (fun hp : pairOkR l m[k] = false => show z = false by rw [HR.out, all_no (List.getElem_mem hlt) hp]; rfl)
        have HP : Hid (pairOkR l m[k] = (decide (0 ≤ placeI l m[k].1) && (decide (0 ≤ placeI l m[k].2) && decide (placeI l m[k].1 < placeI l m[k].2)))) := Lib.hid rfl
        have D1 := Lib.hid (CP.out m[k].1 _ hb)
        have D2 := Lib.hid (CP.out m[k].2 _ hb)
        generalize pairOkR l m[k] = q at *
        generalize placeI l m[k].1 = x at *
        generalize placeI l m[k].2 = y at *
        generalize m[k].1 = m1 at *
        generalize m[k].2 = m2 at *
        clear HA CP CL CD
        go_wp2_with fail
        refine (D1.out).mono ?_
        rintro e w1 ⟨rfl, rfl⟩
        go_wp2_with fail
        refine (D2.out).mono ?_
        rintro e w1 ⟨rfl, rfl⟩
        by_cases hx : x < 0
        · have HV : Hid (false = z) := Lib.hid (HNO.out (by rw [HP.out, decide_eq_false (by omega)]; rfl)).symm
          clear HY HNO HP
          go_wp2_with fail
          go_ret
          exact ⟨ret_b HV.out, hb⟩
        by_cases hy : y < 0
        · have HV : Hid (false = z) := Lib.hid (HNO.out (by rw [HP.out, decide_eq_false (show ¬ 0 ≤ y by omega), Bool.false_and, Bool.and_false])).symm
          clear HY HNO HP
          go_wp2_with fail
          go_ret
          exact ⟨ret_b HV.out, hb⟩
        by_cases hxy : x < y
        · have hle : ¬ y ≤ x := by omega
          have HV := Lib.hid (HY.out (by rw [HP.out, decide_eq_true (show 0 ≤ x by omega), decide_eq_true (show 0 ≤ y by omega), decide_eq_true hxy]; rfl))
          clear HY HNO HP
          go_wp2_with fail
          go_roundw
          case rel => exact ⟨k + 1, by omega, by go_num, HV, hb⟩
          case measure => simp [intOf]; omega
        · have hle : y ≤ x := by omega
          have HV : Hid (false = z) := Lib.hid (HNO.out (by rw [HP.out, decide_eq_false hxy, Bool.and_false, Bool.and_false])).symm
          clear HY HNO HP
          go_wp2_with fail
          go_ret
          exact ⟨ret_b HV.out, hb⟩
      · have hkn : k = m.length := by omega
        subst hkn
        have hA := HA.out
        rw [List.take_length] at hA
        rw [hA, Bool.true_and] at HR
        clear HA hA CP HM hlt hk
        go_wp2_with fail
        go_loopw [10] (fun iv wr => ∃ i : Nat, i ≤ h.length ∧ iv = .int .i64 i ∧ Hid (((List.range i).all fun (i : Nat) => (rdR h (i : Int) (refReads (opsAt h i))).all (rdOkR h l m i)) = true) ∧ Below w.heap.size w wr) (fun iv _ => h.length - (intOf iv).toNat)
        case atStart => exact ⟨0, by omega, rfl, Lib.hid rfl, hb⟩
        case round =>
          clear hb
          obtain ⟨i, hi, rfl, HA, hb⟩ := hrel
          by_cases hlt : i < h.length
          · have hii : (i : Int) < (h.length : Int) := by omega
            have DD := Lib.hid (CD.out i hlt _ hb)
            have HL := Lib.hid (show rdR h (i : Int) (refReads (opsAt h i)) = rdR h (i : Int) (refReads h[i].l) by rw [opsAt_eq hlt])
            have HY := Lib.hid (fun hp : (rdR h (i : Int) (refReads h[i].l)).all (rdOkR h l m i) = true => all_rng (p := fun (i : Nat) => (rdR h (i : Int) (refReads (opsAt h i))).all (rdOkR h l m i)) HA.out (by show (rdR h (i : Int) (refReads (opsAt h i))).all (rdOkR h l m i) = true; rw [HL.out]; exact hp))
            have HNO := Lib.hid (fun hp : (rdR h (i : Int) (refReads h[i].l)).all (rdOkR h l m i) = false => show z = false by rw [HR.out]; exact all_no (p := fun (i : Nat) => (rdR h (i : Int) (refReads (opsAt h i))).all (rdOkR h l m i)) (List.mem_range.2 hlt) (by show (rdR h (i : Int) (refReads (opsAt h i))).all (rdOkR h l m i) = false; rw [HL.out]; exact hp))
            clear HA HL CD
            generalize rdR h (i : Int) (refReads h[i].l) = L at *
            go_wp2_with fail
            refine (DD.out).mono ?_
            rintro e w2 ⟨v2, rfl, hO2, h2⟩
            have hL : Frs w2 v2 L := Row.of_owns hO2
            obtain ⟨a2, cap2, rfl, hll⟩ := hL.form
            have hb2 := below_then hb h2
            clear DD hO2 hb h2
            go_wp2_with fail
            go_loopw [12] (fun kv wr => ∃ k : Nat, k ≤ L.length ∧ kv = .int .i64 k ∧ Hid ((L.take k).all (rdOkR h l m i) = true) ∧ Below w.heap.size w wr ∧ Below w2.heap.size w2 wr) (fun kv _ => L.length - (intOf kv).toNat)
            case atStart => exact ⟨0, by omega, rfl, Lib.hid rfl, hb2, Below.refl _ _⟩
            case round =>
              clear hb2
              obtain ⟨k, hk, rfl, HA, hb, hb1⟩ := hrel
              by_cases hlk : k < L.length
              · have hkk : (k : Int) < (L.length : Int) := by omega
                obtain ⟨g, o, hao, d1, d2⟩ := (hL.below hb1).at hlk
                cases hao
                have HYY := Lib.hid (fun hp : rdOkR h l m i L[k] = true => all_take hlk HA.out hp)
                have HNN := Lib.hid (fun hp : rdOkR h l m i L[k] = false => HNO.out (all_no (List.getElem_mem hlk) hp))
                have HQ : Hid (rdOkR h l m i L[k] = decide (lstR h m (i : Int) L[k].1 l = L[k].2)) := Lib.hid rfl
                have DL := Lib.hid (fun wx (hx : Below w.heap.size w wx) => CL.out HIN.out (i : Int) L[k].1 wx hx)
                generalize rdOkR h l m i L[k] = q at *
                generalize lstR h m (i : Int) L[k].1 l = x at *
                generalize L[k].1 = y at *
                generalize L[k].2 = t at *
                clear HA CL HY HNO
                have hlo := block_lt d1
                simp only at hlo
                go_wp2_with fail
                have kk := Below.refl wr.heap.size wr
                go_region_held3 (fun w' => w'.cell? ⟨g, o + k * 2, none⟩ = some (.int .i64 y) ∧ w'.cell? ⟨g, o + k * 2 + 1, none⟩ = some (.int .i64 t))
                  (go_keep)
                  (first
                    | (go_at_call 139; refine (DL.out _ (below_then hb (by first | exact kk | exact kk.drew | exact below_drewN kk _))).mono ?_; rintro e wx ⟨rfl, hbx⟩; have kk : Below wr.heap.size wr wx := (by first | exact below_then kk hbx | exact below_then kk ⟨hbx.os, hbx.tape, hbx.output, hbx.size, hbx.block⟩); have d1 := (kk.cell (p := ⟨g, o + k * 2, none⟩) hlo).trans d1; have d2 := (kk.cell (p := ⟨g, o + k * 2 + 1, none⟩) hlo).trans d2))
                have hb4 := below_then hb kk
                have hb5 := below_then hb1 kk
                clear DL hbx hb hb1
                by_cases hxt : x = t
                · have HV := Lib.hid (HYY.out (by rw [HQ.out, decide_eq_true hxt]))
                  subst hxt
                  clear HYY HNN HQ
                  go_wp2_with fail
                  go_roundw
                  case rel => exact ⟨k + 1, by omega, by go_num, HV, hb4, hb5⟩
                  case measure => simp [intOf]; omega
                · have HV : Hid (false = z) := Lib.hid (HNN.out (by rw [HQ.out, decide_eq_false hxt])).symm
                  clear HYY HNN HQ
                  go_wp2_with fail
                  go_ret
                  exact ⟨ret_b HV.out, hb4⟩
              · have hkn : k = L.length := by omega
                subst hkn
                have HV := Lib.hid (HY.out (by have := HA.out; rwa [List.take_length] at this))
                clear HY HNO HA
                go_wp2_with fail
                go_roundw
                case rel => exact ⟨i + 1, by omega, by go_num, HV, hb⟩
                case measure => simp [intOf]; omega
          · have hin : i = h.length := by omega
            subst hin
            have HV : Hid (true = z) := Lib.hid (by rw [HR.out]; exact HA.out.symm)
            go_wp2_with fail
            go_ret
            exact ⟨ret_b HV.out, hb⟩
end Go.Proofs.YtflalehpdngklaaGreatDoor

namespace Go.Proofs.YtflalehpdngklaaGreatDoor
set_option maxRecDepth 100000
open Go.RowKit

set_option maxHeartbeats 16000000 in
theorem rbroken_any (va vr vm : Value) (h : List TxnV) (x : Nat) (hx : x < 64) (l : List Int) (m : List Pr) (i k : Nat) (hi : i < h.length) (hk : k < h.length) (hn : h.length ≤ 64) (w : World) (hT : Txns w va h) (hl : Ints w vr l) (hm : Prs w vm m) :
    Calls Tryz.prog 140 #[va, .int .i64 x, vr, vm, .int .i64 i, .int .i64 k] w fun e w' => e = .returned (.bool (brkR h x l m i k)) ∧ Below w.heap.size w w' := by
  have CS := Lib.hid (fun wx (hx : Below w.heap.size w wx) => rsession_any va h i k wx (hT.below hx) hi hk)
  have CT := Lib.hid (fun wx (hx : Below w.heap.size w wx) => rtime_any va h i k wx (hT.below hx) hi hk)
  have CR := Lib.hid (fun (hne : i ≠ k) wx (hx : Below w.heap.size w wx) => rrivals_any va h i k hi hk hne wx (hT.below hx))
  have CA := Lib.hid (fun (a b : Int) wx (hx : Below w.heap.size w wx) => rahead_any vr l a b wx (hl.below hx))
  have CH := Lib.hid (fun (a b : Int) wx (hx : Below w.heap.size w wx) => phas_any vm m a b wx (hm.below hx))
  have C1 := Lib.hid (fun wx => rl_has x 1 hx (by omega) (by omega) wx)
  have C32 := Lib.hid (fun wx => rl_has x 32 hx (by omega) (by omega) wx)
  have C16 := Lib.hid (fun wx => rl_has x 16 hx (by omega) (by omega) wx)
  have C8 := Lib.hid (fun wx => rl_has x 8 hx (by omega) (by omega) wx)
  have C2 := Lib.hid (fun wx => rl_has x 2 hx (by omega) (by omega) wx)
  have C4 := Lib.hid (fun wx => rl_has x 4 hx (by omega) (by omega) wx)
  have HR : Hid (brkR h x l m i k = (!(decide (i = k)) && (!(hasP m (i : Int) (k : Int)) && ((((hasT x 1 && sesP h i k) || (hasT x 32 && timP h i k)) || (ahR l (i : Int) (k : Int) && (hasT x 16 || (hasT x 8 && rivR h i k)))) || folR m x l (i : Int) (k : Int) h.length)))) := Lib.hid rfl
  have HFO : Hid (folR m x l (i : Int) (k : Int) h.length = (List.range h.length).any fun j => folJ m x l (i : Int) (k : Int) (j : Int)) := Lib.hid rfl
  have HJ := Lib.hid (fun j : Int => show folJ m x l (i : Int) (k : Int) j = (hasP m j (k : Int) && ((hasT x 2 && hasP m (i : Int) j) || (hasT x 4 && ahR l (i : Int) j))) from rfl)
  rw [show sesP h i k = (decide (i < k) && decide (h[i].s = h[k].s)) by unfold sesP; rw [sAt_eq hi, sAt_eq hk], show timP h i k = decide (h[i].c < h[k].b) by unfold timP; rw [cAt_eq hi, bAt_eq hk]] at HR
  obtain ⟨ao, cap, rfl, hal⟩ := hT.form
  obtain ⟨ro, rcap, rfl, hrl⟩ := hl.form
  obtain ⟨mo, mcap, rfl, hml⟩ := hm.form
  clear hT hl hm
  have CA1 := Lib.hid (CA.out (i : Int) (k : Int))
  have CH1 := Lib.hid (CH.out (i : Int) (k : Int))
  generalize brkR h x l m i k = z at *
  generalize folR m x l (i : Int) (k : Int) h.length = z2 at *
  generalize folJ m x l (i : Int) (k : Int) = F at *
  generalize (decide (i < k) && decide (h[i].s = h[k].s)) = p2 at *
  generalize decide (h[i].c < h[k].b) = p3 at *
  generalize rivR h i k = p4 at *
  generalize hasT x 1 = b1 at *
  generalize hasT x 32 = b2 at *
  generalize hasT x 16 = b3 at *
  generalize hasT x 8 = b4 at *
  generalize hasT x 2 = b5 at *
  generalize hasT x 4 = b6 at *
  go_enter Tryz.func140, Tryz.ntmps140
  by_cases hik : i = k
  · have hii : (i : Int) = (k : Int) := by omega
    have hib : ((i : Int) == (k : Int)) = true := beq_iff_eq.2 hii
    have HV : Hid (false = z) := Lib.hid (by rw [HR.out, decide_eq_true hik]; rfl)
    clear HR HJ HFO hik hii
    go_wp2_with fail
    go_ret
    exact ⟨ret_b HV.out, Below.refl _ _⟩
  have hii : ¬ (i : Int) = (k : Int) := by omega
  have hib : ((i : Int) == (k : Int)) = false := beq_eq_false_iff_ne.2 hii
  have CR := Lib.hid (CR.out hik)
  rw [decide_eq_false hik] at HR
  clear hik
  generalize hasP m (i : Int) (k : Int) = p1 at *
  generalize ahR l (i : Int) (k : Int) = p5 at *
  go_wp2_with fail
  refine (CH1.out _ (Below.refl _ _)).mono ?_
  rintro e w1 ⟨rfl, rfl⟩
  cases p1 with
  | true =>
    have HV : Hid (false = z) := Lib.hid (by rw [HR.out]; rfl)
    clear HR HJ HFO
    go_wp2_with fail
    go_ret
    exact ⟨ret_b HV.out, Below.refl _ _⟩
  | false =>
    have hb := Below.refl w.heap.size w
    obtain ⟨s3, hs3⟩ : ∃ s3, s3 = ((b1 && p2) || (b2 && p3)) := ⟨_, rfl⟩
    have HS3 := Lib.hid hs3
    rw [← hs3] at HR
    clear hs3
    go_upto_region 3 with fail
    go_cut [40] from 23 to 40 (fun v wx => v = .bool s3 ∧ Below w.heap.size w wx)
    case first =>
      clear HR HJ HFO
      go_wp2_with fail
      refine (C1.out _).mono ?_
      rintro e w2 ⟨rfl, rfl⟩
      cases b1 with
      | true =>
        go_wp2_with fail
        refine (CS.out _ hb).mono ?_
        rintro e w2 ⟨rfl, hn⟩
        have hb := below_then hb hn
        clear hn
        cases p2 with
        | true =>
          go_wp2_with fail
          go_meet
          exact ⟨by rw [HS3.out]; rfl, hb⟩
        | false =>
          go_wp2_with fail
          refine (C32.out _).mono ?_
          rintro e w2 ⟨rfl, rfl⟩
          cases b2 with
          | true =>
            go_wp2_with fail
            refine (CT.out _ hb).mono ?_
            rintro e w2 ⟨rfl, hn⟩
            have hb := below_then hb hn
            clear hn
            cases p3 with
            | true =>
              go_wp2_with fail
              go_meet
              exact ⟨by rw [HS3.out]; rfl, hb⟩
            | false =>
              go_wp2_with fail
              go_meet
              exact ⟨by rw [HS3.out]; rfl, hb⟩
          | false =>
            go_wp2_with fail
            go_meet
            exact ⟨by rw [HS3.out]; rfl, hb⟩
      | false =>
        go_wp2_with fail
        refine (C32.out _).mono ?_
        rintro e w2 ⟨rfl, rfl⟩
        cases b2 with
        | true =>
          go_wp2_with fail
          refine (CT.out _ hb).mono ?_
          rintro e w2 ⟨rfl, hn⟩
          have hb := below_then hb hn
          clear hn
          cases p3 with
          | true =>
            go_wp2_with fail
            go_meet
            exact ⟨by rw [HS3.out]; rfl, hb⟩
          | false =>
            go_wp2_with fail
            go_meet
            exact ⟨by rw [HS3.out]; rfl, hb⟩
        | false =>
          go_wp2_with fail
          go_meet
          exact ⟨by rw [HS3.out]; rfl, hb⟩
    case rest =>
      obtain ⟨rfl, hb⟩ := hcut
      clear HS3
      cases s3 with
      | true =>
        have HV : Hid (true = z) := Lib.hid (by rw [HR.out]; rfl)
        clear HR HJ HFO
        go_wp2_with fail
        go_ret
        exact ⟨ret_b HV.out, hb⟩
      | false =>
        obtain ⟨s5, hs5⟩ : ∃ s5, s5 = (p5 && (b3 || (b4 && p4))) := ⟨_, rfl⟩
        have HS5 := Lib.hid hs5
        rw [← hs5] at HR
        clear hs5
        go_upto_region 5 with fail
        go_cut [58] from 41 to 58 (fun v wx => v = .bool s5 ∧ Below w.heap.size w wx)
        case first =>
          clear HR HJ HFO
          go_wp2_with fail
          refine (CA1.out _ hb).mono ?_
          rintro e w2 ⟨rfl, rfl⟩
          cases p5 with
          | true =>
            go_wp2_with fail
            refine (C16.out _).mono ?_
            rintro e w2 ⟨rfl, rfl⟩
            cases b3 with
            | true =>
              go_wp2_with fail
              go_meet
              exact ⟨by rw [HS5.out]; rfl, hb⟩
            | false =>
              go_wp2_with fail
              refine (C8.out _).mono ?_
              rintro e w2 ⟨rfl, rfl⟩
              cases b4 with
              | true =>
                go_wp2_with fail
                refine (CR.out _ hb).mono ?_
                rintro e w2 ⟨rfl, hn⟩
                have hb := below_then hb hn
                clear hn
                cases p4 with
                | true =>
                  go_wp2_with fail
                  go_meet
                  exact ⟨by rw [HS5.out]; rfl, hb⟩
                | false =>
                  go_wp2_with fail
                  go_meet
                  exact ⟨by rw [HS5.out]; rfl, hb⟩
              | false =>
                go_wp2_with fail
                go_meet
                exact ⟨by rw [HS5.out]; rfl, hb⟩
          | false =>
            go_wp2_with fail
            go_meet
            exact ⟨by rw [HS5.out]; rfl, hb⟩
        case rest =>
          obtain ⟨rfl, hb⟩ := hcut
          clear HS5
          cases s5 with
          | true =>
            have HV : Hid (true = z) := Lib.hid (by rw [HR.out]; rfl)
            clear HR HJ HFO
            go_wp2_with fail
            go_ret
            exact ⟨ret_b HV.out, hb⟩
          | false =>
            have HZ : Hid (z = z2) := Lib.hid (by rw [HR.out]; rfl)
            clear HR CR CS CT C1 C32 C16 C8 CA1 CH1
            go_wp2_with fail
            go_loopw [13] (fun v wr => ∃ j : Nat, j ≤ h.length ∧ v = .int .i64 j ∧ Hid (((List.range j).any fun j => F (j : Int)) = false) ∧ Below w.heap.size w wr) (fun v _ => h.length - (intOf v).toNat)
            case atStart => exact ⟨0, by omega, rfl, Lib.hid rfl, hb⟩
            case round =>
              clear hb
              obtain ⟨j, hj, rfl, HP, hb⟩ := hrel
              by_cases hlt : j < h.length
              · have hji : (j : Int) < (h.length : Int) := by omega
                have HS := Lib.hid (show ((List.range (j + 1)).any fun j => F (j : Int)) = F (j : Int) by rw [List.range_succ, List.any_append, HP.out]; simp)
                have HY := Lib.hid (show F (j : Int) = true → z = true from fun h => by rw [HZ.out, HFO.out]; exact List.any_eq_true.2 ⟨j, List.mem_range.2 hlt, h⟩)
                have HQ := Lib.hid (HJ.out (j : Int))
                have D1 := Lib.hid (CH.out (j : Int) (k : Int) _ hb)
                have D2 := Lib.hid (CH.out (i : Int) (j : Int) _ hb)
                have D3 := Lib.hid (CA.out (i : Int) (j : Int) _ hb)
                generalize hasP m (j : Int) (k : Int) = p1 at *
                generalize hasP m (i : Int) (j : Int) = p2 at *
                generalize ahR l (i : Int) (j : Int) = p3 at *
                generalize F (j : Int) = q at *
                clear CH CA HJ HP HZ HFO
                go_wp2_with fail
                refine (D1.out).mono ?_
                rintro e w1 ⟨rfl, rfl⟩
                cases p1 with
                | true =>
                  go_wp2_with fail
                  refine (C2.out _).mono ?_
                  rintro e w1 ⟨rfl, rfl⟩
                  cases b5 with
                  | true =>
                    go_wp2_with fail
                    refine (D2.out).mono ?_
                    rintro e w1 ⟨rfl, rfl⟩
                    cases p2 with
                    | true =>
                      have HT : Hid (true = z) := Lib.hid (HY.out (by rw [HQ.out]; rfl)).symm
                      clear HS HQ HY D1 D2 D3
                      go_wp2_with fail
                      go_ret
                      exact ⟨ret_b HT.out, hb⟩
                    | false =>
                      go_wp2_with fail
                      refine (C4.out _).mono ?_
                      rintro e w1 ⟨rfl, rfl⟩
                      cases b6 with
                      | true =>
                        go_wp2_with fail
                        refine (D3.out).mono ?_
                        rintro e w1 ⟨rfl, rfl⟩
                        cases p3 with
                        | true =>
                          have HT : Hid (true = z) := Lib.hid (HY.out (by rw [HQ.out]; rfl)).symm
                          clear HS HQ HY D1 D2 D3
                          go_wp2_with fail
                          go_ret
                          exact ⟨ret_b HT.out, hb⟩
                        | false =>
                          have HN : Hid (((List.range (j + 1)).any fun j => F (j : Int)) = false) := Lib.hid (by rw [HS.out, HQ.out]; rfl)
                          clear HS HQ HY D1 D2 D3
                          go_wp2_with fail
                          go_roundw
                          case rel => exact ⟨j + 1, by omega, by go_num, HN, hb⟩
                          case measure => simp [intOf]; omega
                      | false =>
                        have HN : Hid (((List.range (j + 1)).any fun j => F (j : Int)) = false) := Lib.hid (by rw [HS.out, HQ.out]; rfl)
                        clear HS HQ HY D1 D2 D3
                        go_wp2_with fail
                        go_roundw
                        case rel => exact ⟨j + 1, by omega, by go_num, HN, hb⟩
                        case measure => simp [intOf]; omega
                  | false =>
                    go_wp2_with fail
                    refine (C4.out _).mono ?_
                    rintro e w1 ⟨rfl, rfl⟩
                    cases b6 with
                    | true =>
                      go_wp2_with fail
                      refine (D3.out).mono ?_
                      rintro e w1 ⟨rfl, rfl⟩
                      cases p3 with
                      | true =>
                        have HT : Hid (true = z) := Lib.hid (HY.out (by rw [HQ.out]; rfl)).symm
                        clear HS HQ HY D1 D2 D3
                        go_wp2_with fail
                        go_ret
                        exact ⟨ret_b HT.out, hb⟩
                      | false =>
                        have HN : Hid (((List.range (j + 1)).any fun j => F (j : Int)) = false) := Lib.hid (by rw [HS.out, HQ.out]; rfl)
                        clear HS HQ HY D1 D2 D3
                        go_wp2_with fail
                        go_roundw
                        case rel => exact ⟨j + 1, by omega, by go_num, HN, hb⟩
                        case measure => simp [intOf]; omega
                    | false =>
                      have HN : Hid (((List.range (j + 1)).any fun j => F (j : Int)) = false) := Lib.hid (by rw [HS.out, HQ.out]; rfl)
                      clear HS HQ HY D1 D2 D3
                      go_wp2_with fail
                      go_roundw
                      case rel => exact ⟨j + 1, by omega, by go_num, HN, hb⟩
                      case measure => simp [intOf]; omega
                | false =>
                  have HN : Hid (((List.range (j + 1)).any fun j => F (j : Int)) = false) := Lib.hid (by rw [HS.out, HQ.out]; rfl)
                  clear HS HQ HY D1 D2 D3
                  go_wp2_with fail
                  go_roundw
                  case rel => exact ⟨j + 1, by omega, by go_num, HN, hb⟩
                  case measure => simp [intOf]; omega
              · have hj2 : j = h.length := by omega
                subst hj2
                have HV : Hid (false = z) := Lib.hid (by rw [HZ.out, HFO.out]; exact HP.out.symm)
                clear HP HZ HFO HJ
                go_wp2_with fail
                go_ret
                exact ⟨ret_b HV.out, hb⟩
set_option maxHeartbeats 8000000 in
theorem rkeeps_any (va vr vm : Value) (h : List TxnV) (x : Nat) (hx : x < 64) (l : List Int) (m : List Pr) (hn : h.length ≤ 64) (w : World) (hT : Txns w va h) (hl : Ints w vr l) (hm : Prs w vm m) :
    Calls Tryz.prog 80 #[va, .int .i64 x, vr, vm] w fun e w' => e = .returned (.bool (keepsR h x l m)) ∧ Below w.heap.size w w' := by
  have CB := Lib.hid (fun (i k : Nat) (hi : i < h.length) (hk : k < h.length) wx (hx2 : Below w.heap.size w wx) => rbroken_any va vr vm h x hx l m i k hi hk hn wx (hT.below hx2) (hl.below hx2) (hm.below hx2))
  have HNO := Lib.hid (fun (i k : Nat) (hi : i < h.length) (hk : k < h.length) (hb : brkR h x l m i k = true) => show keepsR h x l m = false by
    cases hq : keepsR h x l m with
    | false => rfl
    | true => have := keepsR_iff.1 hq i k hi hk; rw [this] at hb; cases hb)
  have HYES := Lib.hid (fun (H : ∀ i k : Nat, i < h.length → k < h.length → brkR h x l m i k = false) => keepsR_iff.2 H)
  obtain ⟨ao, cap, rfl, hal⟩ := hT.form
  obtain ⟨ro, rcap, rfl, hrl⟩ := hl.form
  obtain ⟨mo, mcap, rfl, hml⟩ := hm.form
  clear hT hl hm hn
  generalize keepsR h x l m = z at *
  go_enter Tryz.func80, Tryz.ntmps80
  go_wp2_with fail
  go_loopw [9] (fun iv wr => ∃ i : Nat, i ≤ h.length ∧ iv = .int .i64 i ∧ Hid (DoneTo h.length (fun i k => brkR h x l m i k = false) i 0) ∧ Below w.heap.size w wr) (fun iv _ => h.length - (intOf iv).toNat)
  case atStart => exact ⟨0, by omega, rfl, Lib.hid DoneTo.none, Below.refl _ _⟩
  case round =>
    obtain ⟨i, hi, rfl, HD, hb⟩ := hrel
    by_cases hlt : i < h.length
    · have hii : (i : Int) < (h.length : Int) := by omega
      go_wp2_with fail
      go_loopw [10] (fun kv wr => ∃ k : Nat, k ≤ h.length ∧ kv = .int .i64 k ∧ Hid (DoneTo h.length (fun i k => brkR h x l m i k = false) i k) ∧ Below w.heap.size w wr) (fun kv _ => h.length - (intOf kv).toNat)
      case atStart => exact ⟨0, by omega, rfl, HD, hb⟩
      case round =>
        clear HD hb
        obtain ⟨k, hk, rfl, HD, hb⟩ := hrel
        by_cases hlk : k < h.length
        · have hkk : (k : Int) < (h.length : Int) := by omega
          have DB := Lib.hid (CB.out i k hlt hlk _ hb)
          have HNN := Lib.hid (HNO.out i k hlt hlk)
          have HYY := Lib.hid (fun hb : brkR h x l m i k = false => HD.out.next hb)
          clear HD CB HNO HYES
          generalize hbr : brkR h x l m i k = q at *
          clear hbr
          go_wp2_with fail
          refine (DB.out).mono ?_
          rintro e w2 ⟨rfl, h2⟩
          have hb2 := below_then hb h2
          cases q with
          | true =>
            have HV : Hid (false = z) := Lib.hid (HNN.out rfl).symm
            clear HNN HYY DB
            go_wp2_with fail
            go_ret
            exact ⟨ret_b HV.out, hb2⟩
          | false =>
            have HV := Lib.hid (HYY.out rfl)
            clear HNN HYY DB
            go_wp2_with fail
            go_roundw
            case rel => exact ⟨k + 1, by omega, by go_num, HV, hb2⟩
            case measure => simp [intOf]; omega
        · have hkn : k = h.length := by omega
          have HV : Hid (DoneTo h.length (fun i k => brkR h x l m i k = false) (i + 1) 0) := Lib.hid (by have := HD.out; rw [hkn] at this; exact this.row)
          have hnk : ¬ (k : Int) < (h.length : Int) := by omega
          clear HD hkn CB
          go_wp2_with fail
          go_roundw
          case rel => exact ⟨i + 1, by omega, by go_num, HV, hb⟩
          case measure => simp [intOf]; omega
    · have hin : i = h.length := by omega
      have HV : Hid (true = z) := Lib.hid (HYES.out (by have := HD.out; rw [hin] at this; exact fun a b ha hb => this.all a b ha hb)).symm
      have hni : ¬ (i : Int) < (h.length : Int) := by omega
      clear HD hin CB HNO HYES
      go_wp2_with fail
      go_ret
      exact ⟨ret_b HV.out, hb⟩
set_option maxHeartbeats 8000000 in
theorem rholds12_any (va vr vm : Value) (h : List TxnV) (lv : Int) (l : List Int) (m : List Pr) (hc : checkI h = 0) (w : World) (hT : Txns w va h) (hl : Ints w vr l) (hm : Prs w vm m) :
    Calls Tryz.prog 18 #[va, .int .i64 lv, vr, vm] w fun e w' => e = .returned (.bool (holdsR h lv l m)) ∧ Below w.heap.size w w' := by
  have hn := (check_zero hc).1
  have CS := Lib.hid (rsound_any va h hc w hT)
  have CR := Lib.hid (fun wx (hx : Below w.heap.size w wx) => rright12_any va vr vm h l m wx hn (hT.below hx) (hl.below hx) (hm.below hx))
  have CK := Lib.hid (fun wx (hx : Below w.heap.size w wx) => rkeeps_any va vr vm h (askN lv) (askN_lt lv) l m hn wx (hT.below hx) (hl.below hx) (hm.below hx))
  have CA := Lib.hid (fun wx => rl_asks lv wx)
  have HR : Hid (holdsR h lv l m = (isLv lv && (soundTo h h.length && (rightR h l m && keepsR h (askN lv) l m)))) := Lib.hid rfl
  have HI : Hid (isLv lv = decide (0 ≤ lv ∧ lv < 12)) := Lib.hid rfl
  obtain ⟨ao, cap, rfl, hal⟩ := hT.form
  obtain ⟨ro, rcap, rfl, hrl⟩ := hl.form
  obtain ⟨mo, mcap, rfl, hml⟩ := hm.form
  clear hT hl hm hn hc
  generalize holdsR h lv l m = z at *
  generalize soundTo h h.length = s at *
  generalize rightR h l m = r at *
  generalize keepsR h (askN lv) l m = q at *
  generalize askN lv = y at *
  generalize isLv lv = il at *
  go_enter Tryz.func18, Tryz.ntmps18
  by_cases h0 : 0 ≤ lv
  rotate_left
  · have HV : Hid (false = z) := Lib.hid (by rw [HR.out, HI.out, decide_eq_false (by omega)]; rfl)
    have hd0 : decide (0 ≤ lv) = false := decide_eq_false h0
    clear HR HI
    go_wp2_with fail
    go_ret
    exact ⟨ret_b HV.out, Below.refl _ _⟩
  by_cases h12 : lv < 12
  rotate_left
  · have HV : Hid (false = z) := Lib.hid (by rw [HR.out, HI.out, decide_eq_false (by omega)]; rfl)
    have hd0 : decide (0 ≤ lv) = true := decide_eq_true h0
    have hd1 : decide (lv < 12) = false := decide_eq_false h12
    clear HR HI
    go_wp2_with fail
    go_ret
    exact ⟨ret_b HV.out, Below.refl _ _⟩
  have hil : il = true := by rw [HI.out]; exact decide_eq_true ⟨h0, h12⟩
  rw [hil] at HR
  clear HI hil
  have hd0 : decide (0 ≤ lv) = true := decide_eq_true h0
  have hd1 : decide (lv < 12) = true := decide_eq_true h12
  go_wp2_with fail
  refine (CS.out).mono ?_
  rintro e w2 ⟨rfl, hb⟩
  cases s with
  | false =>
    go_wp2_with fail
    go_ret
    exact ⟨ret_b (by rw [HR.out]; rfl), hb⟩
  | true =>
    go_wp2_with fail
    refine (CR.out _ hb).mono ?_
    rintro e w3 ⟨rfl, h3⟩
    have hb := below_then hb h3
    clear h3
    cases r with
    | false =>
      go_wp2_with fail
      go_ret
      exact ⟨ret_b (by rw [HR.out]; rfl), hb⟩
    | true =>
      go_wp2_with fail
      refine (CA.out _).mono ?_
      rintro e w4 ⟨rfl, rfl⟩
      go_wp2_with fail
      refine (CK.out _ hb).mono ?_
      rintro e w5 ⟨rfl, h5⟩
      have hb := below_then hb h5
      clear h5
      cases q with
      | false =>
        go_wp2_with fail
        go_ret
        exact ⟨ret_b (by rw [HR.out]; rfl), hb⟩
      | true =>
        go_wp2_with fail
        go_ret
        exact ⟨ret_b (by rw [HR.out]; rfl), hb⟩
end Go.Proofs.YtflalehpdngklaaGreatDoor

namespace Go.Proofs.YtflalehpdngklaaGreatDoor
set_option maxRecDepth 100000
open Go.RowKit

/-- One more pair, where it may be. -/
def putM (m : List Pr) (a b : Int) : List Pr := if (mayB a && mayB b) = true then putP m a b else m
theorem rep_add {V : Mat} {m : List Pr} (h : Rep V m) (a b : Int) : Rep (addM V a b) (putM m a b) := by
  unfold putM
  cases hab : (mayB a && mayB b) with
  | false =>
    rw [if_neg (by decide)]
    have e : addM V a b = V := by
      unfold addM
      rw [if_neg]
      rintro ⟨h1, h2⟩
      rw [h1, h2] at hab; cases hab
    rw [e]; exact h
  | true =>
    rw [if_pos rfl]
    rw [Bool.and_eq_true] at hab
    have h1 := (mayB_iff a).1 hab.1
    have h2 := (mayB_iff b).1 hab.2
    refine ⟨putP_nodup h.1, fun c d => ?_⟩
    rw [mem_putP, h.2]
    constructor
    · rintro (⟨i, j, hi, hj, rfl, rfl, hv⟩ | e)
      · exact ⟨i, j, hi, hj, rfl, rfl, (addM_iff V a b i j hi hj).2 (.inl hv)⟩
      · have e1 : c = a := congrArg Prod.fst e
        have e2 : d = b := congrArg Prod.snd e
        subst e1; subst e2
        exact ⟨c.toNat, d.toNat, by omega, by omega, by omega, by omega, (addM_iff V c d _ _ (by omega) (by omega)).2 (.inr ⟨by omega, by omega⟩)⟩
    · rintro ⟨i, j, hi, hj, rfl, rfl, hv⟩
      rcases (addM_iff V a b i j hi hj).1 hv with hv | ⟨e1, e2⟩
      · exact .inl ⟨i, j, hi, hj, rfl, rfl, hv⟩
      · exact .inr (by rw [e1, e2])
theorem putM_len (m : List Pr) (a b : Int) : (putM m a b).length ≤ m.length + 1 := by
  unfold putM
  split
  · exact (putP_len m a b).1
  · omega
theorem prV_int {l : List Pr} {u : Value} (h : u ∈ prV l) : ∃ x : Int, u = .int .i64 x := by
  unfold prV at h
  obtain ⟨p, _, hp⟩ := List.mem_flatMap.1 h
  simp at hp
  rcases hp with rfl | rfl
  · exact ⟨_, rfl⟩
  · exact ⟨_, rfl⟩
theorem rowsA_u64 (V : Mat) {i : Nat} {u : Value} (h : (rowsA V)[i]? = some u) : ∃ n : Int, u = .int .u64 n := by
  have hi : i < 64 := by
    have := (Array.getElem?_eq_some_iff.1 h).1
    rwa [rowsA_size] at this
  rw [rowsA_at V hi] at h
  cases h
  exact ⟨_, rfl⟩
/-- A relation that is changed leaves pairs as they are. -/
theorem Prs.apart {w w' : World} {v : Value} {l : List Pr} {g : Nat} {V : Mat} (h : Prs w v l) (hV : RelAt w g 38 V) (hg : w.grownBy w' (some g)) : Prs w' v l := by
  obtain ⟨hl, ao, cap, rfl, hm, hno, hc⟩ := h
  refine ⟨hl, ao, cap, rfl, hm, hno, fun hn => ?_⟩
  obtain ⟨b, off, rfl, hcell⟩ := hc hn
  refine ⟨b, off, rfl, fun i hi => ?_⟩
  have h2 := hcell i hi
  rw [List.getElem?_eq_getElem (by omega)] at h2 ⊢
  refine hg.cell h2 (fun e => ?_)
  obtain rfl : b = g := by simpa using e
  obtain ⟨x, hx⟩ := prV_int (List.getElem_mem (show i < (prV l).length by omega))
  rw [cell_of_row w b (off + i) _ _ _ hV] at h2
  obtain ⟨n, hn2⟩ := rowsA_u64 V h2
  rw [hx] at hn2; cases hn2
/-- A slice that holds pairs is no box of one slice. -/
theorem Prs.boxed {w w' : World} {v vm : Value} {l : List Pr} {g : Nat} {t : TypeId} (h : Prs w v l) (hB : At w g (.cells #[vm] t)) (hvm : ∀ x : Int, vm ≠ .int .i64 x) (hg : w.grownBy w' (some g)) : Prs w' v l := by
  obtain ⟨hl, ao, cap, rfl, hm, hno, hc⟩ := h
  refine ⟨hl, ao, cap, rfl, hm, hno, fun hn => ?_⟩
  obtain ⟨b, off, rfl, hcell⟩ := hc hn
  refine ⟨b, off, rfl, fun i hi => ?_⟩
  have h2 := hcell i hi
  rw [List.getElem?_eq_getElem (by omega)] at h2 ⊢
  refine hg.cell h2 (fun e => ?_)
  obtain rfl : b = g := by simpa using e
  obtain ⟨x, hx⟩ := prV_int (List.getElem_mem (show i < (prV l).length by omega))
  rw [cell_of_row w b (off + i) _ _ _ hB, hx] at h2
  have hz : off + i = 0 := by
    have := (Array.getElem?_eq_some_iff.1 h2).1
    simpa using this
  rw [hz] at h2
  exact hvm x (by simpa using h2)
/-- What lies there while pairs are put in. -/
structure Vis (B : Nat) (pv pl : Nat) (V : Mat) (m : List Pr) (w0 w : World) : Prop where
  rel : RelAt w pv 38 V
  box : ∃ vm, At w pl (.cells #[vm] 25) ∧ Prs w vm m
  rep : Rep V m
  below : Below B w0 w
theorem Vis.mono {B pv pl : Nat} {V : Mat} {m : List Pr} {w0 w w' : World} (h : Vis B pv pl V m w0 w) (hb : Below w.heap.size w w') (hB : B ≤ w.heap.size) : Vis B pv pl V m w0 w' := by
  obtain ⟨h1, ⟨vm, h2, h3⟩, h4, h5⟩ := h
  exact ⟨h1.below hb h1.lt, ⟨vm, h2.below hb, h3.below hb⟩, h4, h5.trans (hb.mono hB)⟩
set_option maxHeartbeats 8000000 in
theorem of12add_any (B : Nat) (pv pl : Nat) (V : Mat) (m : List Pr) (a b : Int) (w0 w : World) (hlt : pv < pl) (hpv : B ≤ pv) (h : Vis B pv pl V m w0 w) (hlen : m.length ≤ 1000000) :
    Calls Tryz.prog 72 #[.int .i64 a, .int .i64 b, .pointer (some ⟨pv, 0, none⟩), .pointer (some ⟨pl, 0, none⟩)] w fun e w' => e = .returned (.tuple #[]) ∧ Vis B pv pl (addM V a b) (putM m a b) w0 w' := by
  obtain ⟨h1, ⟨vm, h2, h3⟩, h4, h5⟩ := h
  obtain ⟨mo, mcap, rfl, hml⟩ := h3.form
  have HRP := Lib.hid (rep_add h4 a b)
  have CA := Lib.hid (add_any V pv a b w h1)
  have HPM : Hid (putM m a b = if (mayB a && mayB b) = true then putP m a b else m) := Lib.hid rfl
  clear h4
  go_enter Tryz.func72, Tryz.ntmps72
  go_wp2_with fail
  refine (CA.out).mono ?_
  rintro e w1 ⟨rfl, r1, g1⟩
  have p1 := h3.apart h1 g1
  have b1 : At w1 pl (.cells #[.slice mo m.length mcap] 25) := h2.grown g1 (by simp; omega)
  have hBw : B ≤ w.heap.size := Nat.le_trans hpv (Nat.le_of_lt h1.lt)
  have d1 := h5.grown g1 hBw (fun q hq => by cases hq; exact hpv)
  clear CA h1 h2 h3 g1 h5
  cases hab : (mayB a && mayB b) with
  | false =>
    rw [hab, if_neg (by decide)] at HPM
    clear hab
    go_wp2_with fail
    go_end0
    exact ⟨rfl, r1, ⟨_, b1, by rw [HPM.out]; exact p1⟩, HRP.out, d1⟩
  | true =>
    rw [hab, if_pos rfl] at HPM
    have hcell : w1.cell? ⟨pl, 0, none⟩ = some (.slice mo m.length mcap) := by unfold At at b1; simp [World.cell?, b1]
    have CP := Lib.hid (put_any _ m a b w1 p1 (by omega))
    clear hab
    go_wp2_with fail
    refine (CP.out).mono ?_
    rintro e w2 ⟨v2, rfl, p2, k2⟩
    have r2 := r1.below k2 r1.lt
    have b2 := b1.below k2
    have d2 := d1.trans (k2.mono (Nat.le_trans hpv (Nat.le_of_lt r1.lt)))
    clear CP p1 r1 b1 d1 k2 hcell
    obtain ⟨m2, hm2⟩ : ∃ m2, m2 = putP m a b := ⟨_, rfl⟩
    rw [← hm2] at p2 HPM
    clear hm2
    obtain ⟨mo2, mcap2, rfl, hml2⟩ := p2.form
    have hfz := frozen_of_row w2 pl 0 _ _ b2
    have hcl : w2.cell? ⟨pl, 0, none⟩ = some (.slice mo m.length mcap) := by unfold At at b2; simp [World.cell?, b2]
    have gs := Lib.grownBy_setCell w2 pl 0 (.slice mo2 m2.length mcap2)
    have r3 : RelAt (w2.setCell ⟨pl, 0, none⟩ (.slice mo2 m2.length mcap2)) pv 38 (addM V a b) := (gs.block pv r2.lt (by simp; omega)).trans r2
    have b3 : At (w2.setCell ⟨pl, 0, none⟩ (.slice mo2 m2.length mcap2)) pl (.cells #[.slice mo2 m2.length mcap2] 25) := one_setCell b2
    have p3 := p2.boxed b2 (fun x e => by cases e) gs
    have d3 := d2.setCell (p := ⟨pl, 0, none⟩) (by show B ≤ pl; omega) (.slice mo2 m2.length mcap2)
    have HV : Hid (Vis B pv pl (addM V a b) (putM m a b) w0 (w2.setCell ⟨pl, 0, none⟩ (.slice mo2 m2.length mcap2))) := Lib.hid ⟨r3, ⟨_, b3, by rw [HPM.out]; exact p3⟩, HRP.out, d3⟩
    clear r2 b2 d2 p2 gs r3 b3 p3 d3 HRP HPM
    go_wp2_with fail
    go_end0
    exact ⟨rfl, HV.out⟩
end Go.Proofs.YtflalehpdngklaaGreatDoor

namespace Go.Proofs.YtflalehpdngklaaGreatDoor
set_option maxRecDepth 100000
open Go.RowKit

/-- The slice v holds slices, of which each holds these ints. -/
def Lists (w : World) (v : Value) (LL : List (List Int)) : Prop := ∃ sv : List Value, Row w v LL.length 1 sv ∧ ∀ (k : Nat) (hk : k < LL.length), ∃ u, sv[k]? = some u ∧ Ints w u LL[k]
theorem Lists.below {w w' : World} {v : Value} {LL : List (List Int)} (h : Lists w v LL) (hb : Below w.heap.size w w') : Lists w' v LL := by
  obtain ⟨sv, h1, h2⟩ := h
  exact ⟨sv, h1.below hb, fun k hk => by obtain ⟨u, hu, hi⟩ := h2 k hk; exact ⟨u, hu, hi.below hb⟩⟩
theorem Lists.form {w : World} {v : Value} {LL : List (List Int)} (h : Lists w v LL) : ∃ ao cap, v = .slice ao LL.length cap ∧ LL.length ≤ 9223372036854775807 := by
  obtain ⟨sv, ⟨_, ao, cap, rfl, hm, _, _⟩, _⟩ := h
  exact ⟨ao, cap, rfl, Nat.le_trans hm.1 hm.2⟩
theorem Lists.at {w : World} {ao : Option Addr} {n cap : Nat} {LL : List (List Int)} (h : Lists w (.slice ao n cap) LL) {k : Nat} (hk : k < LL.length) :
    ∃ b off u, ao = some ⟨b, off, none⟩ ∧ w.cell? ⟨b, off + k, none⟩ = some u ∧ Ints w u LL[k] := by
  obtain ⟨sv, ⟨_, ao', cap', he, _, _, hc⟩, h2⟩ := h
  cases he
  obtain ⟨b, off, e, hcell⟩ := hc (by omega)
  obtain ⟨u, hu, hi⟩ := h2 k hk
  exact ⟨b, off, u, e, by rw [hcell k (by omega), hu], hi⟩
/-- Pairs of lists: whom each sees. -/
def insP (o : List Pr) (i : Int) (l : List Int) : List Pr := l.foldl (fun o a => putP o a i) o
theorem insP_succ (o : List Pr) (i : Int) (l : List Int) (k : Nat) (hk : k < l.length) : insP o i (l.take (k + 1)) = putP (insP o i (l.take k)) l[k] i := by
  unfold insP
  rw [List.take_succ_eq_append_getElem hk, List.foldl_append]; rfl
theorem mem_insP {i : Int} {p : Pr} : ∀ (l : List Int) (o : List Pr), p ∈ insP o i l ↔ p ∈ o ∨ ∃ a ∈ l, p = (a, i)
  | [], o => by simp [insP]
  | a :: l, o => by
    have e : insP o i (a :: l) = insP (putP o a i) i l := rfl
    rw [e, mem_insP l, mem_putP, or_assoc]
    apply or_congr Iff.rfl
    constructor
    · rintro (h | ⟨b, hb, h⟩)
      · exact ⟨a, List.mem_cons_self, h⟩
      · exact ⟨b, List.mem_cons_of_mem _ hb, h⟩
    · rintro ⟨b, hb, h⟩
      rcases List.mem_cons.1 hb with rfl | hb
      · exact .inl h
      · exact .inr ⟨b, hb, h⟩
def pairsL (LL : List (List Int)) : Nat → List Pr
  | 0 => []
  | k + 1 => insP (pairsL LL k) (k : Int) (LL.getD k [])
theorem mem_pairsL {LL : List (List Int)} {p : Pr} : ∀ k, p ∈ pairsL LL k ↔ ∃ i : Nat, i < k ∧ ∃ a ∈ LL.getD i [], p = (a, (i : Int))
  | 0 => by simp [pairsL]
  | k + 1 => by
    unfold pairsL
    rw [mem_insP, mem_pairsL k]
    constructor
    · rintro (⟨i, hi, h⟩ | ⟨a, ha, h⟩)
      · exact ⟨i, by omega, h⟩
      · exact ⟨k, by omega, a, ha, h⟩
    · rintro ⟨i, hi, h⟩
      by_cases e : i = k
      · subst e; exact .inr h
      · exact .inl ⟨i, by omega, h⟩
def okRow (n : Nat) (l : List Int) : Bool := l.all fun a => decide (0 ≤ a) && decide (a < (n : Int))
def okL (n : Nat) (LL : List (List Int)) : Bool := decide (LL.length = n) && LL.all (okRow n)
theorem rep_none : Rep noR [] := ⟨List.nodup_nil, fun a b => by simp [noR]⟩
theorem rep_put {V : Mat} {m : List Pr} (h : Rep V m) {a b : Int} (ha : 0 ≤ a ∧ a < 64) (hb : 0 ≤ b ∧ b < 64) : Rep (addM V a b) (putP m a b) := by
  have := rep_add h a b
  unfold putM at this
  rwa [(mayB_iff a).2 ha, (mayB_iff b).2 hb, if_pos (by rfl)] at this
/-- A relation that is changed leaves ints as they are. -/
theorem Ints.relApart {w w' : World} {v : Value} {l : List Int} {g : Nat} {V : Mat} (h : Ints w v l) (hV : RelAt w g 38 V) (hg : w.grownBy w' (some g)) : Ints w' v l := by
  obtain ⟨hl, ao, cap, rfl, hm, hno, hc⟩ := h
  refine ⟨hl, ao, cap, rfl, hm, hno, fun hn => ?_⟩
  obtain ⟨b, off, rfl, hcell⟩ := hc hn
  refine ⟨b, off, rfl, fun i hi => ?_⟩
  have h2 := hcell i hi
  rw [List.getElem?_eq_getElem (by omega)] at h2 ⊢
  refine hg.cell h2 (fun e => ?_)
  obtain rfl : b = g := by simpa using e
  rw [List.getElem_map, cell_of_row w b (off + i) _ _ _ hV] at h2
  obtain ⟨n, hn2⟩ := rowsA_u64 V h2
  cases hn2
theorem results_rel2 {fn : Func} {p u : Tmp} (h : fn.results = #[.cell p 38, .tmp u]) (tmps : Array Value) (w : World) (g : Nat) (R : Mat)
    (hp : tmps.getD p undef = .pointer (some ⟨g, 0, none⟩)) (hg : RelAt w g 38 R) : (results fn tmps).run Tryz.prog w = .ok (.tuple #[.agg (rowsA R), tmps.getD u undef]) w := by
  have hp' : tmps[p]?.getD undef = .pointer (some ⟨g, 0, none⟩) := by simpa using hp
  simp [results, h, hp', asAddr, run_loadVar_row w g _ 38 (rowsA R) _ _ hg Tryz.underlying38 rfl (infoRel' _)]
set_option maxRecDepth 100000 in
set_option maxHeartbeats 16000000 in
theorem arelation_any (n : Nat) (hn : n ≤ 64) (vs : Value) (LL : List (List Int)) (w : World) (hL : Lists w vs LL) :
    Calls Tryz.prog 78 #[.int .i64 n, vs] w fun e w' => (∃ R, e = .returned (.tuple #[.agg (rowsA R), .bool (okL n LL)]) ∧ (okL n LL = true → Rep R (pairsL LL n))) ∧ Below w.heap.size w w' := by
  obtain ⟨ao, cap, rfl, hll⟩ := hL.form
  have HL := Lib.hid (fun wx (hx : Below w.heap.size w wx) => hL.below hx)
  have HR : Hid (okL n LL = (decide (LL.length = n) && LL.all (okRow n))) := Lib.hid rfl
  clear hL
  go_enter Tryz.func78, Tryz.ntmps78
  by_cases hne : LL.length = n
  rotate_left
  · have h0 := (zero_block w).alloc (.cells #[.int .u64 0, .int .u64 0, .int .u64 0, .int .u64 0, .int .u64 0, .int .u64 0, .int .u64 0, .int .u64 0, .int .u64 0, .int .u64 0, .int .u64 0, .int .u64 0, .int .u64 0, .int .u64 0, .int .u64 0, .int .u64 0, .int .u64 0, .int .u64 0, .int .u64 0, .int .u64 0, .int .u64 0, .int .u64 0, .int .u64 0, .int .u64 0, .int .u64 0, .int .u64 0, .int .u64 0, .int .u64 0, .int .u64 0, .int .u64 0, .int .u64 0, .int .u64 0, .int .u64 0, .int .u64 0, .int .u64 0, .int .u64 0, .int .u64 0, .int .u64 0, .int .u64 0, .int .u64 0, .int .u64 0, .int .u64 0, .int .u64 0, .int .u64 0, .int .u64 0, .int .u64 0, .int .u64 0, .int .u64 0, .int .u64 0, .int .u64 0, .int .u64 0, .int .u64 0, .int .u64 0, .int .u64 0, .int .u64 0, .int .u64 0, .int .u64 0, .int .u64 0, .int .u64 0, .int .u64 0, .int .u64 0, .int .u64 0, .int .u64 0, .int .u64 0] 38)
    have h1 := zero_block (w.alloc (.cells #[.int .u64 0, .int .u64 0, .int .u64 0, .int .u64 0, .int .u64 0, .int .u64 0, .int .u64 0, .int .u64 0, .int .u64 0, .int .u64 0, .int .u64 0, .int .u64 0, .int .u64 0, .int .u64 0, .int .u64 0, .int .u64 0, .int .u64 0, .int .u64 0, .int .u64 0, .int .u64 0, .int .u64 0, .int .u64 0, .int .u64 0, .int .u64 0, .int .u64 0, .int .u64 0, .int .u64 0, .int .u64 0, .int .u64 0, .int .u64 0, .int .u64 0, .int .u64 0, .int .u64 0, .int .u64 0, .int .u64 0, .int .u64 0, .int .u64 0, .int .u64 0, .int .u64 0, .int .u64 0, .int .u64 0, .int .u64 0, .int .u64 0, .int .u64 0, .int .u64 0, .int .u64 0, .int .u64 0, .int .u64 0, .int .u64 0, .int .u64 0, .int .u64 0, .int .u64 0, .int .u64 0, .int .u64 0, .int .u64 0, .int .u64 0, .int .u64 0, .int .u64 0, .int .u64 0, .int .u64 0, .int .u64 0, .int .u64 0, .int .u64 0, .int .u64 0] 38))
    have hb := ((Below.refl w.heap.size w).alloc (Nat.le_refl _) (.cells #[.int .u64 0, .int .u64 0, .int .u64 0, .int .u64 0, .int .u64 0, .int .u64 0, .int .u64 0, .int .u64 0, .int .u64 0, .int .u64 0, .int .u64 0, .int .u64 0, .int .u64 0, .int .u64 0, .int .u64 0, .int .u64 0, .int .u64 0, .int .u64 0, .int .u64 0, .int .u64 0, .int .u64 0, .int .u64 0, .int .u64 0, .int .u64 0, .int .u64 0, .int .u64 0, .int .u64 0, .int .u64 0, .int .u64 0, .int .u64 0, .int .u64 0, .int .u64 0, .int .u64 0, .int .u64 0, .int .u64 0, .int .u64 0, .int .u64 0, .int .u64 0, .int .u64 0, .int .u64 0, .int .u64 0, .int .u64 0, .int .u64 0, .int .u64 0, .int .u64 0, .int .u64 0, .int .u64 0, .int .u64 0, .int .u64 0, .int .u64 0, .int .u64 0, .int .u64 0, .int .u64 0, .int .u64 0, .int .u64 0, .int .u64 0, .int .u64 0, .int .u64 0, .int .u64 0, .int .u64 0, .int .u64 0, .int .u64 0, .int .u64 0, .int .u64 0] 38)).alloc (by simp) (.cells #[.int .u64 0, .int .u64 0, .int .u64 0, .int .u64 0, .int .u64 0, .int .u64 0, .int .u64 0, .int .u64 0, .int .u64 0, .int .u64 0, .int .u64 0, .int .u64 0, .int .u64 0, .int .u64 0, .int .u64 0, .int .u64 0, .int .u64 0, .int .u64 0, .int .u64 0, .int .u64 0, .int .u64 0, .int .u64 0, .int .u64 0, .int .u64 0, .int .u64 0, .int .u64 0, .int .u64 0, .int .u64 0, .int .u64 0, .int .u64 0, .int .u64 0, .int .u64 0, .int .u64 0, .int .u64 0, .int .u64 0, .int .u64 0, .int .u64 0, .int .u64 0, .int .u64 0, .int .u64 0, .int .u64 0, .int .u64 0, .int .u64 0, .int .u64 0, .int .u64 0, .int .u64 0, .int .u64 0, .int .u64 0, .int .u64 0, .int .u64 0, .int .u64 0, .int .u64 0, .int .u64 0, .int .u64 0, .int .u64 0, .int .u64 0, .int .u64 0, .int .u64 0, .int .u64 0, .int .u64 0, .int .u64 0, .int .u64 0, .int .u64 0, .int .u64 0] 38)
    have hsz : (w.alloc (.cells #[.int .u64 0, .int .u64 0, .int .u64 0, .int .u64 0, .int .u64 0, .int .u64 0, .int .u64 0, .int .u64 0, .int .u64 0, .int .u64 0, .int .u64 0, .int .u64 0, .int .u64 0, .int .u64 0, .int .u64 0, .int .u64 0, .int .u64 0, .int .u64 0, .int .u64 0, .int .u64 0, .int .u64 0, .int .u64 0, .int .u64 0, .int .u64 0, .int .u64 0, .int .u64 0, .int .u64 0, .int .u64 0, .int .u64 0, .int .u64 0, .int .u64 0, .int .u64 0, .int .u64 0, .int .u64 0, .int .u64 0, .int .u64 0, .int .u64 0, .int .u64 0, .int .u64 0, .int .u64 0, .int .u64 0, .int .u64 0, .int .u64 0, .int .u64 0, .int .u64 0, .int .u64 0, .int .u64 0, .int .u64 0, .int .u64 0, .int .u64 0, .int .u64 0, .int .u64 0, .int .u64 0, .int .u64 0, .int .u64 0, .int .u64 0, .int .u64 0, .int .u64 0, .int .u64 0, .int .u64 0, .int .u64 0, .int .u64 0, .int .u64 0, .int .u64 0] 38)).heap.size = w.heap.size + 1 := by simp
    rw [hsz] at h1
    have hnb : ((LL.length : Int) != (n : Int)) = true := by rw [bne_iff_ne]; omega
    have hnq : ¬ (LL.length : Int) = (n : Int) := by omega
    have HV : Hid (okL n LL = false) := Lib.hid (by rw [HR.out, decide_eq_false hne]; rfl)
    clear HR hne
    go_upto_region 2 with fail
    generalize (w.alloc (.cells #[.int .u64 0, .int .u64 0, .int .u64 0, .int .u64 0, .int .u64 0, .int .u64 0, .int .u64 0, .int .u64 0, .int .u64 0, .int .u64 0, .int .u64 0, .int .u64 0, .int .u64 0, .int .u64 0, .int .u64 0, .int .u64 0, .int .u64 0, .int .u64 0, .int .u64 0, .int .u64 0, .int .u64 0, .int .u64 0, .int .u64 0, .int .u64 0, .int .u64 0, .int .u64 0, .int .u64 0, .int .u64 0, .int .u64 0, .int .u64 0, .int .u64 0, .int .u64 0, .int .u64 0, .int .u64 0, .int .u64 0, .int .u64 0, .int .u64 0, .int .u64 0, .int .u64 0, .int .u64 0, .int .u64 0, .int .u64 0, .int .u64 0, .int .u64 0, .int .u64 0, .int .u64 0, .int .u64 0, .int .u64 0, .int .u64 0, .int .u64 0, .int .u64 0, .int .u64 0, .int .u64 0, .int .u64 0, .int .u64 0, .int .u64 0, .int .u64 0, .int .u64 0, .int .u64 0, .int .u64 0, .int .u64 0, .int .u64 0, .int .u64 0, .int .u64 0] 38)).alloc (.cells #[.int .u64 0, .int .u64 0, .int .u64 0, .int .u64 0, .int .u64 0, .int .u64 0, .int .u64 0, .int .u64 0, .int .u64 0, .int .u64 0, .int .u64 0, .int .u64 0, .int .u64 0, .int .u64 0, .int .u64 0, .int .u64 0, .int .u64 0, .int .u64 0, .int .u64 0, .int .u64 0, .int .u64 0, .int .u64 0, .int .u64 0, .int .u64 0, .int .u64 0, .int .u64 0, .int .u64 0, .int .u64 0, .int .u64 0, .int .u64 0, .int .u64 0, .int .u64 0, .int .u64 0, .int .u64 0, .int .u64 0, .int .u64 0, .int .u64 0, .int .u64 0, .int .u64 0, .int .u64 0, .int .u64 0, .int .u64 0, .int .u64 0, .int .u64 0, .int .u64 0, .int .u64 0, .int .u64 0, .int .u64 0, .int .u64 0, .int .u64 0, .int .u64 0, .int .u64 0, .int .u64 0, .int .u64 0, .int .u64 0, .int .u64 0, .int .u64 0, .int .u64 0, .int .u64 0, .int .u64 0, .int .u64 0, .int .u64 0, .int .u64 0, .int .u64 0] 38) = w1 at *
    clear hsz
    go_wp2_with (first
        | (with_reducible refine wpList_load_rel h1 rfl _ rfl rfl ?_)
        | (with_reducible refine wpList_store_rel h0 noR rfl _ _ rfl rfl rfl ?_))
    have h3 := h0.setRow noR
    exact bodyPost_ret (results_rel2 rfl _ _ _ _ rfl h3) rfl ⟨⟨noR, by rw [HV.out]; rfl, fun h => by rw [HV.out] at h; cases h⟩, below_setRow hb (by omega) _⟩
  have hnb : ((LL.length : Int) != (n : Int)) = false := by rw [bne_eq_false_iff_eq]; omega
  have hnq : (LL.length : Int) = (n : Int) := by omega
  rw [decide_eq_true hne, Bool.true_and] at HR
  have HNE := Lib.hid hne
  have HZ0 : Hid (#[.int .u64 0, .int .u64 0, .int .u64 0, .int .u64 0, .int .u64 0, .int .u64 0, .int .u64 0, .int .u64 0, .int .u64 0, .int .u64 0, .int .u64 0, .int .u64 0, .int .u64 0, .int .u64 0, .int .u64 0, .int .u64 0, .int .u64 0, .int .u64 0, .int .u64 0, .int .u64 0, .int .u64 0, .int .u64 0, .int .u64 0, .int .u64 0, .int .u64 0, .int .u64 0, .int .u64 0, .int .u64 0, .int .u64 0, .int .u64 0, .int .u64 0, .int .u64 0, .int .u64 0, .int .u64 0, .int .u64 0, .int .u64 0, .int .u64 0, .int .u64 0, .int .u64 0, .int .u64 0, .int .u64 0, .int .u64 0, .int .u64 0, .int .u64 0, .int .u64 0, .int .u64 0, .int .u64 0, .int .u64 0, .int .u64 0, .int .u64 0, .int .u64 0, .int .u64 0, .int .u64 0, .int .u64 0, .int .u64 0, .int .u64 0, .int .u64 0, .int .u64 0, .int .u64 0, .int .u64 0, .int .u64 0, .int .u64 0, .int .u64 0, .int .u64 0] = rowsA noR) := Lib.hid (by rw [rowsA_none]; rfl)
  clear hne
  have h0 := (zero_block w).alloc (.cells #[.int .u64 0, .int .u64 0, .int .u64 0, .int .u64 0, .int .u64 0, .int .u64 0, .int .u64 0, .int .u64 0, .int .u64 0, .int .u64 0, .int .u64 0, .int .u64 0, .int .u64 0, .int .u64 0, .int .u64 0, .int .u64 0, .int .u64 0, .int .u64 0, .int .u64 0, .int .u64 0, .int .u64 0, .int .u64 0, .int .u64 0, .int .u64 0, .int .u64 0, .int .u64 0, .int .u64 0, .int .u64 0, .int .u64 0, .int .u64 0, .int .u64 0, .int .u64 0, .int .u64 0, .int .u64 0, .int .u64 0, .int .u64 0, .int .u64 0, .int .u64 0, .int .u64 0, .int .u64 0, .int .u64 0, .int .u64 0, .int .u64 0, .int .u64 0, .int .u64 0, .int .u64 0, .int .u64 0, .int .u64 0, .int .u64 0, .int .u64 0, .int .u64 0, .int .u64 0, .int .u64 0, .int .u64 0, .int .u64 0, .int .u64 0, .int .u64 0, .int .u64 0, .int .u64 0, .int .u64 0, .int .u64 0, .int .u64 0, .int .u64 0, .int .u64 0] 38)
  have h1 := zero_block (w.alloc (.cells #[.int .u64 0, .int .u64 0, .int .u64 0, .int .u64 0, .int .u64 0, .int .u64 0, .int .u64 0, .int .u64 0, .int .u64 0, .int .u64 0, .int .u64 0, .int .u64 0, .int .u64 0, .int .u64 0, .int .u64 0, .int .u64 0, .int .u64 0, .int .u64 0, .int .u64 0, .int .u64 0, .int .u64 0, .int .u64 0, .int .u64 0, .int .u64 0, .int .u64 0, .int .u64 0, .int .u64 0, .int .u64 0, .int .u64 0, .int .u64 0, .int .u64 0, .int .u64 0, .int .u64 0, .int .u64 0, .int .u64 0, .int .u64 0, .int .u64 0, .int .u64 0, .int .u64 0, .int .u64 0, .int .u64 0, .int .u64 0, .int .u64 0, .int .u64 0, .int .u64 0, .int .u64 0, .int .u64 0, .int .u64 0, .int .u64 0, .int .u64 0, .int .u64 0, .int .u64 0, .int .u64 0, .int .u64 0, .int .u64 0, .int .u64 0, .int .u64 0, .int .u64 0, .int .u64 0, .int .u64 0, .int .u64 0, .int .u64 0, .int .u64 0, .int .u64 0] 38))
  have hb := ((Below.refl w.heap.size w).alloc (Nat.le_refl _) (.cells #[.int .u64 0, .int .u64 0, .int .u64 0, .int .u64 0, .int .u64 0, .int .u64 0, .int .u64 0, .int .u64 0, .int .u64 0, .int .u64 0, .int .u64 0, .int .u64 0, .int .u64 0, .int .u64 0, .int .u64 0, .int .u64 0, .int .u64 0, .int .u64 0, .int .u64 0, .int .u64 0, .int .u64 0, .int .u64 0, .int .u64 0, .int .u64 0, .int .u64 0, .int .u64 0, .int .u64 0, .int .u64 0, .int .u64 0, .int .u64 0, .int .u64 0, .int .u64 0, .int .u64 0, .int .u64 0, .int .u64 0, .int .u64 0, .int .u64 0, .int .u64 0, .int .u64 0, .int .u64 0, .int .u64 0, .int .u64 0, .int .u64 0, .int .u64 0, .int .u64 0, .int .u64 0, .int .u64 0, .int .u64 0, .int .u64 0, .int .u64 0, .int .u64 0, .int .u64 0, .int .u64 0, .int .u64 0, .int .u64 0, .int .u64 0, .int .u64 0, .int .u64 0, .int .u64 0, .int .u64 0, .int .u64 0, .int .u64 0, .int .u64 0, .int .u64 0] 38)).alloc (by simp) (.cells #[.int .u64 0, .int .u64 0, .int .u64 0, .int .u64 0, .int .u64 0, .int .u64 0, .int .u64 0, .int .u64 0, .int .u64 0, .int .u64 0, .int .u64 0, .int .u64 0, .int .u64 0, .int .u64 0, .int .u64 0, .int .u64 0, .int .u64 0, .int .u64 0, .int .u64 0, .int .u64 0, .int .u64 0, .int .u64 0, .int .u64 0, .int .u64 0, .int .u64 0, .int .u64 0, .int .u64 0, .int .u64 0, .int .u64 0, .int .u64 0, .int .u64 0, .int .u64 0, .int .u64 0, .int .u64 0, .int .u64 0, .int .u64 0, .int .u64 0, .int .u64 0, .int .u64 0, .int .u64 0, .int .u64 0, .int .u64 0, .int .u64 0, .int .u64 0, .int .u64 0, .int .u64 0, .int .u64 0, .int .u64 0, .int .u64 0, .int .u64 0, .int .u64 0, .int .u64 0, .int .u64 0, .int .u64 0, .int .u64 0, .int .u64 0, .int .u64 0, .int .u64 0, .int .u64 0, .int .u64 0, .int .u64 0, .int .u64 0, .int .u64 0, .int .u64 0] 38)
  have hsz : (w.alloc (.cells #[.int .u64 0, .int .u64 0, .int .u64 0, .int .u64 0, .int .u64 0, .int .u64 0, .int .u64 0, .int .u64 0, .int .u64 0, .int .u64 0, .int .u64 0, .int .u64 0, .int .u64 0, .int .u64 0, .int .u64 0, .int .u64 0, .int .u64 0, .int .u64 0, .int .u64 0, .int .u64 0, .int .u64 0, .int .u64 0, .int .u64 0, .int .u64 0, .int .u64 0, .int .u64 0, .int .u64 0, .int .u64 0, .int .u64 0, .int .u64 0, .int .u64 0, .int .u64 0, .int .u64 0, .int .u64 0, .int .u64 0, .int .u64 0, .int .u64 0, .int .u64 0, .int .u64 0, .int .u64 0, .int .u64 0, .int .u64 0, .int .u64 0, .int .u64 0, .int .u64 0, .int .u64 0, .int .u64 0, .int .u64 0, .int .u64 0, .int .u64 0, .int .u64 0, .int .u64 0, .int .u64 0, .int .u64 0, .int .u64 0, .int .u64 0, .int .u64 0, .int .u64 0, .int .u64 0, .int .u64 0, .int .u64 0, .int .u64 0, .int .u64 0, .int .u64 0] 38)).heap.size = w.heap.size + 1 := by simp
  rw [hsz] at h1
  go_wp2_with fail
  generalize (w.alloc (.cells #[.int .u64 0, .int .u64 0, .int .u64 0, .int .u64 0, .int .u64 0, .int .u64 0, .int .u64 0, .int .u64 0, .int .u64 0, .int .u64 0, .int .u64 0, .int .u64 0, .int .u64 0, .int .u64 0, .int .u64 0, .int .u64 0, .int .u64 0, .int .u64 0, .int .u64 0, .int .u64 0, .int .u64 0, .int .u64 0, .int .u64 0, .int .u64 0, .int .u64 0, .int .u64 0, .int .u64 0, .int .u64 0, .int .u64 0, .int .u64 0, .int .u64 0, .int .u64 0, .int .u64 0, .int .u64 0, .int .u64 0, .int .u64 0, .int .u64 0, .int .u64 0, .int .u64 0, .int .u64 0, .int .u64 0, .int .u64 0, .int .u64 0, .int .u64 0, .int .u64 0, .int .u64 0, .int .u64 0, .int .u64 0, .int .u64 0, .int .u64 0, .int .u64 0, .int .u64 0, .int .u64 0, .int .u64 0, .int .u64 0, .int .u64 0, .int .u64 0, .int .u64 0, .int .u64 0, .int .u64 0, .int .u64 0, .int .u64 0, .int .u64 0, .int .u64 0] 38)).alloc (.cells #[.int .u64 0, .int .u64 0, .int .u64 0, .int .u64 0, .int .u64 0, .int .u64 0, .int .u64 0, .int .u64 0, .int .u64 0, .int .u64 0, .int .u64 0, .int .u64 0, .int .u64 0, .int .u64 0, .int .u64 0, .int .u64 0, .int .u64 0, .int .u64 0, .int .u64 0, .int .u64 0, .int .u64 0, .int .u64 0, .int .u64 0, .int .u64 0, .int .u64 0, .int .u64 0, .int .u64 0, .int .u64 0, .int .u64 0, .int .u64 0, .int .u64 0, .int .u64 0, .int .u64 0, .int .u64 0, .int .u64 0, .int .u64 0, .int .u64 0, .int .u64 0, .int .u64 0, .int .u64 0, .int .u64 0, .int .u64 0, .int .u64 0, .int .u64 0, .int .u64 0, .int .u64 0, .int .u64 0, .int .u64 0, .int .u64 0, .int .u64 0, .int .u64 0, .int .u64 0, .int .u64 0, .int .u64 0, .int .u64 0, .int .u64 0, .int .u64 0, .int .u64 0, .int .u64 0, .int .u64 0, .int .u64 0, .int .u64 0, .int .u64 0, .int .u64 0] 38) = w1 at *
  clear hsz
  go_loopw [18] (fun iv wr => ∃ (i : Nat) (R : Mat), i ≤ n ∧ iv = .int .i64 i ∧ RelAt wr (w.heap.size + 1) 38 R ∧ RelAt wr w.heap.size 38 noR ∧ Hid (Rep R (pairsL LL i)) ∧ Hid ((LL.take i).all (okRow n) = true) ∧ Below w.heap.size w wr) (fun iv _ => n - (intOf iv).toNat)
  case atStart => exact ⟨0, noR, by omega, rfl, h1, h0, Lib.hid rep_none, Lib.hid rfl, hb⟩
  case round =>
    clear h1 h0 hb
    obtain ⟨i, R, hi, rfl, h1, h0, HP, HA, hb⟩ := hrel
    by_cases hlt : i < n
    · have hii : (i : Int) < (n : Int) := by omega
      have hil : i < LL.length := by have := HNE.out; omega
      have hli : (i : Int) < (LL.length : Int) := by omega
      obtain ⟨g, o, u, hao, c1, hI⟩ := (HL.out _ hb).at hil
      cases hao
      have HYES := Lib.hid (fun hy : okRow n LL[i] = true => show (LL.take (i + 1)).all (okRow n) = true by rw [List.take_succ_eq_append_getElem hil, List.all_append, HA.out]; simp [hy])
      have HNO := Lib.hid (fun hy : okRow n LL[i] = false => show okL n LL = false by rw [HR.out, List.all_eq_false]; exact ⟨_, List.getElem_mem hil, by rw [hy]; decide⟩)
      have HPS : Hid (pairsL LL (i + 1) = insP (pairsL LL i) (i : Int) LL[i]) := Lib.hid (by
        show insP (pairsL LL i) (i : Int) (LL.getD i []) = _
        rw [List.getD_eq_getElem?_getD, List.getElem?_eq_getElem hil]; rfl)
      clear HA
      generalize LL[i] = l at *
      obtain ⟨ro, rcap, rfl, hlm⟩ := hI.form
      have HI := Lib.hid (fun wx (hx : Below wr.heap.size wr wx) => hI.below hx)
      have hbr := Below.refl wr.heap.size wr
      generalize pairsL LL i = P at *
      clear hI
      go_wp2_with fail
      go_loopw [25] (fun kv wx => ∃ (k : Nat) (R : Mat), k ≤ l.length ∧ kv = .int .i64 k ∧ RelAt wx (w.heap.size + 1) 38 R ∧ RelAt wx w.heap.size 38 noR ∧ Hid (Rep R (insP P (i : Int) (l.take k))) ∧ Hid (okRow n (l.take k) = true) ∧ Below w.heap.size w wx ∧ Ints wx (.slice ro l.length rcap) l) (fun kv _ => l.length - (intOf kv).toNat)
      case atStart => exact ⟨0, R, by omega, rfl, h1, h0, HP, Lib.hid rfl, hb, HI.out _ hbr⟩
      case round =>
        clear h1 h0 hb HP c1 HI hbr
        obtain ⟨k, R, hk, rfl, h1, h0, HP, HA, hb, hI⟩ := hrel
        by_cases hlk : k < l.length
        · have hkk : (k : Int) < (l.length : Int) := by omega
          obtain ⟨g2, o2, hao2, e1⟩ := hI.at hlk
          cases hao2
          have HS := Lib.hid (fun (h0 : 0 ≤ l[k]) (h1 : l[k] < (n : Int)) => show okRow n (l.take (k + 1)) = true by
            have := HA.out
            unfold okRow at *
            rw [List.take_succ_eq_append_getElem hlk, List.all_append, this]
            simp [h0, h1])
          have HN := Lib.hid (fun (hb : ¬ (0 ≤ l[k] ∧ l[k] < (n : Int))) => HNO.out (by
            unfold okRow
            rw [List.all_eq_false]
            refine ⟨_, List.getElem_mem hlk, ?_⟩
            simp only [Bool.and_eq_true, decide_eq_true_eq]
            exact hb))
          have HI2 := Lib.hid (insP_succ P (i : Int) l k hlk)
          generalize l[k] = a at *
          have hIg := Lib.hid hI
          by_cases ha0 : a < 0
          · have HV : Hid (okL n LL = false) := Lib.hid (HN.out (by omega))
            clear HS HN HI2 HA HP hI hIg
            have hz0 := HZ0.out
            go_wp2_with (first | (with_reducible refine wpList_store_rel h0 noR rfl _ _ rfl rfl rfl ?_))
            have h3 := h0.setRow noR
            exact bodyPost_ret (results_rel2 rfl _ _ _ _ rfl h3) rfl ⟨⟨noR, by rw [HV.out]; rfl, fun h => by rw [HV.out] at h; cases h⟩, below_setRow hb (by omega) _⟩
          by_cases han : (n : Int) ≤ a
          · have HV : Hid (okL n LL = false) := Lib.hid (HN.out (by omega))
            clear HS HN HI2 HA HP hI hIg
            have hz0 := HZ0.out
            go_wp2_with (first | (with_reducible refine wpList_store_rel h0 noR rfl _ _ rfl rfl rfl ?_))
            have h3 := h0.setRow noR
            exact bodyPost_ret (results_rel2 rfl _ _ _ _ rfl h3) rfl ⟨⟨noR, by rw [HV.out]; rfl, fun h => by rw [HV.out] at h; cases h⟩, below_setRow hb (by omega) _⟩
          have HA2 := Lib.hid (HS.out (by omega) (by omega))
          have HP2 : Hid (Rep (addM R a (i : Int)) (insP P (i : Int) (l.take (k + 1)))) := Lib.hid (by rw [HI2.out]; exact rep_put HP.out (by omega) (by omega))
          have CA := Lib.hid (add_any R _ a (i : Int) _ h1)
          have hni : ¬ (n : Int) ≤ a := han
          clear HS HN HI2 HA HP hI
          go_wp2_with fail
          refine (CA.out).mono ?_
          rintro e w7 ⟨rfl, h17, hg7⟩
          have h07 : RelAt w7 w.heap.size 38 noR := by
            have := hg7.block w.heap.size h0.lt (by simp)
            unfold RelAt at *
            rw [this]
            exact h0
          have hb7 : Below w.heap.size w w7 := hb.grown hg7 hb.size (by simp)
          have hI7 : Ints w7 (.slice (some ⟨g2, o2, none⟩) l.length rcap) l := hIg.out.relApart h1 hg7
          clear CA h1 h0 hb hg7 e1 hIg
          go_wp2_with fail
          go_roundw
          case rel => exact ⟨k + 1, _, by omega, by go_num, h17, h07, HP2, HA2, hb7, hI7⟩
          case measure => simp [intOf]; omega
        · have hkl : k = l.length := by omega
          subst hkl
          have HA2 := Lib.hid (HYES.out (by have := HA.out; rwa [List.take_length] at this))
          have HP2 : Hid (Rep R (pairsL LL (i + 1))) := Lib.hid (by have := HP.out; rw [List.take_length] at this; rw [HPS.out]; exact this)
          clear HP HA HYES HNO HPS hI
          go_wp2_with fail
          go_roundw
          case rel => exact ⟨i + 1, R, by omega, by go_num, h1, h0, HP2, HA2, hb⟩
          case measure => simp [intOf]; omega
    · have hin : i = n := by omega
      subst hin
      have HV : Hid (okL i LL = true) := Lib.hid (by have := HA.out; rw [← HNE.out, List.take_length] at this; rw [HR.out]; rw [← HNE.out]; exact this)
      have hli : ¬ (i : Int) < (LL.length : Int) := by omega
      clear HA HR
      go_wp2_with (first
        | (with_reducible refine wpList_load_rel h1 rfl _ rfl rfl ?_)
        | (with_reducible refine wpList_store_rel h0 R rfl _ _ rfl rfl rfl ?_))
      have h3 := h0.setRow R
      exact bodyPost_ret (results_rel2 rfl _ _ _ _ rfl h3) rfl ⟨⟨R, by rw [HV.out]; rfl, fun _ => HP.out⟩, below_setRow hb (by omega) _⟩
end Go.Proofs.YtflalehpdngklaaGreatDoor
