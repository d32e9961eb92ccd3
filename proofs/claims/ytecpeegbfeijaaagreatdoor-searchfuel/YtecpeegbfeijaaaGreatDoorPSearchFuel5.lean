/- Walks and plain facts that the proof of the statement SearchFuel uses, joined: PlaF AxiH OrdP LesA LesB AxhA PlaD PlaG PlaJ PlaK PlaL. Conditions: each theorem's own. -/
import Derived.BigQuiet
import Derived.Deep.QuietTactic
import Derived.Deep.AppendLies
import Derived.Test.YtecpeegbfeijaaaGreatDoorPSearchFuel0
import Derived.Test.YtecpeegbfeijaaaGreatDoorPSearchFuel2
import Derived.Test.YtecpeegbfeijaaaGreatDoorPSearchFuel3
import Derived.Test.YtecpeegbfeijaaaGreatDoorPSearchFuel4
namespace Go.Proofs.YtecpeegbfeijaaaGreatDoor
set_option maxRecDepth 100000
open Go.RowKit

theorem bit_ne (x k : Nat) (hx : x < 9223372036854775808) (hk : 2 ^ k < 9223372036854775808) {q : Int} (hq : bits .and .i64 (x : Int) ((2 ^ k : Nat) : Int) = q) : x.testBit k = !decide (q = 0) := by
  have := bit_zero x k hx hk
  rw [hq] at this
  cases hb : x.testBit k
  · rw [decide_eq_true (this.2 hb)]; rfl
  · rw [decide_eq_false (fun e => by rw [this.1 e] at hb; cases hb)]; rfl
set_option maxRecDepth 100000 in
set_option maxHeartbeats 16000000 in
theorem pwould_any {W : World} {S B b : Nat} {h : List TxnV} {C : Nat} {r : List Nat} {vb vr : Value} {aF sF : Nat → Nat} {w : World} (p : PlIs W S B b h C r vb vr aF sF w) (hc : checkI h = 0) (hC : C < 9223372036854775808) (i : Nat) (hi : i < h.length) :
    Calls Tryz.prog 151 #[.pointer (some ⟨S, 0, none⟩), .int .i64 i] w fun e w' => e = .returned (.int .u64 ((wld4 (baseN h C i) (plS r) (rivN h i) C sF aF : Nat) : Int)) ∧ Below w.heap.size w w' := by
  obtain ⟨q16, h16⟩ : ∃ q, bits .and .i64 (C : Int) 16 = q := ⟨_, rfl⟩
  obtain ⟨q8, h8⟩ : ∃ q, bits .and .i64 (C : Int) 8 = q := ⟨_, rfl⟩
  obtain ⟨q2, h2⟩ : ∃ q, bits .and .i64 (C : Int) 2 = q := ⟨_, rfl⟩
  obtain ⟨q4, h4⟩ : ∃ q, bits .and .i64 (C : Int) 4 = q := ⟨_, rfl⟩
  have H16 := Lib.hid (bit_ne C 4 hC (by omega) h16)
  have H8 := Lib.hid (bit_ne C 3 hC (by omega) h8)
  have H2 := Lib.hid (bit_ne C 1 hC (by omega) h2)
  have H4 := Lib.hid (bit_ne C 2 hC (by omega) h4)
  have hbs := baseN_set h C i
  have hps := plS_set r
  have hrs := rivN_set h i
  have E1 : Hid (wld1 (baseN h C i) (plS r) C = if q16 = 0 then baseN h C i else baseN h C i ||| plS r) := Lib.hid (by unfold wld1; rw [H16.out]; by_cases e : q16 = 0 <;> simp [e])
  have E2 : Hid (wld2 (baseN h C i) (plS r) (rivN h i) C = if q8 = 0 then wld1 (baseN h C i) (plS r) C else wld1 (baseN h C i) (plS r) C ||| (rivN h i &&& plS r)) := Lib.hid (by unfold wld2; rw [H8.out]; by_cases e : q8 = 0 <;> simp [e])
  have E3 : Hid (wld3 (baseN h C i) (plS r) (rivN h i) C sF = if q2 = 0 then wld2 (baseN h C i) (plS r) (rivN h i) C else wld2 (baseN h C i) (plS r) (rivN h i) C ||| joinN sF (wld2 (baseN h C i) (plS r) (rivN h i) C)) := Lib.hid (by unfold wld3; rw [H2.out]; by_cases e : q2 = 0 <;> simp [e])
  have E4 : Hid (wld4 (baseN h C i) (plS r) (rivN h i) C sF aF = if q4 = 0 then wld3 (baseN h C i) (plS r) (rivN h i) C sF else wld3 (baseN h C i) (plS r) (rivN h i) C sF ||| joinN aF (wld3 (baseN h C i) (plS r) (rivN h i) C sF)) := Lib.hid (by unfold wld4; rw [H4.out]; by_cases e : q4 = 0 <;> simp [e])
  have hsF : ∀ k, k < 64 → IsSet (sF k) := fun k hk => (p.set k hk).2
  have haF : ∀ k, k < 64 → IsSet (aF k) := fun k hk => (p.set k hk).1
  have s1 := wld1_set (C := C) hbs hps
  have s2 := wld2_set (C := C) hbs hps hrs
  have s3 := wld3_set (C := C) hbs hps hrs hsF
  have CJ1 := Lib.hid (fun s wx (hs : IsSet s) (hx : Below w.heap.size w wx) => joined_any S 69 sF s wx hs hsF (fun k hk => (p.below hx).a.cS hk) (p.below hx).tab)
  have CJ2 := Lib.hid (fun s wx (hs : IsSet s) (hx : Below w.heap.size w wx) => joined_any S 5 aF s wx hs haF (fun k hk => (p.below hx).a.cA hk) (p.below hx).tab)
  have CRV := Lib.hid (fun wx (hx : Below w.heap.size w wx) => ordis_rivals (p.below hx).ord hc i)
  have HS := Lib.hid (fun wx (hx : Below w.heap.size w wx) => And.intro (p.below hx).a.cO (And.intro (p.below hx).a.cC (p.below hx).a.cP))
  obtain ⟨gb, ob, cb, hvb, hcb⟩ : ∃ gb ob cb, vb = .slice (some ⟨gb, ob, none⟩) h.length cb ∧ w.cell? ⟨gb, ob + i, none⟩ = some (.int .u64 ((baseN h C i : Nat) : Int)) := by
    obtain ⟨hl, ao, cap, e, hm, hno, hcl⟩ := Row.of_owns p.ba
    obtain ⟨g, off, e2, hcell⟩ := hcl (by omega)
    refine ⟨g, off, cap, by rw [e, e2], ?_⟩
    rw [hcell i (by omega), List.getElem?_map, List.getElem?_range hi]; rfl
  have cB := p.a.cB
  rw [hvb] at cB
  obtain ⟨n0, n1, n2⟩ := HS.out w (Below.refl _ _)
  have hii : (i : Int) < (h.length : Int) := by omega
  have hb0 := Below.refl w.heap.size w
  have hr0 : IsSet (joinN sF (wld2 (baseN h C i) (plS r) (rivN h i) C)) := joinN_set hsF
  have hr1 : IsSet (joinN aF (wld3 (baseN h C i) (plS r) (rivN h i) C sF)) := joinN_set haF
  clear p H16 H8 H2 H4 hsF haF hvb hc hi
  generalize wld4 (baseN h C i) (plS r) (rivN h i) C sF aF = x4 at *
  generalize wld3 (baseN h C i) (plS r) (rivN h i) C sF = x3 at *
  generalize wld2 (baseN h C i) (plS r) (rivN h i) C = x2 at *
  generalize wld1 (baseN h C i) (plS r) C = x1 at *
  generalize baseN h C i = x0 at *
  generalize plS r = pl at *
  generalize rivN h i = rv at *
  have CJ1 := Lib.hid (fun wx (hx : Below w.heap.size w wx) => CJ1.out x2 wx s2 hx)
  have CJ2 := Lib.hid (fun wx (hx : Below w.heap.size w wx) => CJ2.out x3 wx s3 hx)
  generalize joinN sF x2 = j1 at *
  generalize joinN aF x3 = j2 at *
  have O1 := Go.bits_or_u64_nat _ _ hbs hps
  have O2 := Go.bits_and_u64_nat _ _ hrs hps
  have O3 := Go.bits_or_u64_nat _ _ s1 (isSet_and (t := pl) hrs)
  have O4 := Go.bits_or_u64_nat _ _ s2 hr0
  have O5 := Go.bits_or_u64_nat _ _ s3 hr1
  clear hbs hps hrs s1 s2 s3 hr0 hr1
  go_enter Tryz.func151, Tryz.ntmps151
  go_upto_if 18 with fail
  go_cut [5] from 13 to 24 (fun v wx => v = .int .u64 (x1 : Int) ∧ Below w.heap.size w wx)
  case first =>
    by_cases e : q16 = 0
    · have HE : Hid (x0 = x1) := Lib.hid (by rw [E1.out, if_pos e])
      go_wp2_with fail
      go_meet
      exact ⟨by rw [HE.out], hb0⟩
    · have HE : Hid (x0 ||| pl = x1) := Lib.hid (by rw [E1.out, if_neg e])
      have e2 := bne_iff_ne.2 e
      go_wp2_with fail
      go_meet
      exact ⟨by rw [← HE.out], hb0⟩
  obtain ⟨rfl, hb1⟩ := hcut
  generalize wc = w1 at *
  clear hb0 cB hcb n0 n1 n2
  obtain ⟨n0, n1, n2⟩ := HS.out _ hb1
  go_upto_if 30 with fail
  go_cut [5] from 25 to 43 (fun v wx => v = .int .u64 (x2 : Int) ∧ Below w.heap.size w wx)
  case first =>
    by_cases e : q8 = 0
    · have HE : Hid (x1 = x2) := Lib.hid (by rw [E2.out, if_pos e])
      go_wp2_with fail
      go_meet
      exact ⟨by rw [HE.out], hb1⟩
    · have HE : Hid (x1 ||| (rv &&& pl) = x2) := Lib.hid (by rw [E2.out, if_neg e])
      have e2 := bne_iff_ne.2 e
      go_upto_region 5 with fail
      refine wp_region_held_drew (S := Below w.heap.size w) (by kernel_rfl) hb1.drew (fun hS0 => ?_)
      refine takeG (some 31) (i := 0) (v := ?vua0) rfl rfl (by kernel_rfl) (by kernel_rfl) (by kernel_rfl) (fun _ _ _ h => h) (Or.inl ⟨by rfl, ?hua0⟩) hS0 ?rua0
      case hua0 => (intro w hw; obtain ⟨n0, n1, n2⟩ := HS.out _ hw; go_simp; try (with_reducible rfl))
      try simp only [Act.put, List.setIfInBounds_toArray, List.set_cons_zero, List.set_cons_succ]
      refine takeG (some 32) (i := 1) (v := ?vua1) rfl rfl (by kernel_rfl) (by kernel_rfl) (by kernel_rfl) (fun _ _ _ h => h) (Or.inl ⟨by rfl, ?hua1⟩) hS0 ?rua1
      case hua1 => (intro w hw; obtain ⟨n0, n1, n2⟩ := HS.out _ hw; go_simp; try (with_reducible rfl))
      try simp only [Act.put, List.setIfInBounds_toArray, List.set_cons_zero, List.set_cons_succ]
      refine takeG (some 33) (i := 2) (v := ?vua2) rfl rfl (by kernel_rfl) (by kernel_rfl) (by kernel_rfl) (fun _ _ _ h => h) (Or.inl ⟨by rfl, ?hua2⟩) hS0 ?rua2
      case hua2 => (intro w hw; obtain ⟨n0, n1, n2⟩ := HS.out _ hw; go_simp; try (with_reducible rfl))
      try simp only [Act.put, List.setIfInBounds_toArray, List.set_cons_zero, List.set_cons_succ]
      refine takeG (some 34) (i := 3) (v := ?vua3) rfl rfl (by kernel_rfl) (by kernel_rfl) (by kernel_rfl) (fun _ _ _ h => h) (Or.inl ⟨by rfl, ?hua3⟩) hS0 ?rua3
      case hua3 => (intro w hw; obtain ⟨n0, n1, n2⟩ := HS.out _ hw; go_simp; try (with_reducible rfl))
      try simp only [Act.put, List.setIfInBounds_toArray, List.set_cons_zero, List.set_cons_succ]
      refine takeG (some 35) (i := 4) (v := ?vua4) rfl rfl (by kernel_rfl) (by kernel_rfl) (by kernel_rfl) (fun _ _ _ h => h) (Or.inl ⟨by rfl, ?hua4⟩) hS0 ?rua4
      case hua4 => (intro w hw; obtain ⟨n0, n1, n2⟩ := HS.out _ hw; go_simp; try (with_reducible rfl))
      try simp only [Act.put, List.setIfInBounds_toArray, List.set_cons_zero, List.set_cons_succ]
      refine takeG (some 36) (i := 5) (v := ?vua5) rfl rfl (by kernel_rfl) (by kernel_rfl) (by kernel_rfl) (fun _ _ _ h => h) (Or.inl ⟨by rfl, ?hua5⟩) hS0 ?rua5
      case hua5 => (intro w hw; obtain ⟨n0, n1, n2⟩ := HS.out _ hw; go_simp; try (with_reducible rfl))
      try simp only [Act.put, List.setIfInBounds_toArray, List.set_cons_zero, List.set_cons_succ]
      refine takeG (some 38) (i := 7) (v := ?vua7) rfl rfl (by kernel_rfl) (by kernel_rfl) (by kernel_rfl) (fun _ _ _ h => h) (Or.inl ⟨by rfl, ?hua7⟩) hS0 ?rua7
      case hua7 => (intro w hw; obtain ⟨n0, n1, n2⟩ := HS.out _ hw; go_simp; try (with_reducible rfl))
      try simp only [Act.put, List.setIfInBounds_toArray, List.set_cons_zero, List.set_cons_succ]
      refine takeG (some 39) (i := 8) (v := ?vua8) rfl rfl (by kernel_rfl) (by kernel_rfl) (by kernel_rfl) (fun _ _ _ h => h) (Or.inl ⟨by rfl, ?hua8⟩) hS0 ?rua8
      case hua8 => (intro w hw; obtain ⟨n0, n1, n2⟩ := HS.out _ hw; go_simp; try (with_reducible rfl))
      try simp only [Act.put, List.setIfInBounds_toArray, List.set_cons_zero, List.set_cons_succ]
      refine takeG (some 40) (i := 9) (v := ?vua9) rfl rfl (by kernel_rfl) (by kernel_rfl) (by kernel_rfl) (fun _ _ _ h => h) (Or.inl ⟨by rfl, ?hua9⟩) hS0 ?rua9
      case hua9 => (intro w hw; obtain ⟨n0, n1, n2⟩ := HS.out _ hw; go_simp; try (with_reducible rfl))
      try simp only [Act.put, List.setIfInBounds_toArray, List.set_cons_zero, List.set_cons_succ]
      refine takeG (some 41) (i := 10) (v := ?vua10) rfl rfl (by kernel_rfl) (by kernel_rfl) (by kernel_rfl) (fun _ _ _ h => h) (Or.inl ⟨by rfl, ?hua10⟩) hS0 ?rua10
      case hua10 => (intro w hw; obtain ⟨n0, n1, n2⟩ := HS.out _ hw; go_simp; try (with_reducible rfl))
      try simp only [Act.put, List.setIfInBounds_toArray, List.set_cons_zero, List.set_cons_succ]
      refine wpAnyH_ready (rs := [6]) (by kernel_rfl) (by simp) ?_
      refine AllReadyH.cons rfl (fun K hK => ?_) AllReadyH.nil
      go_simp
      refine (CRV.out _ hS0).mono ?_
      rintro e y1 ⟨rfl, j1⟩
      show K _ _
      have s1 := below_then hS0 j1
      refine hK.out _ _ s1 (fun _ => ?_)
      clear hK K
      refine takeG (some 42) (i := 11) (v := ?vua11) rfl rfl (by kernel_rfl) (by kernel_rfl) (by kernel_rfl) (fun _ _ _ h => h) (Or.inl ⟨by rfl, ?hua11⟩) s1 ?rua11
      case hua11 => (intro w hw; obtain ⟨n0, n1, n2⟩ := HS.out _ hw; go_simp; try (with_reducible rfl))
      try simp only [Act.put, List.setIfInBounds_toArray, List.set_cons_zero, List.set_cons_succ]
      refine takeG (some 43) (i := 12) (v := ?vua12) rfl rfl (by kernel_rfl) (by kernel_rfl) (by kernel_rfl) (fun _ _ _ h => h) (Or.inl ⟨by rfl, ?hua12⟩) s1 ?rua12
      case hua12 => (intro w hw; obtain ⟨n0, n1, n2⟩ := HS.out _ hw; go_simp; try (with_reducible rfl))
      try simp only [Act.put, List.setIfInBounds_toArray, List.set_cons_zero, List.set_cons_succ]
      refine takeG (some 5) (i := 13) (v := ?vua13) rfl rfl (by kernel_rfl) (by kernel_rfl) (by kernel_rfl) (fun _ _ _ h => h) (Or.inl ⟨by rfl, ?hua13⟩) s1 ?rua13
      case hua13 => (intro w hw; obtain ⟨n0, n1, n2⟩ := HS.out _ hw; go_simp; try (with_reducible rfl))
      try simp only [Act.put, List.setIfInBounds_toArray, List.set_cons_zero, List.set_cons_succ]
      refine wpAnyH_done (by kernel_rfl) ?_ _
      rw [HE.out]
      go_wp2_with fail
      go_meet
      exact ⟨rfl, s1⟩
  obtain ⟨rfl, hb2⟩ := hcut
  generalize wc = w2 at *
  clear hb1 n0 n1 n2
  obtain ⟨n0, n1, n2⟩ := HS.out _ hb2
  go_upto_if 49 with fail
  go_cut [5] from 44 to 56 (fun v wx => v = .int .u64 (x3 : Int) ∧ Below w.heap.size w wx)
  case first =>
    by_cases e : q2 = 0
    · have HE : Hid (x2 = x3) := Lib.hid (by rw [E3.out, if_pos e])
      go_wp2_with fail
      go_meet
      exact ⟨by rw [HE.out], hb2⟩
    · have HE : Hid (x2 ||| j1 = x3) := Lib.hid (by rw [E3.out, if_neg e])
      have e2 := bne_iff_ne.2 e
      go_wp2_with fail
      refine (CJ1.out _ hb2).mono ?_
      rintro e w3 ⟨rfl, h3⟩
      have hb3 := below_then hb2 h3
      go_wp2_with fail
      go_meet
      exact ⟨by rw [← HE.out], hb3⟩
  obtain ⟨rfl, hb3⟩ := hcut
  generalize wc = w3 at *
  clear hb2 n0 n1 n2
  obtain ⟨n0, n1, n2⟩ := HS.out _ hb3
  go_upto_region 8 with fail
  by_cases e : q4 = 0
  · have HE : Hid ((x3 : Int) = ((x4 : Nat) : Int)) := Lib.hid (by rw [E4.out, if_pos e])
    go_wp2_with fail
    go_ret
    exact ⟨ret_i HE.out, hb3⟩
  · have HE : Hid (((x3 ||| j2 : Nat) : Int) = ((x4 : Nat) : Int)) := Lib.hid (by rw [E4.out, if_neg e])
    have e2 := bne_iff_ne.2 e
    go_wp2_with fail
    refine (CJ2.out _ hb3).mono ?_
    rintro e w4 ⟨rfl, h4⟩
    have hb4 := below_then hb3 h4
    go_wp2_with fail
    go_ret
    exact ⟨ret_i HE.out, hb4⟩
end Go.Proofs.YtecpeegbfeijaaaGreatDoor

namespace Go.Proofs.YtecpeegbfeijaaaGreatDoor
set_option maxRecDepth 100000
open Go.RowKit

/-- Where one stands in a row, from a place on; -1: nowhere. -/
def placeF : List Int → Int → Nat → Int
  | [], _, _ => -1
  | a :: r, i, k => if a = i then (k : Int) else placeF r i (k + 1)
def placeI (l : List Int) (i : Int) : Int := placeF l i 0
end Go.Proofs.YtecpeegbfeijaaaGreatDoor

namespace Go.Proofs.YtecpeegbfeijaaaGreatDoor
set_option maxRecDepth 100000
open Go.RowKit

/-- Does one come ahead of another one in a row, as the reference says it? -/
def ahR (l : List Int) (i k : Int) : Bool := decide (placeI l i < placeI l k)
/-- Must one be seen by another one, whatever else is, as the reference says it? -/
def mustR (h : List TxnV) (x : Nat) (l : List Int) (i k : Nat) : Bool := ((froR h i k || (hasT x 1 && sesP h i k)) || (hasT x 32 && timP h i k)) || (ahR l (i : Int) (k : Int) && (hasT x 16 || (hasT x 8 && rivR h i k)))
end Go.Proofs.YtecpeegbfeijaaaGreatDoor

namespace Go.Proofs.YtecpeegbfeijaaaGreatDoor
set_option maxRecDepth 100000
open Go.RowKit

/-- All pairs of numbers below n. -/
def gridP (n : Nat) : List Pr := (List.range n).flatMap fun i => (List.range n).map fun k => (((i : Nat) : Int), ((k : Nat) : Int))
theorem gridP_len (n : Nat) : (gridP n).length = n * n := by
  unfold gridP
  rw [List.length_flatMap]
  have : ((List.range n).map fun i => ((List.range n).map fun k => ((((i : Nat) : Int), ((k : Nat) : Int)) : Pr)).length) = (List.range n).map fun _ => n := by simp
  rw [this, List.map_const']
  have hr : ∀ n k : Nat, (List.replicate n k).sum = n * k := by
    intro n k; induction n with
    | zero => simp
    | succ n ih => rw [List.replicate_succ, List.sum_cons, ih, Nat.succ_mul]; omega
  rw [hr, List.length_range]
theorem mem_gridP {n : Nat} {p : Pr} : p ∈ gridP n ↔ ∃ i k : Nat, i < n ∧ k < n ∧ p = ((i : Int), (k : Int)) := by
  unfold gridP
  rw [List.mem_flatMap]
  constructor
  · rintro ⟨i, hi, h⟩
    obtain ⟨k, hk, e⟩ := List.mem_map.1 h
    exact ⟨i, k, List.mem_range.1 hi, List.mem_range.1 hk, e.symm⟩
  · rintro ⟨i, k, hi, hk, rfl⟩
    exact ⟨i, List.mem_range.2 hi, List.mem_map.2 ⟨k, List.mem_range.2 hk, rfl⟩⟩
/-- Each once, of numbers below n, and each is one of M. -/
def InM (n : Nat) (M : Nat → Nat → Prop) (m : List Pr) : Prop := m.Nodup ∧ ∀ p ∈ m, ∃ i k : Nat, i < n ∧ k < n ∧ p = ((i : Int), (k : Int)) ∧ M i k
theorem InM.len {n : Nat} {M : Nat → Nat → Prop} {m : List Pr} (h : InM n M m) : m.length ≤ n * n := by
  rw [← gridP_len]
  refine nodup_le m (gridP n) h.1 fun p hp => ?_
  obtain ⟨i, k, hi, hk, e, _⟩ := h.2 p hp
  exact mem_gridP.2 ⟨i, k, hi, hk, e⟩
theorem InM.put {n : Nat} {M : Nat → Nat → Prop} {m : List Pr} (h : InM n M m) {i k : Nat} (hi : i < n) (hk : k < n) (hM : M i k) : InM n M (putP m (i : Int) (k : Int)) := by
  refine ⟨putP_nodup h.1, fun p hp => ?_⟩
  rcases mem_putP.1 hp with hp | rfl
  · exact h.2 p hp
  · exact ⟨i, k, hi, hk, rfl, hM⟩
/-- What must be seen of the start, what comes ahead, as the reference says it. -/
def staR (h : List TxnV) (x : Nat) (l : List Int) (n : Nat) : Mat := fun i k => decide (i < n) && decide (k < n) && decide (i ≠ k) && mustR h x l i k
/-- Are all pairs ahead of a place looked at: each is there, or isn't wanted? -/
def DoneTo (n : Nat) (P : Nat → Nat → Prop) (i0 k0 : Nat) : Prop := ∀ i k : Nat, i < n → k < n → (i < i0 ∨ (i = i0 ∧ k < k0)) → P i k
theorem DoneTo.row {n : Nat} {P : Nat → Nat → Prop} {i0 : Nat} (h : DoneTo n P i0 n) : DoneTo n P (i0 + 1) 0 := fun i k hi hk hlt => h i k hi hk (by omega)
theorem DoneTo.next {n : Nat} {P : Nat → Nat → Prop} {i0 k0 : Nat} (h : DoneTo n P i0 k0) (hp : P i0 k0) : DoneTo n P i0 (k0 + 1) := fun i k hi hk hlt => by
  by_cases e : i = i0 ∧ k = k0
  · rw [e.1, e.2]; exact hp
  · exact h i k hi hk (by omega)
theorem DoneTo.none {n : Nat} {P : Nat → Nat → Prop} : DoneTo n P 0 0 := fun i k _ _ h => by omega
theorem DoneTo.mono {n : Nat} {P Q : Nat → Nat → Prop} {i0 k0 : Nat} (h : DoneTo n P i0 k0) (hp : ∀ i k, P i k → Q i k) : DoneTo n Q i0 k0 := fun i k hi hk hlt => hp i k (h i k hi hk hlt)
theorem DoneTo.all {n : Nat} {P : Nat → Nat → Prop} {k0 : Nat} (h : DoneTo n P n k0) (i k : Nat) (hi : i < n) (hk : k < n) : P i k := h i k hi hk (.inl hi)
/-- The first round: what must be seen of the start. -/
def FirP (h : List TxnV) (x : Nat) (l : List Int) (n : Nat) (m : List Pr) (i k : Nat) : Prop := staR h x l n i k = true → ((i : Int), (k : Int)) ∈ m
theorem FirP.put {h : List TxnV} {x : Nat} {l : List Int} {n : Nat} {m : List Pr} {a b : Int} {i k : Nat} (hf : FirP h x l n m i k) : FirP h x l n (putP m a b) i k := fun hs => mem_putP.2 (.inl (hf hs))
end Go.Proofs.YtecpeegbfeijaaaGreatDoor

namespace Go.Proofs.YtecpeegbfeijaaaGreatDoor
set_option maxRecDepth 100000
open Go.RowKit

theorem all_congr {α : Type} {p q : α → Bool} : ∀ (l : List α), (∀ a ∈ l, p a = q a) → l.all p = l.all q
  | [], _ => rfl
  | a :: l, h => by rw [List.all_cons, List.all_cons, h a List.mem_cons_self, all_congr l (fun b hb => h b (List.mem_cons_of_mem _ hb))]
end Go.Proofs.YtecpeegbfeijaaaGreatDoor

namespace Go.Proofs.YtecpeegbfeijaaaGreatDoor
set_option maxRecDepth 100000
open Go.RowKit

theorem baseN_bit {h : List TxnV} {C i j : Nat} (hi : i < 64) : (baseN h C i).testBit j = true ↔ j < 64 ∧ baseM h (C : Int) j i = true := by
  unfold baseN
  rw [seeTo_bit _ _ _ _ (Nat.le_refl 64), Bool.and_eq_true, decide_eq_true_eq]
  exact ⟨fun ⟨a, b⟩ => ⟨a, by rwa [hasR_nat _ _ _ a hi] at b⟩, fun ⟨a, b⟩ => ⟨a, by rw [hasR_nat _ _ _ a hi]; exact b⟩⟩
theorem rivN_bit {h : List TxnV} {i j : Nat} : (rivN h i).testBit j = true ↔ j < 64 ∧ rivB h i j = true := by
  unfold rivN
  rw [testBit_mkS, Bool.and_eq_true, decide_eq_true_eq]
/-- What is seen, as a relation. -/
def seesR (h : List TxnV) (C : Nat) (r : List Nat) : Mat := fun j k => (plSee h C r k).testBit j
section
variable {h : List TxnV} {C : Nat}
theorem RowG.drop : ∀ {p r : List Nat}, RowG h C (p ++ r) → RowG h C r
  | [], _, g => g
  | _ :: p, _, g => RowG.drop (p := p) g.tail
theorem aheadL_drop : ∀ {p r : List Nat}, (p ++ r).Nodup → ∀ {k : Nat}, k ∈ r → aheadL (p ++ r) k = aheadL r k
  | [], _, _, _, _ => rfl
  | i :: p, r, hn, k, hk => by
    obtain ⟨hi, hn'⟩ := List.nodup_cons.1 (show (i :: (p ++ r)).Nodup from hn)
    show aheadL (i :: (p ++ r)) k = _
    rw [aheadL_tail (fun e => hi (by rw [← e]; exact List.mem_append_right _ hk)), aheadL_drop hn' hk]
end
/-- What one reads of others: nothing, or what another one wrote. -/
theorem read_from {h : List TxnV} (hc : checkI h = 0) {k : Nat} (hk : k < h.length) {x : Int × Int} (hx : x ∈ readsOf h k) : x.2 = -1 ∨ ∃ n : Nat, n < h.length ∧ x.2 = (n : Int) ∧ n ≠ k ∧ (wrtN h x.1).testBit n = true := by
  rw [reads_same hc hk] at hx
  unfold rdR at hx
  obtain ⟨o, ho, rfl⟩ := List.mem_map.1 hx
  obtain ⟨ho1, ho2⟩ := List.mem_filter.1 ho
  obtain ⟨h1, h2⟩ := refReads_in ho1
  rcases reads_F (may_of hc) hk h1 h2 with ⟨h0, hn⟩ | ⟨h0, u, hu, hku, hw⟩
  · left; unfold fromR; rw [if_pos h0]
  · right
    obtain ⟨p, hp, hpv, hpk⟩ := real_wr h h.length (Nat.le_refl _) o.val u hu
    obtain ⟨t, ht, hpt, hpw⟩ := wrs_mem.1 hp
    obtain ⟨n, hn, rfl⟩ := List.getElem_of_mem ht
    have h3 := may_wr (may_of hc) hn hpt hpw
    rw [hpv, hu] at h3
    have h4 := Option.some.inj h3
    have hui : u.i = (n : Int) := by rw [h4]
    have hfr : fromR h o = (n : Int) := by unfold fromR; rw [if_neg h0, hw, hui]
    refine ⟨n, hn, hfr, ?_, ?_⟩
    · rintro rfl
      rw [hfr] at ho2
      simp at ho2
    · have h64 := (check_zero hc).1
      show (wrtN h o.key).testBit n = true
      unfold wrtN
      rw [testBit_mkS, decide_eq_true (show n < 64 by omega), decide_eq_true hn, Bool.true_and, Bool.true_and, decide_eq_true_eq, opsAt_eq hn]
      unfold keysOf
      rw [← hku, ← hpk]
      obtain ⟨a, b⟩ := (check_zero hc).2.2.2 _ (List.getElem_mem hn) p hpt
      obtain ⟨q, hq⟩ := Option.isSome_iff_exists.1 (lastW_some h[n].l hpw h[n].l.length (Nat.le_refl _) (by rw [List.take_length]; exact hpt))
      rw [List.take_length] at hq
      refine List.mem_map.2 ⟨q, upTo_mem.2 ⟨p.key.toNat, by omega, ?_⟩, (lastW_key hq).1⟩
      unfold wrK
      rw [Int.toNat_of_nonneg a]; exact hq
theorem from_base {h : List TxnV} {C : Nat} (hC : C < 9223372036854775808) (h64 : h.length ≤ 64) {k n : Nat} (hk : k < h.length) (hn : n < h.length) {x : Int × Int} (hx : x ∈ readsOf h k) (he : x.2 = (n : Int)) : (baseN h C k).testBit n = true := by
  rw [baseN_bit (by omega)]
  refine ⟨by omega, (baseM_iff h C hC n k).2 (.inl ?_)⟩
  refine (prsTo_iff (froP h) h.length n k (by omega) (by omega) h.length).2 ⟨hn, hk, ?_⟩
  unfold froP
  rw [List.any_eq_true]
  exact ⟨x, hx, by rw [he]; simp⟩
theorem readsP_congr {h : List TxnV} {aF aG : Nat → Nat} {s k : Nat} (hc : ∀ x ∈ readsOf h k, 0 ≤ x.2 → aF x.2.toNat = aG x.2.toNat) : readsP h aF s k = readsP h aG s k := by
  unfold readsP
  refine all_congr _ fun x hx => ?_
  unfold readP readW
  by_cases h0 : 0 ≤ x.2
  · rw [if_pos h0, if_pos h0, hc x hx h0]
  · rw [if_neg h0, if_neg h0]
section
variable {h : List TxnV} {C : Nat}
theorem inB_bits {s t : Nat} (hs : IsSet s) : inB s t = true ↔ ∀ j, s.testBit j = true → t.testBit j = true := by
  rw [inB_iff hs]
  exact ⟨fun q j hj => q j (by by_cases e : j < 64; exact e; rw [hs.high (by omega)] at hj; cases hj) hj, fun q j _ hj => q j hj⟩
/-- May all come, one behind the other? -/
def allT (h : List TxnV) (C : Nat) : List Nat → List Nat → Bool
  | _, [] => true
  | r, i :: l => tryP h C r i && allT h C (i :: r) l
end
end Go.Proofs.YtecpeegbfeijaaaGreatDoor

namespace Go.Proofs.YtecpeegbfeijaaaGreatDoor
set_option maxRecDepth 100000
open Go.RowKit

/-- Where what is read lies, and who writes to each key. -/
theorem ordis_rd {w : World} {B b : Nat} {h : List TxnV} (hO : OrdIs w B b h) (hc : checkI h = 0) {i : Nat} (hi : i < h.length) : ∃ bm g o rcap ao cap, w.cell? ⟨B, 193, none⟩ = some (.map (some bm)) ∧ w.cell? ⟨B, 195, none⟩ = some (.slice (some ⟨g, o, none⟩) h.length rcap) ∧
    w.cell? ⟨g, o + i, none⟩ = some (.slice ao (readsOf h i).length cap) ∧ Frs w (.slice ao (readsOf h i).length cap) (readsOf h i) ∧ bm < w.heap.size ∧
    ∀ wx, Below w.heap.size w wx → ∀ y, InI y → Sem.run Tryz.prog (Instr.lookup 98 (.map (some bm)) (.int .i64 y) false) wx = .ok (.int .u64 ((wrtN h y : Nat) : Int)) wx := by
  obtain ⟨bm, m, c, vk, vr, K, R, h1, h2, h3, h4, h5, h6⟩ := hO
  have hl : R.length = h.length := by have := congrArg List.length h6; simpa [readsTo] using this
  have hF := h4.frws
  obtain ⟨⟨hlen, ro, rcap, rfl, hm, hno, hcc⟩, hE⟩ := hF
  obtain ⟨g, o, rfl, hcell⟩ := hcc (by omega)
  have hiR : i < R.length := by omega
  have he : R[i].2 = readsOf h i := by
    have := congrArg (·[i]?) h6
    simp only [List.getElem?_map, List.getElem?_eq_getElem hiR, readsTo, List.getElem?_range hi, Option.map_some] at this
    exact Option.some.inj this
  have hfr := hE _ (List.getElem_mem hiR)
  rw [he] at hfr
  obtain ⟨ao, cap, e, _⟩ := hfr.form
  have hcR := h1.cR
  rw [hl] at hcR
  refine ⟨bm, g, o, rcap, ao, cap, h1.cM, hcR, ?_, by rw [← e]; exact hfr, h2.lt, fun wx hx y hy => ?_⟩
  · rw [hcell i (by omega), List.getElem?_map, List.getElem?_eq_getElem hiR, ← e]; rfl
  · have hK := lookI_run (t := 98) (el := 95) (w := wx) false keyI mapIS 0 (zeroS _) (h2.below hx) hy
    rw [wrt_eq hc h5 h3 y] at hK
    simpa only [Bool.false_eq_true, if_false, eS] using hK
theorem all_take {α : Type} {l : List α} {f : α → Bool} {k : Nat} (hk : k < l.length) (hp : (l.take k).all f = true) (hy : f l[k] = true) : (l.take (k + 1)).all f = true := by
  rw [List.take_succ_eq_append_getElem hk, List.all_append, hp]; simp [hy]
theorem all_no {α : Type} {l : List α} {f : α → Bool} {k : Nat} (hk : k < l.length) (hn : f l[k] = false) : l.all f = false := by
  rw [List.all_eq_false]
  exact ⟨_, List.getElem_mem hk, by rw [hn]; simp⟩
set_option maxRecDepth 100000 in
set_option maxHeartbeats 16000000 in
theorem preads_any {W : World} {S B b : Nat} {h : List TxnV} {C : Nat} {r : List Nat} {vb vr : Value} {aF sF : Nat → Nat} {w : World} (p : PlIs W S B b h C r vb vr aF sF w) (hc : checkI h = 0) (i : Nat) (hi : i < h.length) (s : Nat) (hs : IsSet s) :
    Calls Tryz.prog 152 #[.pointer (some ⟨S, 0, none⟩), .int .i64 i, .int .u64 (s : Int)] w fun e w' => e = .returned (.bool (readsP h aF s i)) ∧ Below w.heap.size w w' := by
  have HR : Hid (readsP h aF s i = (readsOf h i).all (readP h aF s)) := Lib.hid rfl
  have h64 := (check_zero hc).1
  have hii : (i : Int) < (h.length : Int) := by omega
  obtain ⟨bm, g, o, rcap, ao, cap, n1, n2, n3, hfr, _, hlook⟩ := ordis_rd p.ord hc hi
  have n0 := p.a.cO
  have HF := Lib.hid (fun wx (hx : Below w.heap.size w wx) => hfr.below hx)
  have HP := Lib.hid (fun wx (hx : Below w.heap.size w wx) => And.intro (p.below hx).a.cO ((hx.cell (p := ⟨B, 193, none⟩) (block_lt n1)).trans n1))
  have HLK := Lib.hid hlook
  have HA := Lib.hid (fun wx (hx : Below w.heap.size w wx) k (hk : k < 64) => (p.below hx).a.cA hk)
  have HAS := Lib.hid (fun k (hk : k < 64) => (p.set k hk).1)
  have HKEY := Lib.hid (fun r (hr : r ∈ readsOf h i) => reads_key hc hi hr)
  have HFR : Hid (∀ r ∈ readsOf h i, r.2 < 64) := Lib.hid (fun r hr => by
    rcases read_from hc hi hr with e | ⟨n, hn, e, _⟩
    · omega
    · omega)
  have HW := Lib.hid (fun y => wrtN_set h y)
  have hb0 := Below.refl w.heap.size w
  obtain ⟨_, _, _, hri⟩ := hfr.form
  clear p hfr hlook hc n1 hi h64
  go_enter Tryz.func152, Tryz.ntmps152
  go_wp2_with fail
  clear n0 n2 n3
  go_loopw [21] (fun j wx => ∃ k : Nat, k ≤ (readsOf h i).length ∧ j = .int .i64 k ∧ Hid (((readsOf h i).take k).all (readP h aF s) = true) ∧ Below w.heap.size w wx) (fun j _ => (readsOf h i).length - (intOf j).toNat)
  case atStart => exact ⟨0, by omega, rfl, Lib.hid rfl, hb0⟩
  case round =>
    clear hb0
    obtain ⟨k, hk, rfl, HRO, hbk⟩ := hrel
    by_cases hlk : k < (readsOf h i).length
    · have hkk : (k : Int) < ((readsOf h i).length : Int) := by omega
      obtain ⟨gk, ok, hao, e0, e1⟩ := (HF.out _ hbk).at hlk
      cases hao
      have hkey := HKEY.out _ (List.getElem_mem hlk)
      have hrf := HFR.out _ (List.getElem_mem hlk)
      have HYE := Lib.hid (fun hy => all_take (f := readP h aF s) hlk HRO.out hy)
      have HNO := Lib.hid (fun hn => all_no (f := readP h aF s) hlk hn)
      have HRD : Hid (readP h aF s (readsOf h i)[k] = decide (readW h aF s (readsOf h i)[k] = 0)) := Lib.hid rfl
      generalize readP h aF s (readsOf h i)[k] = rb at *
      generalize (readsOf h i)[k] = rr at *
      obtain ⟨rk, rf⟩ := rr
      simp only at e0 e1 hkey HRD hrf
      have hkI : InI rk := inI_of (by unfold IntOk; omega)
      have hset := HW.out rk
      have HWE : Hid (readW h aF s (rk, rf) = if 0 ≤ rf then lackN (s &&& wrtN h rk) (withS (aF rf.toNat) rf) else s &&& wrtN h rk) := Lib.hid rfl
      have HLK2 := Lib.hid (fun wx (hx : Below w.heap.size w wx) => HLK.out wx hx rk hkI)
      generalize readW h aF s (rk, rf) = z at *
      generalize wrtN h rk = x at *
      have hand := Go.bits_and_u64_nat _ _ hs hset
      have hsx : IsSet (s &&& x) := isSet_and hs
      generalize s &&& x = sx at *
      have hbq := hbk.alloc hbk.size (.cells #[.int .i64 rk, .int .i64 rf] 111)
      obtain ⟨d0, d1⟩ : (wr.alloc (.cells #[.int .i64 rk, .int .i64 rf] 111)).cell? ⟨wr.heap.size, 0, none⟩ = some (.int .i64 rk) ∧ (wr.alloc (.cells #[.int .i64 rk, .int .i64 rf] 111)).cell? ⟨wr.heap.size, 1, none⟩ = some (.int .i64 rf) := by
        constructor <;> (rw [cell_of_row _ _ _ _ _ _ (heap_alloc_new wr _)]; rfl)
      go_upto_region 4 with fail
      clear e0 e1 hbk hkI hset
      generalize wr.alloc (.cells #[.int .i64 rk, .int .i64 rf] 111) = w5 at *
      generalize wr.heap.size = q at *
      have HBQ := Lib.hid (fun wx (hx : Below w5.heap.size w5 wx) => hbq.trans (hx.mono hbq.size))
      have HS := Lib.hid (fun wx (hx : Below w5.heap.size w5 wx) => And.intro (HP.out wx (hbq.trans (hx.mono hbq.size))) (And.intro ((hx.cell (p := ⟨q, 0, none⟩) (block_lt d0)).trans d0) (And.intro ((hx.cell (p := ⟨q, 1, none⟩) (block_lt d1)).trans d1) (HLK2.out wx (hbq.trans (hx.mono hbq.size))))))
      have kd := (Below.refl w5.heap.size w5).drew
      clear d0 d1 hbq
      refine wp_region_held_drew (S := Below w5.heap.size w5) (by kernel_rfl) kd (fun hS0 => ?_)
      refine takeG (some 25) (i := 0) (v := ?vra0) rfl rfl (by kernel_rfl) (by kernel_rfl) (by kernel_rfl) (fun _ _ _ h => h) (Or.inl ⟨by rfl, ?hra0⟩) hS0 ?rra0
      case hra0 => (intro w hw; obtain ⟨⟨m0, m1⟩, m2, m3, m4⟩ := HS.out _ hw; go_simp; try (with_reducible rfl))
      try simp only [Act.put, List.setIfInBounds_toArray, List.set_cons_zero, List.set_cons_succ]
      refine takeG (some 26) (i := 1) (v := ?vra1) rfl rfl (by kernel_rfl) (by kernel_rfl) (by kernel_rfl) (fun _ _ _ h => h) (Or.inl ⟨by rfl, ?hra1⟩) hS0 ?rra1
      case hra1 => (intro w hw; obtain ⟨⟨m0, m1⟩, m2, m3, m4⟩ := HS.out _ hw; go_simp; try (with_reducible rfl))
      try simp only [Act.put, List.setIfInBounds_toArray, List.set_cons_zero, List.set_cons_succ]
      refine takeG (some 27) (i := 2) (v := ?vra2) rfl rfl (by kernel_rfl) (by kernel_rfl) (by kernel_rfl) (fun _ _ _ h => h) (Or.inl ⟨by rfl, ?hra2⟩) hS0 ?rra2
      case hra2 => (intro w hw; obtain ⟨⟨m0, m1⟩, m2, m3, m4⟩ := HS.out _ hw; go_simp; try (with_reducible rfl))
      try simp only [Act.put, List.setIfInBounds_toArray, List.set_cons_zero, List.set_cons_succ]
      refine takeG (some 28) (i := 3) (v := ?vra3) rfl rfl (by kernel_rfl) (by kernel_rfl) (by kernel_rfl) (fun _ _ _ h => h) (Or.inl ⟨by rfl, ?hra3⟩) hS0 ?rra3
      case hra3 => (intro w hw; obtain ⟨⟨m0, m1⟩, m2, m3, m4⟩ := HS.out _ hw; go_simp; try (with_reducible rfl))
      try simp only [Act.put, List.setIfInBounds_toArray, List.set_cons_zero, List.set_cons_succ]
      refine takeG (some 29) (i := 4) (v := ?vra4) rfl rfl (by kernel_rfl) (by kernel_rfl) (by kernel_rfl) (fun _ _ _ h => h) (Or.inl ⟨by rfl, ?hra4⟩) hS0 ?rra4
      case hra4 => (intro w hw; obtain ⟨⟨m0, m1⟩, m2, m3, m4⟩ := HS.out _ hw; go_simp; try (with_reducible rfl))
      try simp only [Act.put, List.setIfInBounds_toArray, List.set_cons_zero, List.set_cons_succ]
      refine takeG (some 30) (i := 5) (v := ?vra5) rfl rfl (by kernel_rfl) (by kernel_rfl) (by kernel_rfl) (fun _ _ _ h => h) (Or.inl ⟨by rfl, ?hra5⟩) hS0 ?rra5
      case hra5 => (intro w hw; obtain ⟨⟨m0, m1⟩, m2, m3, m4⟩ := HS.out _ hw; go_simp; try (with_reducible rfl))
      try simp only [Act.put, List.setIfInBounds_toArray, List.set_cons_zero, List.set_cons_succ]
      refine takeG (some 31) (i := 6) (v := ?vra6) rfl rfl (by kernel_rfl) (by kernel_rfl) (by kernel_rfl) (fun _ _ _ h => h) (Or.inl ⟨by rfl, ?hra6⟩) hS0 ?rra6
      case hra6 => (intro w hw; obtain ⟨⟨m0, m1⟩, m2, m3, m4⟩ := HS.out _ hw; go_simp; try (with_reducible rfl))
      try simp only [Act.put, List.setIfInBounds_toArray, List.set_cons_zero, List.set_cons_succ]
      refine takeG (some 32) (i := 7) (v := ?vra7) rfl rfl (by kernel_rfl) (by kernel_rfl) (by kernel_rfl) (fun _ _ _ h => h) (Or.inl ⟨by rfl, ?hra7⟩) hS0 ?rra7
      case hra7 => (intro w hw; obtain ⟨⟨m0, m1⟩, m2, m3, m4⟩ := HS.out _ hw; go_simp; try (with_reducible rfl))
      try simp only [Act.put, List.setIfInBounds_toArray, List.set_cons_zero, List.set_cons_succ]
      refine takeG (some 33) (i := 8) (v := ?vra8) rfl rfl (by kernel_rfl) (by kernel_rfl) (by kernel_rfl) (fun _ _ _ h => h) (Or.inl ⟨by rfl, ?hra8⟩) hS0 ?rra8
      case hra8 => (intro w hw; obtain ⟨⟨m0, m1⟩, m2, m3, m4⟩ := HS.out _ hw; go_simp; try (with_reducible rfl))
      try simp only [Act.put, List.setIfInBounds_toArray, List.set_cons_zero, List.set_cons_succ]
      refine takeG (some 34) (i := 9) (v := ?vra9) rfl rfl (by kernel_rfl) (by kernel_rfl) (by kernel_rfl) (fun _ _ _ h => h) (Or.inl ⟨by rfl, ?hra9⟩) hS0 ?rra9
      case hra9 => (intro w hw; obtain ⟨⟨m0, m1⟩, m2, m3, m4⟩ := HS.out _ hw; go_simp; try (with_reducible rfl))
      try simp only [Act.put, List.setIfInBounds_toArray, List.set_cons_zero, List.set_cons_succ]
      refine takeG (some 35) (i := 10) (v := ?vra10) rfl rfl (by kernel_rfl) (by kernel_rfl) (by kernel_rfl) (fun _ _ _ h => h) (Or.inl ⟨by rfl, ?hra10⟩) hS0 ?rra10
      case hra10 => (intro w hw; obtain ⟨⟨m0, m1⟩, m2, m3, m4⟩ := HS.out _ hw; go_simp; try (with_reducible rfl))
      try simp only [Act.put, List.setIfInBounds_toArray, List.set_cons_zero, List.set_cons_succ]
      refine takeG (some 36) (i := 11) (v := ?vra11) rfl rfl (by kernel_rfl) (by kernel_rfl) (by kernel_rfl) (fun _ _ _ h => h) (Or.inl ⟨by rfl, ?hra11⟩) hS0 ?rra11
      case hra11 => (intro w hw; obtain ⟨⟨m0, m1⟩, m2, m3, m4⟩ := HS.out _ hw; go_simp; try (with_reducible rfl))
      try simp only [Act.put, List.setIfInBounds_toArray, List.set_cons_zero, List.set_cons_succ]
      refine takeG (some 9) (i := 12) (v := ?vra12) rfl rfl (by kernel_rfl) (by kernel_rfl) (by kernel_rfl) (fun _ _ _ h => h) (Or.inl ⟨by rfl, ?hra12⟩) hS0 ?rra12
      case hra12 => (intro w hw; obtain ⟨⟨m0, m1⟩, m2, m3, m4⟩ := HS.out _ hw; go_simp; try (with_reducible rfl))
      try simp only [Act.put, List.setIfInBounds_toArray, List.set_cons_zero, List.set_cons_succ]
      refine wpAnyH_done (by kernel_rfl) ?_ _
      clear hand
      obtain ⟨⟨m0, m1⟩, m2, m3, m4⟩ := HS.out _ kd
      clear m4 m1
      go_upto_if 39 with fail
      go_cut [9] from 37 to 51 (fun v wx => v = .int .u64 (z : Int) ∧ Below w5.heap.size w5 wx)
      case first =>
        by_cases h0 : 0 ≤ rf
        · obtain ⟨n, rfl⟩ := Int.eq_ofNat_of_zero_le h0
          have hn64 : n < 64 := by omega
          have hni : (n : Int) < 64 := by omega
          have hAn := HAS.out n hn64
          have CW := Lib.hid (fun wx => with_any (aF n) (n : Int) wx hAn)
          have HE : Hid (bits .andNot .u64 (sx : Int) ((withS (aF n) (n : Int) : Nat) : Int) = (z : Int)) := Lib.hid (by
            rw [bits_andNot_u64_nat _ _ hsx (isSet_withS hAn), HWE.out, if_pos h0, Int.toNat_natCast]; rfl)
          have HS3 := Lib.hid (fun wx (hx : Below w5.heap.size w5 wx) => And.intro (HS.out wx hx) (HA.out wx (HBQ.out wx hx) n hn64))
          generalize withS (aF n) (n : Int) = y at *
          generalize aF n = an at *
          clear m0 m2 hAn HWE HRD HYE HNO HS HA HAS
          go_upto_region 6 with fail
          refine wp_region_held_drew (S := Below w5.heap.size w5) (by kernel_rfl) kd.drew (fun hS0 => ?_)
          refine takeG (some 40) (i := 0) (v := ?vrb0) rfl rfl (by kernel_rfl) (by kernel_rfl) (by kernel_rfl) (fun _ _ _ h => h) (Or.inl ⟨by rfl, ?hrb0⟩) hS0 ?rrb0
          case hrb0 => (intro w hw; obtain ⟨⟨⟨m0, m1⟩, m2, m3, _⟩, m5⟩ := HS3.out _ hw; go_simp; try (with_reducible rfl))
          try simp only [Act.put, List.setIfInBounds_toArray, List.set_cons_zero, List.set_cons_succ]
          refine takeG (some 41) (i := 1) (v := ?vrb1) rfl rfl (by kernel_rfl) (by kernel_rfl) (by kernel_rfl) (fun _ _ _ h => h) (Or.inl ⟨by rfl, ?hrb1⟩) hS0 ?rrb1
          case hrb1 => (intro w hw; obtain ⟨⟨⟨m0, m1⟩, m2, m3, _⟩, m5⟩ := HS3.out _ hw; go_simp; try (with_reducible rfl))
          try simp only [Act.put, List.setIfInBounds_toArray, List.set_cons_zero, List.set_cons_succ]
          refine takeG (some 42) (i := 2) (v := ?vrb2) rfl rfl (by kernel_rfl) (by kernel_rfl) (by kernel_rfl) (fun _ _ _ h => h) (Or.inl ⟨by rfl, ?hrb2⟩) hS0 ?rrb2
          case hrb2 => (intro w hw; obtain ⟨⟨⟨m0, m1⟩, m2, m3, _⟩, m5⟩ := HS3.out _ hw; go_simp; try (with_reducible rfl))
          try simp only [Act.put, List.setIfInBounds_toArray, List.set_cons_zero, List.set_cons_succ]
          refine takeG (some 43) (i := 3) (v := ?vrb3) rfl rfl (by kernel_rfl) (by kernel_rfl) (by kernel_rfl) (fun _ _ _ h => h) (Or.inl ⟨by rfl, ?hrb3⟩) hS0 ?rrb3
          case hrb3 => (intro w hw; obtain ⟨⟨⟨m0, m1⟩, m2, m3, _⟩, m5⟩ := HS3.out _ hw; go_simp; try (with_reducible rfl))
          try simp only [Act.put, List.setIfInBounds_toArray, List.set_cons_zero, List.set_cons_succ]
          refine takeG (some 44) (i := 4) (v := ?vrb4) rfl rfl (by kernel_rfl) (by kernel_rfl) (by kernel_rfl) (fun _ _ _ h => h) (Or.inl ⟨by rfl, ?hrb4⟩) hS0 ?rrb4
          case hrb4 => (intro w hw; obtain ⟨⟨⟨m0, m1⟩, m2, m3, _⟩, m5⟩ := HS3.out _ hw; go_simp; try (with_reducible rfl))
          try simp only [Act.put, List.setIfInBounds_toArray, List.set_cons_zero, List.set_cons_succ]
          refine takeG (some 45) (i := 5) (v := ?vrb5) rfl rfl (by kernel_rfl) (by kernel_rfl) (by kernel_rfl) (fun _ _ _ h => h) (Or.inl ⟨by rfl, ?hrb5⟩) hS0 ?rrb5
          case hrb5 => (intro w hw; obtain ⟨⟨⟨m0, m1⟩, m2, m3, _⟩, m5⟩ := HS3.out _ hw; go_simp; try (with_reducible rfl))
          try simp only [Act.put, List.setIfInBounds_toArray, List.set_cons_zero, List.set_cons_succ]
          refine takeG (some 46) (i := 6) (v := ?vrb6) rfl rfl (by kernel_rfl) (by kernel_rfl) (by kernel_rfl) (fun _ _ _ h => h) (Or.inl ⟨by rfl, ?hrb6⟩) hS0 ?rrb6
          case hrb6 => (intro w hw; obtain ⟨⟨⟨m0, m1⟩, m2, m3, _⟩, m5⟩ := HS3.out _ hw; go_simp; try (with_reducible rfl))
          try simp only [Act.put, List.setIfInBounds_toArray, List.set_cons_zero, List.set_cons_succ]
          refine takeG (some 47) (i := 7) (v := ?vrb7) rfl rfl (by kernel_rfl) (by kernel_rfl) (by kernel_rfl) (fun _ _ _ h => h) (Or.inl ⟨by rfl, ?hrb7⟩) hS0 ?rrb7
          case hrb7 => (intro w hw; obtain ⟨⟨⟨m0, m1⟩, m2, m3, _⟩, m5⟩ := HS3.out _ hw; go_simp; try (with_reducible rfl))
          try simp only [Act.put, List.setIfInBounds_toArray, List.set_cons_zero, List.set_cons_succ]
          refine takeG (some 48) (i := 8) (v := ?vrb8) rfl rfl (by kernel_rfl) (by kernel_rfl) (by kernel_rfl) (fun _ _ _ h => h) (Or.inl ⟨by rfl, ?hrb8⟩) hS0 ?rrb8
          case hrb8 => (intro w hw; obtain ⟨⟨⟨m0, m1⟩, m2, m3, _⟩, m5⟩ := HS3.out _ hw; go_simp; try (with_reducible rfl))
          try simp only [Act.put, List.setIfInBounds_toArray, List.set_cons_zero, List.set_cons_succ]
          refine takeG (some 49) (i := 9) (v := ?vrb9) rfl rfl (by kernel_rfl) (by kernel_rfl) (by kernel_rfl) (fun _ _ _ h => h) (Or.inl ⟨by rfl, ?hrb9⟩) hS0 ?rrb9
          case hrb9 => (intro w hw; obtain ⟨⟨⟨m0, m1⟩, m2, m3, _⟩, m5⟩ := HS3.out _ hw; go_simp; try (with_reducible rfl))
          try simp only [Act.put, List.setIfInBounds_toArray, List.set_cons_zero, List.set_cons_succ]
          refine wpAnyH_ready (rs := [10]) (by kernel_rfl) (by simp) ?_
          refine AllReadyH.cons rfl (fun K hK => ?_) AllReadyH.nil
          go_simp
          refine (CW.out _).mono ?_
          rintro e y1 ⟨rfl, rfl⟩
          show K _ _
          refine hK.out _ _ hS0 (fun _ => ?_)
          clear hK K
          refine takeG (some 51) (i := 11) (v := ?vrb11) rfl rfl (by kernel_rfl) (by kernel_rfl) (by kernel_rfl) (fun _ _ _ h => h) (Or.inl ⟨by rfl, ?hrb11⟩) hS0 ?rrb11
          case hrb11 => (intro w hw; obtain ⟨⟨⟨m0, m1⟩, m2, m3, _⟩, m5⟩ := HS3.out _ hw; go_simp; try (with_reducible rfl))
          try simp only [Act.put, List.setIfInBounds_toArray, List.set_cons_zero, List.set_cons_succ]
          refine takeG (some 9) (i := 12) (v := ?vrb12) rfl rfl (by kernel_rfl) (by kernel_rfl) (by kernel_rfl) (fun _ _ _ h => h) (Or.inl ⟨by rfl, ?hrb12⟩) hS0 ?rrb12
          case hrb12 => (intro w hw; obtain ⟨⟨⟨m0, m1⟩, m2, m3, _⟩, m5⟩ := HS3.out _ hw; go_simp; try (with_reducible rfl))
          try simp only [Act.put, List.setIfInBounds_toArray, List.set_cons_zero, List.set_cons_succ]
          refine wpAnyH_done (by kernel_rfl) ?_ _
          rw [HE.out]
          go_wp2_with fail
          go_meet
          exact ⟨rfl, hS0⟩
        · have HE : Hid (sx = z) := Lib.hid (by rw [HWE.out, if_neg h0])
          have h0 : ¬ (0 : Int) ≤ rf := h0
          go_wp2_with fail
          go_meet
          exact ⟨by rw [HE.out], kd⟩
      obtain ⟨rfl, hb6⟩ := hcut
      generalize wc = w6 at *
      have hbz := HBQ.out _ hb6
      clear m0 m2 m3 HS HBQ kd HWE HLK2
      by_cases hz : z = 0
      · have HY := Lib.hid (HYE.out (by rw [HRD.out, decide_eq_true hz]))
        have hzi : (z : Int) = 0 := by omega
        clear HYE HNO HRD hz
        go_wp2_with fail
        go_roundw
        case rel => exact ⟨k + 1, by omega, by go_num, HY, hbz⟩
        case measure => simp [intOf]; omega
      · have HY : Hid (false = readsP h aF s i) := Lib.hid (by rw [HR.out, HNO.out (by rw [HRD.out, decide_eq_false hz])])
        have hzi : ¬ (z : Int) = 0 := by omega
        clear HYE HNO HRD hz
        go_wp2_with fail
        go_ret
        exact ⟨ret_b HY.out, hbz⟩
    · have hk2 : k = (readsOf h i).length := by omega
      subst hk2
      have HY : Hid (true = readsP h aF s i) := Lib.hid (by rw [HR.out]; have := HRO.out; rw [List.take_length] at this; exact this.symm)
      go_wp2_with fail
      go_ret
      exact ⟨ret_b HY.out, hbk⟩
end Go.Proofs.YtecpeegbfeijaaaGreatDoor

namespace Go.Proofs.YtecpeegbfeijaaaGreatDoor
set_option maxRecDepth 100000
open Go.RowKit

section
variable {W : World} {S B b : Nat} {h : List TxnV} {C : Nat} {r : List Nat} {vb vr : Value} {aF sF : Nat → Nat} {w : World}
theorem tryI_nat (h : List TxnV) (C : Nat) (r : List Nat) (i : Nat) : tryI h C r (i : Int) = tryP h C r i := by unfold tryI; rw [Int.toNat_natCast, decide_eq_true (Int.natCast_nonneg i), Bool.true_and]
theorem PlIs.actual (p : PlIs W S B b h C r vb vr aF sF w) (h64 : h.length ≤ 64) {i : Nat} (hb : ∀ j, (baseN h C i).testBit j = true → (plS r).testBit j = true) : wld4 (baseN h C i) (plS r) (rivN h i) C sF aF = nextN h C r i := by
  have hlt : ∀ k ∈ r, k < 64 := fun k hk => by have := p.lt k hk; omega
  refine wld4_congr hb (fun k hk hp => ?_) (fun k j hp hj => ?_)
  · have := p.eq k (plS_mem hlt hp)
    exact ⟨this.2, this.1⟩
  · rw [(p.eq k (plS_mem hlt hp)).2] at hj
    exact ahead_in hlt (sees_ahead hlt p.nd p.base hj)
theorem PlIs.readsEq (p : PlIs W S B b h C r vb vr aF sF w) (hc : checkI h = 0) (hC : C < 9223372036854775808) {i : Nat} (hi : i < h.length) (hb : ∀ j, (baseN h C i).testBit j = true → (plS r).testBit j = true) (s : Nat) : readsP h aF s i = readsP h (aheadL r) s i := by
  have h64 := (check_zero hc).1
  refine readsP_congr fun x hx h0 => ?_
  rcases read_from hc hi hx with e | ⟨n, hn, e, _, _⟩
  · omega
  · have := plS_mem (fun a ha => by have := p.lt a ha; omega) (hb n (from_base hC h64 hi hn hx e))
    rw [e, Int.toNat_natCast]
    exact (p.eq n this).1
theorem PlIs.bcell (p : PlIs W S B b h C r vb vr aF sF w) {i : Nat} (hi : i < h.length) : ∃ gb ob cb, vb = .slice (some ⟨gb, ob, none⟩) h.length cb ∧ w.cell? ⟨gb, ob + i, none⟩ = some (.int .u64 ((baseN h C i : Nat) : Int)) := by
  obtain ⟨hl, ao, cap, e, hm, hno, hcl⟩ := Row.of_owns p.ba
  obtain ⟨g, off, e2, hcell⟩ := hcl (by omega)
  refine ⟨g, off, cap, by rw [e, e2], ?_⟩
  rw [hcell i (by omega), List.getElem?_map, List.getElem?_range hi]; rfl
set_option maxRecDepth 100000 in
set_option maxHeartbeats 16000000 in
theorem ptry_no (p : PlIs W S B b h C r vb vr aF sF w) (hc : checkI h = 0) (hC : C < 9223372036854775808) (i : Int) (hn : tryI h C r i = false) : Calls Tryz.prog 102 #[.pointer (some ⟨S, 0, none⟩), .int .i64 i] w fun e w' => e = .returned (.bool false) ∧ Below w.heap.size w w' := by
  have h64 := (check_zero hc).1
  have n0 := p.a.cO
  have n2 := p.a.cB
  have n4 := p.a.cP
  have nB := p.ord.blk.cN
  by_cases h0 : 0 ≤ i
  rotate_left
  · have h0' : i < 0 := by omega
    have hd : decide (i < 0) = true := decide_eq_true h0'
    clear p hn hc
    go_enter Tryz.func102, Tryz.ntmps102
    go_wp2_with fail
    go_quiet (fail)
    go_wp2_with fail
    go_ret
    exact ⟨rfl, below_drewN (Below.refl _ _) _⟩
  obtain ⟨i, rfl⟩ := Int.eq_ofNat_of_zero_le h0
  rw [tryI_nat] at hn
  have hd0 : decide ((i : Int) < 0) = false := decide_eq_false (by omega)
  by_cases h1 : i < h.length
  rotate_left
  · have h1' : (h.length : Int) ≤ (i : Int) := by omega
    have hd1 : decide ((h.length : Int) ≤ (i : Int)) = true := decide_eq_true h1'
    have hd1n : decide (h.length ≤ i) = true := decide_eq_true (by omega)
    clear p hn hc h0
    go_enter Tryz.func102, Tryz.ntmps102
    go_wp2_with fail
    go_quiet (fail)
    go_wp2_with fail
    go_ret
    exact ⟨rfl, below_drewN (Below.refl _ _) _⟩
  have h1' : ¬ (h.length : Int) ≤ (i : Int) := by omega
  have hd1 : decide ((h.length : Int) ≤ (i : Int)) = false := decide_eq_false h1'
  have hd1n : decide (h.length ≤ i) = false := decide_eq_false (by omega)
  have hi64 : i < 64 := by omega
  have hlt : ∀ k ∈ r, k < 64 := fun k hk => by have := p.lt k hk; omega
  have hps := plS_set r
  have hbs := baseN_set h C i
  have CH := Lib.hid (fun wx => (has_any (plS r) (i : Int) wx hps).mono fun _ _ h => And.intro h.1 h.2.symm)
  have CI := Lib.hid (fun wx => (within_any (baseN h C i) (plS r) wx hbs hps).mono fun _ _ h => And.intro h.1 h.2.symm)
  have hhas : hasB (plS r) (i : Int) = decide (i ∈ r) := by
    unfold hasB
    have : decide (0 ≤ (i : Int) ∧ (i : Int) < 64) = true := by simp; omega
    rw [this, Int.toNat_natCast, plS_bit i r hlt, Bool.true_and]
  rw [hhas] at CH
  obtain ⟨gb, ob, cb, hvb, hcb⟩ := p.bcell h1
  have h1i : (i : Int) < (h.length : Int) := by omega
  have CW := Lib.hid (fun wx (hx : Below w.heap.size w wx) => pwould_any (p.below hx) hc hC i h1)
  have CR := Lib.hid (fun wx (hx : Below w.heap.size w wx) s hs => preads_any (p.below hx) hc i h1 s hs)
  by_cases h2 : i ∈ r
  · rw [decide_eq_true h2] at CH
    clear p hn hc h0 CI CW CR hvb h2 hlt hhas
    generalize plS r = pl at *
    go_enter Tryz.func102, Tryz.ntmps102
    go_wp2_with fail
    go_quiet ((go_at_call 100; exact Calls.quiet_of_same (CH.out _)))
    go_wp2_with fail
    go_ret
    exact ⟨rfl, below_drewN (Below.refl _ _) _⟩
  rw [decide_eq_false h2] at CH
  have hn2 : (inB (baseN h C i) (plS r) && readsP h (aheadL r) (nextN h C r i) i) = false := by
    unfold tryP at hn
    rw [decide_eq_true h1, decide_eq_false h2] at hn
    simpa using hn
  rw [hvb] at n2
  cases h3 : inB (baseN h C i) (plS r) with
  | false =>
    rw [h3] at CI
    clear p hn hc h0 CW CR hvb h3 hn2 h2 hlt hhas
    generalize plS r = pl at *
    generalize baseN h C i = bn at *
    go_enter Tryz.func102, Tryz.ntmps102
    go_wp2_with fail
    go_quiet ((first
      | (go_at_call 100; exact Calls.quiet_of_same (CH.out _))
      | (go_at_call 150; exact Calls.quiet_of_same (CI.out _))))
    go_wp2_with fail
    go_ret
    exact ⟨rfl, below_drewN (Below.refl _ _) _⟩
  | true =>
    rw [h3] at CI hn2
    rw [Bool.true_and] at hn2
    have hb3 := (inB_bits hbs).1 h3
    have e1 := p.actual h64 hb3
    have e2 := p.readsEq hc hC h1 hb3
    rw [e1] at CW
    have hns : IsSet (nextN h C r i) := wld4_set hbs hps (rivN_set h i) (fun k _ => plSee_set h C r k) (fun k _ => aheadL_set r k)
    have CR := Lib.hid (fun wx (hx : Below w.heap.size w wx) => CR.out wx hx _ hns)
    rw [e2, hn2] at CR
    have hb0 := Below.refl w.heap.size w
    clear p hn hc h0 hvb h3 hn2 e1 e2 hb3 hns hps hbs h2 hlt hhas
    generalize plS r = pl at *
    generalize baseN h C i = bn at *
    generalize nextN h C r i = sn at *
    go_enter Tryz.func102, Tryz.ntmps102
    go_wp2_with fail
    go_quiet ((first
      | (go_at_call 100; exact Calls.quiet_of_same (CH.out _))
      | (go_at_call 150; exact Calls.quiet_of_same (CI.out _))))
    have hb1 := below_drewN hb0 nq
    generalize w.drewN nq = w1 at *
    go_wp2_with fail
    refine (CW.out _ hb1).mono ?_
    rintro e w2 ⟨rfl, h2⟩
    have hb2 := below_then hb1 h2
    go_wp2_with fail
    refine (CR.out _ hb2).mono ?_
    rintro e w3 ⟨rfl, h3⟩
    have hb3 := below_then hb2 h3
    go_wp2_with fail
    go_ret
    exact ⟨rfl, hb3⟩
end
end Go.Proofs.YtecpeegbfeijaaaGreatDoor

namespace Go.Proofs.YtecpeegbfeijaaaGreatDoor
set_option maxRecDepth 100000
open Go.RowKit

theorem lit_newI (w : World) (x : Value) (t : TypeId) : ∀ j u, [x][j]? = some u → (w.alloc (.cells #[x] t)).cell? ((⟨w.heap.size, 0, none⟩ : Addr).add j) = some u := fun j u hu => by
  match j, hu with
  | 0, hu =>
    simp at hu; subst hu
    rw [Addr.add_lit, Nat.add_zero, cell_of_row _ _ _ _ _ _ (heap_alloc_new w _)]; rfl
  | j + 1, hu => simp at hu
section
variable {W : World} {S B b : Nat} {h : List TxnV} {C : Nat} {r : List Nat} {vb vr : Value} {aF sF : Nat → Nat} {w : World}
set_option maxRecDepth 100000 in
set_option maxHeartbeats 16000000 in
theorem ptry_yes (p : PlIs W S B b h C r vb vr aF sF w) (hc : checkI h = 0) (hC : C < 9223372036854775808) (i : Nat) (hn : tryP h C r i = true) : Calls Tryz.prog 102 #[.pointer (some ⟨S, 0, none⟩), .int .i64 i] w fun e w' => e = .returned (.bool true) ∧ ∃ vr' aF' sF', PlIs W S B b h C (i :: r) vb vr' aF' sF' w' ∧ PlStep S vr vr' w w' := by
  have h64 := (check_zero hc).1
  have n0 := p.a.cO
  have n2 := p.a.cB
  have n4 := p.a.cP
  have nB := p.ord.blk.cN
  have hn2 := hn
  unfold tryP at hn2
  simp only [Bool.and_eq_true, decide_eq_true_eq, Bool.not_eq_true', decide_eq_false_iff_not] at hn2
  obtain ⟨h1, h2, h3, h4⟩ := hn2
  have hd0 : decide ((i : Int) < 0) = false := decide_eq_false (by omega)
  have h1' : ¬ (h.length : Int) ≤ (i : Int) := by omega
  have hd1 : decide ((h.length : Int) ≤ (i : Int)) = false := decide_eq_false h1'
  have hd1n : decide (h.length ≤ i) = false := decide_eq_false (by omega)
  have hi64 : i < 64 := by omega
  have hi64i : (i : Int) < 64 := by omega
  have hlt : ∀ k ∈ r, k < 64 := fun k hk => by have := p.lt k hk; omega
  have hps := plS_set r
  have hbs := baseN_set h C i
  have CH := Lib.hid (fun wx => (has_any (plS r) (i : Int) wx hps).mono fun _ _ h => And.intro h.1 h.2.symm)
  have CI := Lib.hid (fun wx => (within_any (baseN h C i) (plS r) wx hbs hps).mono fun _ _ h => And.intro h.1 h.2.symm)
  have hhas : hasB (plS r) (i : Int) = decide (i ∈ r) := by
    unfold hasB
    have : decide (0 ≤ (i : Int) ∧ (i : Int) < 64) = true := by simp; omega
    rw [this, Int.toNat_natCast, plS_bit i r hlt, Bool.true_and]
  rw [hhas, decide_eq_false h2] at CH
  rw [h3] at CI
  obtain ⟨gb, ob, cb, hvb, hcb⟩ := p.bcell h1
  have h1i : (i : Int) < (h.length : Int) := by omega
  have CW := Lib.hid (fun wx (hx : Below w.heap.size w wx) => pwould_any (p.below hx) hc hC i h1)
  have hb3 := (inB_bits hbs).1 h3
  have e2 := p.readsEq hc hC h1 hb3
  rw [p.actual h64 hb3] at CW
  have hns : IsSet (nextN h C r i) := wld4_set hbs hps (rivN_set h i) (fun k _ => plSee_set h C r k) (fun k _ => aheadL_set r k)
  have CR := Lib.hid (fun wx (hx : Below w.heap.size w wx) => preads_any (p.below hx) hc i h1 _ hns)
  rw [e2, h4] at CR
  have CWT : Hid (∀ wx, Calls Tryz.prog 115 #[.int .u64 ((plS r : Nat) : Int), .int .i64 i] wx fun e w' => e = .returned (.int .u64 ((plS (i :: r) : Nat) : Int)) ∧ wx = w') := Lib.hid (fun wx => with_any (plS r) (i : Int) wx hps)
  obtain ⟨i0, hi0, hz0, hz1, hz2⟩ := info_parts infoInt
  have hlen := p.len
  have HR := Lib.hid (fun wx (hx : Below w.heap.size w wx) => p.raw.below hx)
  have HD := Lib.hid (fun (w4 w5 : World) (q : PlRaw W S B C h r vb vr (updN aF i (plS r)) (updN sF i (nextN h C r i)) w w4) (g cap : Nat) hown hg hl => PlIs.done p (i := i) (g := g) (cap := cap) (w5 := w5) h1 h2 hb3 h64 rfl q hown hg hl)
  have HNE := Lib.hid p.ne
  have hvr : ∃ va vc, vr = .slice va r.length vc := p.form
  rw [hvb] at n2
  have hb0 := Below.refl w.heap.size w
  clear p hn hc h3 h4 e2 hb3 hns hps hbs hlt hhas hvb
  go_enter Tryz.func102, Tryz.ntmps102
  go_wp2_with fail
  go_quiet ((first
    | (go_at_call 100; exact Calls.quiet_of_same (CH.out _))
    | (go_at_call 150; exact Calls.quiet_of_same (CI.out _))))
  have hb1 := below_drewN hb0 nq
  generalize w.drewN nq = w1 at *
  clear n0 n2 n4 nB hcb
  go_wp2_with fail
  refine (CW.out _ hb1).mono ?_
  rintro e w2 ⟨rfl, h2⟩
  have hb2 := below_then hb1 h2
  go_wp2_with fail
  refine (CR.out _ hb2).mono ?_
  rintro e w3 ⟨rfl, h3⟩
  have hb3 := below_then hb2 h3
  clear CH CI CW CR hb0 hb1 hb2 h2 h3
  go_upto_region 6 with fail
  have kd := hb3.drew
  generalize nextN h C r i = sn at *
  refine wp_region_held_drew (S := fun wx => wx.cell? ⟨S, 4, none⟩ = some (.int .u64 ((plS r : Nat) : Int))) (by kernel_rfl) (HR.out _ kd).a.cP (fun hS0 => ?_)
  generalize w3.drew = wd at *
  refine takeG (some 50) (i := 0) (v := ?vta0x1) rfl rfl (by kernel_rfl) (by kernel_rfl) (by kernel_rfl) (fun _ _ _ h => h) (Or.inl ⟨by rfl, ?hta0x1⟩) hS0 ?rta0x1
  case hta0x1 => (intro w hw; go_simp; try (with_reducible rfl))
  try simp only [Act.put, List.setIfInBounds_toArray, List.set_cons_zero, List.set_cons_succ]
  refine takeG (some 51) (i := 1) (v := ?vta1x2) rfl rfl (by kernel_rfl) (by kernel_rfl) (by kernel_rfl) (fun _ _ _ h => h) (Or.inl ⟨by rfl, ?hta1x2⟩) hS0 ?rta1x2
  case hta1x2 => (intro w hw; go_simp; try (with_reducible rfl))
  try simp only [Act.put, List.setIfInBounds_toArray, List.set_cons_zero, List.set_cons_succ]
  refine takeG (some 52) (i := 2) (v := ?vta2x3) rfl rfl (by kernel_rfl) (by kernel_rfl) (by kernel_rfl) (fun _ _ _ h => h) (Or.inl ⟨by rfl, ?hta2x3⟩) hS0 ?rta2x3
  case hta2x3 => (intro w hw; go_simp; try (with_reducible rfl))
  try simp only [Act.put, List.setIfInBounds_toArray, List.set_cons_zero, List.set_cons_succ]
  refine takeG (some 53) (i := 3) (v := ?vta3x4) rfl rfl (by kernel_rfl) (by kernel_rfl) (by kernel_rfl) (fun _ _ _ h => h) (Or.inl ⟨by rfl, ?hta3x4⟩) hS0 ?rta3x4
  case hta3x4 => (intro w hw; go_simp; try (with_reducible rfl))
  try simp only [Act.put, List.setIfInBounds_toArray, List.set_cons_zero, List.set_cons_succ]
  refine takeG (some 54) (i := 4) (v := ?vta4x5) rfl rfl (by kernel_rfl) (by kernel_rfl) (by kernel_rfl) (fun _ _ _ h => h) (Or.inl ⟨by rfl, ?hta4x5⟩) hS0 ?rta4x5
  case hta4x5 => (intro w hw; go_simp; try (with_reducible rfl))
  try simp only [Act.put, List.setIfInBounds_toArray, List.set_cons_zero, List.set_cons_succ]
  refine takeG (some 55) (i := 5) (v := ?vta5x6) rfl rfl (by kernel_rfl) (by kernel_rfl) (by kernel_rfl) (fun _ _ _ h => h) (Or.inl ⟨by rfl, ?hta5x6⟩) hS0 ?rta5x6
  case hta5x6 => (intro w hw; go_simp; try (with_reducible rfl))
  try simp only [Act.put, List.setIfInBounds_toArray, List.set_cons_zero, List.set_cons_succ]
  refine takeG (some 56) (i := 6) (v := ?vta6x7) rfl rfl (by kernel_rfl) (by kernel_rfl) (by kernel_rfl) (fun _ _ _ h => h) (Or.inl ⟨by rfl, ?hta6x7⟩) hS0 ?rta6x7
  case hta6x7 => (intro w hw; go_simp; try (with_reducible rfl))
  try simp only [Act.put, List.setIfInBounds_toArray, List.set_cons_zero, List.set_cons_succ]
  refine takeG (some 57) (i := 7) (v := ?vta7x8) rfl rfl (by kernel_rfl) (by kernel_rfl) (by kernel_rfl) (fun _ _ _ h => h) (Or.inl ⟨by rfl, ?hta7x8⟩) hS0 ?rta7x8
  case hta7x8 => (intro w hw; go_simp; try (with_reducible rfl))
  try simp only [Act.put, List.setIfInBounds_toArray, List.set_cons_zero, List.set_cons_succ]
  refine takeG (some 58) (i := 8) (v := ?vta8x9) rfl rfl (by kernel_rfl) (by kernel_rfl) (by kernel_rfl) (fun _ _ _ h => h) (Or.inl ⟨by rfl, ?hta8x9⟩) hS0 ?rta8x9
  case hta8x9 => (intro w hw; go_simp; try (with_reducible rfl))
  try simp only [Act.put, List.setIfInBounds_toArray, List.set_cons_zero, List.set_cons_succ]
  refine takeG (some 59) (i := 9) (v := ?vta9x10) rfl rfl (by kernel_rfl) (by kernel_rfl) (by kernel_rfl) (fun _ _ _ h => h) (Or.inl ⟨by rfl, ?hta9x10⟩) hS0 ?rta9x10
  case hta9x10 => (intro w hw; go_simp; try (with_reducible rfl))
  try simp only [Act.put, List.setIfInBounds_toArray, List.set_cons_zero, List.set_cons_succ]
  refine takeG (some 60) (i := 10) (v := ?vta10x11) rfl rfl (by kernel_rfl) (by kernel_rfl) (by kernel_rfl) (fun _ _ _ h => h) (Or.inl ⟨by rfl, ?hta10x11⟩) hS0 ?rta10x11
  case hta10x11 => (intro w hw; go_simp; try (with_reducible rfl))
  try simp only [Act.put, List.setIfInBounds_toArray, List.set_cons_zero, List.set_cons_succ]
  refine takeG (some 61) (i := 11) (v := ?vta11x12) rfl rfl (by kernel_rfl) (by kernel_rfl) (by kernel_rfl) (fun _ _ _ h => h) (Or.inl ⟨by rfl, ?hta11x12⟩) hS0 ?rta11x12
  case hta11x12 => (intro w hw; go_simp; try (with_reducible rfl))
  try simp only [Act.put, List.setIfInBounds_toArray, List.set_cons_zero, List.set_cons_succ]
  refine takeG (some 62) (i := 13) (v := ?vta13x13) rfl rfl (by kernel_rfl) (by kernel_rfl) (by kernel_rfl) (fun _ _ _ h => h) (Or.inl ⟨by rfl, ?hta13x13⟩) hS0 ?rta13x13
  case hta13x13 => (intro w hw; go_simp; try (with_reducible rfl))
  try simp only [Act.put, List.setIfInBounds_toArray, List.set_cons_zero, List.set_cons_succ]
  refine takeG (some 63) (i := 14) (v := ?vta14x14) rfl rfl (by kernel_rfl) (by kernel_rfl) (by kernel_rfl) (fun _ _ _ h => h) (Or.inl ⟨by rfl, ?hta14x14⟩) hS0 ?rta14x14
  case hta14x14 => (intro w hw; go_simp; try (with_reducible rfl))
  try simp only [Act.put, List.setIfInBounds_toArray, List.set_cons_zero, List.set_cons_succ]
  refine wpAnyH_ready (rs := [12]) (by kernel_rfl) (by simp) ?_
  refine AllReadyH.cons rfl (fun K hK => ?_) AllReadyH.nil
  have R1 := (HR.out _ kd).setA hi64 (plS r)
  have hc := (HR.out _ kd).a.cA hi64
  have hf := (HR.out _ kd).a.free (i := 5 + i) (by omega)
  go_simp
  have sA := R1.a.cP
  refine hK.out _ _ sA (fun _ => ?_)
  clear hK K hc hf
  refine takeG (some 64) (i := 15) (v := ?vta15x16) rfl rfl (by kernel_rfl) (by kernel_rfl) (by kernel_rfl) (fun _ _ _ h => h) (Or.inl ⟨by rfl, ?hta15x16⟩) sA ?rta15x16
  case hta15x16 => (intro w hw; go_simp; try (with_reducible rfl))
  try simp only [Act.put, List.setIfInBounds_toArray, List.set_cons_zero, List.set_cons_succ]
  refine wpAnyH_ready (rs := [16]) (by kernel_rfl) (by simp) ?_
  refine AllReadyH.cons rfl (fun K hK => ?_) AllReadyH.nil
  have R2 := R1.setS hi64 sn
  have hc := R1.a.cS hi64
  have hf := R1.a.free (i := 69 + i) (by omega)
  go_simp
  have sB := R2.a.cP
  refine hK.out _ _ sB (fun _ => ?_)
  clear hK K hc hf R1
  refine wpAnyH_done (by kernel_rfl) ?_ _
  generalize (wd.setCell ⟨S, 5 + i, none⟩ (.int .u64 ((plS r : Nat) : Int))).setCell ⟨S, 69 + i, none⟩ (.int .u64 (sn : Int)) = w4 at *
  clear HR kd hb3 hS0 sA sB
  go_upto_region 7 with fail
  have kd := (Below.refl w4.heap.size w4).drew
  refine wp_region_held_drew (S := fun _ => True) (by kernel_rfl) trivial (fun hS0 => ?_)
  generalize w4.drew = wd at *
  have Rd := R2.below kd
  obtain ⟨va, vc, rfl⟩ := hvr
  refine takeG (some 65) (i := 0) (v := ?vtb0x1) rfl rfl (by kernel_rfl) (by kernel_rfl) (by kernel_rfl) (fun _ _ _ h => h) (Or.inl ⟨by rfl, ?htb0x1⟩) hS0 ?rtb0x1
  case htb0x1 => (intro w _; go_simp; try (with_reducible rfl))
  try simp only [Act.put, List.setIfInBounds_toArray, List.set_cons_zero, List.set_cons_succ]
  refine takeG (some 66) (i := 1) (v := ?vtb1x2) rfl rfl (by kernel_rfl) (by kernel_rfl) (by kernel_rfl) (fun _ _ _ h => h) (Or.inl ⟨by rfl, ?htb1x2⟩) hS0 ?rtb1x2
  case htb1x2 => (intro w _; go_simp; try (with_reducible rfl))
  try simp only [Act.put, List.setIfInBounds_toArray, List.set_cons_zero, List.set_cons_succ]
  refine takeG (some 67) (i := 2) (v := ?vtb2x3) rfl rfl (by kernel_rfl) (by kernel_rfl) (by kernel_rfl) (fun _ _ _ h => h) (Or.inl ⟨by rfl, ?htb2x3⟩) hS0 ?rtb2x3
  case htb2x3 => (intro w _; go_simp; try (with_reducible rfl))
  try simp only [Act.put, List.setIfInBounds_toArray, List.set_cons_zero, List.set_cons_succ]
  refine takeG (some 68) (i := 3) (v := ?vtb3x4) rfl rfl (by kernel_rfl) (by kernel_rfl) (by kernel_rfl) (fun _ _ _ h => h) (Or.inl ⟨by rfl, ?htb3x4⟩) hS0 ?rtb3x4
  case htb3x4 => (intro w _; go_simp; try (with_reducible rfl))
  try simp only [Act.put, List.setIfInBounds_toArray, List.set_cons_zero, List.set_cons_succ]
  refine takeG (some 69) (i := 4) (v := ?vtb4x5) rfl rfl (by kernel_rfl) (by kernel_rfl) (by kernel_rfl) (fun _ _ _ h => h) (Or.inl ⟨by rfl, ?htb4x5⟩) hS0 ?rtb4x5
  case htb4x5 => (intro w _; go_simp; try (with_reducible rfl))
  try simp only [Act.put, List.setIfInBounds_toArray, List.set_cons_zero, List.set_cons_succ]
  refine takeG (some 71) (i := 6) (v := ?vtb6x6) rfl rfl (by kernel_rfl) (by kernel_rfl) (by kernel_rfl) (fun _ _ _ h => h) (Or.inl ⟨by rfl, ?htb6x6⟩) hS0 ?rtb6x6
  case htb6x6 => (intro w _; go_simp; try (with_reducible rfl))
  try simp only [Act.put, List.setIfInBounds_toArray, List.set_cons_zero, List.set_cons_succ]
  refine takeG (some 74) (i := 9) (v := ?vtb9x7) rfl rfl (by kernel_rfl) (by kernel_rfl) (by kernel_rfl) (fun _ _ _ h => h) (Or.inl ⟨by rfl, ?htb9x7⟩) hS0 ?rtb9x7
  case htb9x7 => (intro w _; go_simp; try (with_reducible rfl))
  try simp only [Act.put, List.setIfInBounds_toArray, List.set_cons_zero, List.set_cons_succ]
  refine takeG (some 75) (i := 10) (v := ?vtb10x8) rfl rfl (by kernel_rfl) (by kernel_rfl) (by kernel_rfl) (fun _ _ _ h => h) (Or.inl ⟨by rfl, ?htb10x8⟩) hS0 ?rtb10x8
  case htb10x8 => (intro w _; go_simp; try (with_reducible rfl))
  try simp only [Act.put, List.setIfInBounds_toArray, List.set_cons_zero, List.set_cons_succ]
  refine takeG (some 76) (i := 11) (v := ?vtb11x9) rfl rfl (by kernel_rfl) (by kernel_rfl) (by kernel_rfl) (fun _ _ _ h => h) (Or.inl ⟨by rfl, ?htb11x9⟩) hS0 ?rtb11x9
  case htb11x9 => (intro w _; go_simp; try (with_reducible rfl))
  try simp only [Act.put, List.setIfInBounds_toArray, List.set_cons_zero, List.set_cons_succ]
  refine takeG (some 78) (i := 13) (v := ?vtb13x10) rfl rfl (by kernel_rfl) (by kernel_rfl) (by kernel_rfl) (fun _ _ _ h => h) (Or.inl ⟨by rfl, ?htb13x10⟩) hS0 ?rtb13x10
  case htb13x10 => (intro w _; go_simp; try (with_reducible rfl))
  try simp only [Act.put, List.setIfInBounds_toArray, List.set_cons_zero, List.set_cons_succ]
  refine wpAnyH_ready (rs := [5, 7, 12]) (by kernel_rfl) (by simp) ?_
  refine AllReadyH.cons rfl (fun K hK => ?_) (AllReadyH.cons rfl (fun K hK => ?_) (AllReadyH.cons rfl (fun K hK => ?_) AllReadyH.nil))
  ·
    have hc11 := Rd.a.cR
    go_simp
    refine hK.out _ _ trivial (fun _ => ?_)
    clear hK K hc11
    refine wpAnyH_ready (rs := [7, 12]) (by kernel_rfl) (by simp) ?_
    refine AllReadyH.cons rfl (fun K hK => ?_) (AllReadyH.cons rfl (fun K hK => ?_) AllReadyH.nil)
    ·
      go_simp
      have R12 := Rd.below (box_below wd (.cells #[.int .i64 (i : Int)] 3))
      refine hK.out _ _ trivial (fun _ => ?_)
      clear hK K
      refine wpAnyH_ready (rs := [8, 12]) (by kernel_rfl) (by simp) ?_
      refine AllReadyH.cons rfl (fun K hK => ?_) (AllReadyH.cons rfl (fun K hK => ?_) AllReadyH.nil)
      ·
        refine step_append_lies _ rfl (.tmp 70) (.tmp 72) 29 rfl (S + 1) 3 i0 (.int .i64 0) 1 8 Tryz.underlying29 hi0 hz0 hz1 hz2 rfl (by decide) (.slice va r.length vc) r.length _ (by simp [Act.eval]) R12.rw ⟨wd.heap.size, 0, none⟩ 1 1 [.int .i64 (i : Int)] (by simp [Act.eval]) rfl (lit_newI _ _ _) (by intro u hu; simp at hu; subst hu; rfl) (by decide) (by unfold maxLen; omega) (by omega) (by have := R12.a.lt; omega) _ rfl ?_
        intro g5 c5 w5 hown5 hg5 hl5 _
        obtain ⟨_, a5, _, _, _⟩ := R12.app HNE.out hown5 hg5 hl5
        have fin := HD.out _ _ R12 _ _ hown5 hg5 hl5
        refine hK.out _ _ trivial (fun _ => ?_)
        clear hK K hown5 hg5 hl5
        try simp only [Act.put, List.setIfInBounds_toArray]
        refine wpAnyH_ready (rs := [12]) (by kernel_rfl) (by simp) ?_
        refine AllReadyH.cons rfl (fun K hK => ?_) AllReadyH.nil
        have hc14 := a5.cP
        go_simp
        refine hK.out _ _ trivial (fun _ => ?_)
        clear hK K hc14
        refine wpAnyH_ready (rs := [14]) (by kernel_rfl) (by simp) ?_
        refine AllReadyH.cons rfl (fun K hK => ?_) AllReadyH.nil
        go_simp
        refine (CWT.out _).mono ?_
        rintro e y15 ⟨rfl, rfl⟩
        show K _ _
        refine hK.out _ _ trivial (fun _ => ?_)
        clear hK K
        refine takeG (some 80) (i := 15) (v := ?vtb15x16) rfl rfl (by kernel_rfl) (by kernel_rfl) (by kernel_rfl) (fun _ _ _ h => h) (Or.inl ⟨by rfl, ?htb15x16⟩) hS0 ?rtb15x16
        case htb15x16 => (intro w _; go_simp; try (with_reducible rfl))
        try simp only [Act.put, List.setIfInBounds_toArray, List.set_cons_zero, List.set_cons_succ]
        refine takeG (some 81) (i := 16) (v := ?vtb16x17) rfl rfl (by kernel_rfl) (by kernel_rfl) (by kernel_rfl) (fun _ _ _ h => h) (Or.inl ⟨by rfl, ?htb16x17⟩) hS0 ?rtb16x17
        case htb16x17 => (intro w _; go_simp; try (with_reducible rfl))
        try simp only [Act.put, List.setIfInBounds_toArray, List.set_cons_zero, List.set_cons_succ]
        refine wpAnyH_ready (rs := [17]) (by kernel_rfl) (by simp) ?_
        refine AllReadyH.cons rfl (fun K hK => ?_) AllReadyH.nil
        have c3 := a5.cR
        have f3 := a5.free (i := 3) (by omega)
        go_simp
        refine hK.out _ _ trivial (fun _ => ?_)
        clear hK K c3 f3
        refine takeG (some 82) (i := 18) (v := ?vtb18x19) rfl rfl (by kernel_rfl) (by kernel_rfl) (by kernel_rfl) (fun _ _ _ h => h) (Or.inl ⟨by rfl, ?htb18x19⟩) hS0 ?rtb18x19
        case htb18x19 => (intro w _; go_simp; try (with_reducible rfl))
        try simp only [Act.put, List.setIfInBounds_toArray, List.set_cons_zero, List.set_cons_succ]
        refine takeG (some 83) (i := 19) (v := ?vtb19x20) rfl rfl (by kernel_rfl) (by kernel_rfl) (by kernel_rfl) (fun _ _ _ h => h) (Or.inl ⟨by rfl, ?htb19x20⟩) hS0 ?rtb19x20
        case htb19x20 => (intro w _; go_simp; try (with_reducible rfl))
        try simp only [Act.put, List.setIfInBounds_toArray, List.set_cons_zero, List.set_cons_succ]
        refine wpAnyH_ready (rs := [20]) (by kernel_rfl) (by simp) ?_
        refine AllReadyH.cons rfl (fun K hK => ?_) AllReadyH.nil
        have f4 := a5.free (i := 4) (by omega)
        have n4 := a5.cP
        have q4 : (World.setCell w5 ⟨S, 3, none⟩ (.slice (some ⟨g5, 0, none⟩) (r.length + 1) c5)).cell? ⟨S, 4, none⟩ = some (.int .u64 ((plS r : Nat) : Int)) := by rw [World.cell?_setCell_other _ _ _ _ (by simp)]; exact n4
        go_simp
        refine hK.out _ _ trivial (fun _ => ?_)
        clear hK K q4 n4 f4
        refine wpAnyH_done (by kernel_rfl) ?_ _
        go_wp2_with fail
        go_ret
        exact ⟨rfl, _, _, _, fin.1, fin.2⟩
      ·
        have hc22 := R12.a.cP
        go_simp
        refine hK.out _ _ trivial (fun _ => ?_)
        clear hK K hc22
        refine wpAnyH_ready (rs := [8]) (by kernel_rfl) (by simp) ?_
        refine AllReadyH.cons rfl (fun K hK => ?_) AllReadyH.nil
        refine step_append_lies _ rfl (.tmp 70) (.tmp 72) 29 rfl (S + 1) 3 i0 (.int .i64 0) 1 8 Tryz.underlying29 hi0 hz0 hz1 hz2 rfl (by decide) (.slice va r.length vc) r.length _ (by simp [Act.eval]) R12.rw ⟨wd.heap.size, 0, none⟩ 1 1 [.int .i64 (i : Int)] (by simp [Act.eval]) rfl (lit_newI _ _ _) (by intro u hu; simp at hu; subst hu; rfl) (by decide) (by unfold maxLen; omega) (by omega) (by have := R12.a.lt; omega) _ rfl ?_
        intro g5 c5 w5 hown5 hg5 hl5 _
        obtain ⟨_, a5, _, _, _⟩ := R12.app HNE.out hown5 hg5 hl5
        have fin := HD.out _ _ R12 _ _ hown5 hg5 hl5
        refine hK.out _ _ trivial (fun _ => ?_)
        clear hK K hown5 hg5 hl5
        try simp only [Act.put, List.setIfInBounds_toArray]
        refine wpAnyH_ready (rs := [14]) (by kernel_rfl) (by simp) ?_
        refine AllReadyH.cons rfl (fun K hK => ?_) AllReadyH.nil
        go_simp
        refine (CWT.out _).mono ?_
        rintro e y24 ⟨rfl, rfl⟩
        show K _ _
        refine hK.out _ _ trivial (fun _ => ?_)
        clear hK K
        refine takeG (some 80) (i := 15) (v := ?vtb15x25) rfl rfl (by kernel_rfl) (by kernel_rfl) (by kernel_rfl) (fun _ _ _ h => h) (Or.inl ⟨by rfl, ?htb15x25⟩) hS0 ?rtb15x25
        case htb15x25 => (intro w _; go_simp; try (with_reducible rfl))
        try simp only [Act.put, List.setIfInBounds_toArray, List.set_cons_zero, List.set_cons_succ]
        refine takeG (some 81) (i := 16) (v := ?vtb16x26) rfl rfl (by kernel_rfl) (by kernel_rfl) (by kernel_rfl) (fun _ _ _ h => h) (Or.inl ⟨by rfl, ?htb16x26⟩) hS0 ?rtb16x26
        case htb16x26 => (intro w _; go_simp; try (with_reducible rfl))
        try simp only [Act.put, List.setIfInBounds_toArray, List.set_cons_zero, List.set_cons_succ]
        refine wpAnyH_ready (rs := [17]) (by kernel_rfl) (by simp) ?_
        refine AllReadyH.cons rfl (fun K hK => ?_) AllReadyH.nil
        have c3 := a5.cR
        have f3 := a5.free (i := 3) (by omega)
        go_simp
        refine hK.out _ _ trivial (fun _ => ?_)
        clear hK K c3 f3
        refine takeG (some 82) (i := 18) (v := ?vtb18x28) rfl rfl (by kernel_rfl) (by kernel_rfl) (by kernel_rfl) (fun _ _ _ h => h) (Or.inl ⟨by rfl, ?htb18x28⟩) hS0 ?rtb18x28
        case htb18x28 => (intro w _; go_simp; try (with_reducible rfl))
        try simp only [Act.put, List.setIfInBounds_toArray, List.set_cons_zero, List.set_cons_succ]
        refine takeG (some 83) (i := 19) (v := ?vtb19x29) rfl rfl (by kernel_rfl) (by kernel_rfl) (by kernel_rfl) (fun _ _ _ h => h) (Or.inl ⟨by rfl, ?htb19x29⟩) hS0 ?rtb19x29
        case htb19x29 => (intro w _; go_simp; try (with_reducible rfl))
        try simp only [Act.put, List.setIfInBounds_toArray, List.set_cons_zero, List.set_cons_succ]
        refine wpAnyH_ready (rs := [20]) (by kernel_rfl) (by simp) ?_
        refine AllReadyH.cons rfl (fun K hK => ?_) AllReadyH.nil
        have f4 := a5.free (i := 4) (by omega)
        have n4 := a5.cP
        have q4 : (World.setCell w5 ⟨S, 3, none⟩ (.slice (some ⟨g5, 0, none⟩) (r.length + 1) c5)).cell? ⟨S, 4, none⟩ = some (.int .u64 ((plS r : Nat) : Int)) := by rw [World.cell?_setCell_other _ _ _ _ (by simp)]; exact n4
        go_simp
        refine hK.out _ _ trivial (fun _ => ?_)
        clear hK K q4 n4 f4
        refine wpAnyH_done (by kernel_rfl) ?_ _
        go_wp2_with fail
        go_ret
        exact ⟨rfl, _, _, _, fin.1, fin.2⟩
    ·
      have hc31 := Rd.a.cP
      go_simp
      refine hK.out _ _ trivial (fun _ => ?_)
      clear hK K hc31
      refine wpAnyH_ready (rs := [7]) (by kernel_rfl) (by simp) ?_
      refine AllReadyH.cons rfl (fun K hK => ?_) AllReadyH.nil
      go_simp
      have R32 := Rd.below (box_below wd (.cells #[.int .i64 (i : Int)] 3))
      refine hK.out _ _ trivial (fun _ => ?_)
      clear hK K
      refine wpAnyH_ready (rs := [8]) (by kernel_rfl) (by simp) ?_
      refine AllReadyH.cons rfl (fun K hK => ?_) AllReadyH.nil
      refine step_append_lies _ rfl (.tmp 70) (.tmp 72) 29 rfl (S + 1) 3 i0 (.int .i64 0) 1 8 Tryz.underlying29 hi0 hz0 hz1 hz2 rfl (by decide) (.slice va r.length vc) r.length _ (by simp [Act.eval]) R32.rw ⟨wd.heap.size, 0, none⟩ 1 1 [.int .i64 (i : Int)] (by simp [Act.eval]) rfl (lit_newI _ _ _) (by intro u hu; simp at hu; subst hu; rfl) (by decide) (by unfold maxLen; omega) (by omega) (by have := R32.a.lt; omega) _ rfl ?_
      intro g5 c5 w5 hown5 hg5 hl5 _
      obtain ⟨_, a5, _, _, _⟩ := R32.app HNE.out hown5 hg5 hl5
      have fin := HD.out _ _ R32 _ _ hown5 hg5 hl5
      refine hK.out _ _ trivial (fun _ => ?_)
      clear hK K hown5 hg5 hl5
      try simp only [Act.put, List.setIfInBounds_toArray]
      refine wpAnyH_ready (rs := [14]) (by kernel_rfl) (by simp) ?_
      refine AllReadyH.cons rfl (fun K hK => ?_) AllReadyH.nil
      go_simp
      refine (CWT.out _).mono ?_
      rintro e y34 ⟨rfl, rfl⟩
      show K _ _
      refine hK.out _ _ trivial (fun _ => ?_)
      clear hK K
      refine takeG (some 80) (i := 15) (v := ?vtb15x35) rfl rfl (by kernel_rfl) (by kernel_rfl) (by kernel_rfl) (fun _ _ _ h => h) (Or.inl ⟨by rfl, ?htb15x35⟩) hS0 ?rtb15x35
      case htb15x35 => (intro w _; go_simp; try (with_reducible rfl))
      try simp only [Act.put, List.setIfInBounds_toArray, List.set_cons_zero, List.set_cons_succ]
      refine takeG (some 81) (i := 16) (v := ?vtb16x36) rfl rfl (by kernel_rfl) (by kernel_rfl) (by kernel_rfl) (fun _ _ _ h => h) (Or.inl ⟨by rfl, ?htb16x36⟩) hS0 ?rtb16x36
      case htb16x36 => (intro w _; go_simp; try (with_reducible rfl))
      try simp only [Act.put, List.setIfInBounds_toArray, List.set_cons_zero, List.set_cons_succ]
      refine wpAnyH_ready (rs := [17]) (by kernel_rfl) (by simp) ?_
      refine AllReadyH.cons rfl (fun K hK => ?_) AllReadyH.nil
      have c3 := a5.cR
      have f3 := a5.free (i := 3) (by omega)
      go_simp
      refine hK.out _ _ trivial (fun _ => ?_)
      clear hK K c3 f3
      refine takeG (some 82) (i := 18) (v := ?vtb18x38) rfl rfl (by kernel_rfl) (by kernel_rfl) (by kernel_rfl) (fun _ _ _ h => h) (Or.inl ⟨by rfl, ?htb18x38⟩) hS0 ?rtb18x38
      case htb18x38 => (intro w _; go_simp; try (with_reducible rfl))
      try simp only [Act.put, List.setIfInBounds_toArray, List.set_cons_zero, List.set_cons_succ]
      refine takeG (some 83) (i := 19) (v := ?vtb19x39) rfl rfl (by kernel_rfl) (by kernel_rfl) (by kernel_rfl) (fun _ _ _ h => h) (Or.inl ⟨by rfl, ?htb19x39⟩) hS0 ?rtb19x39
      case htb19x39 => (intro w _; go_simp; try (with_reducible rfl))
      try simp only [Act.put, List.setIfInBounds_toArray, List.set_cons_zero, List.set_cons_succ]
      refine wpAnyH_ready (rs := [20]) (by kernel_rfl) (by simp) ?_
      refine AllReadyH.cons rfl (fun K hK => ?_) AllReadyH.nil
      have f4 := a5.free (i := 4) (by omega)
      have n4 := a5.cP
      have q4 : (World.setCell w5 ⟨S, 3, none⟩ (.slice (some ⟨g5, 0, none⟩) (r.length + 1) c5)).cell? ⟨S, 4, none⟩ = some (.int .u64 ((plS r : Nat) : Int)) := by rw [World.cell?_setCell_other _ _ _ _ (by simp)]; exact n4
      go_simp
      refine hK.out _ _ trivial (fun _ => ?_)
      clear hK K q4 n4 f4
      refine wpAnyH_done (by kernel_rfl) ?_ _
      go_wp2_with fail
      go_ret
      exact ⟨rfl, _, _, _, fin.1, fin.2⟩
  ·
    go_simp
    have R41 := Rd.below (box_below wd (.cells #[.int .i64 (i : Int)] 3))
    refine hK.out _ _ trivial (fun _ => ?_)
    clear hK K
    refine wpAnyH_ready (rs := [5, 12]) (by kernel_rfl) (by simp) ?_
    refine AllReadyH.cons rfl (fun K hK => ?_) (AllReadyH.cons rfl (fun K hK => ?_) AllReadyH.nil)
    ·
      have hc42 := R41.a.cR
      go_simp
      refine hK.out _ _ trivial (fun _ => ?_)
      clear hK K hc42
      refine wpAnyH_ready (rs := [8, 12]) (by kernel_rfl) (by simp) ?_
      refine AllReadyH.cons rfl (fun K hK => ?_) (AllReadyH.cons rfl (fun K hK => ?_) AllReadyH.nil)
      ·
        refine step_append_lies _ rfl (.tmp 70) (.tmp 72) 29 rfl (S + 1) 3 i0 (.int .i64 0) 1 8 Tryz.underlying29 hi0 hz0 hz1 hz2 rfl (by decide) (.slice va r.length vc) r.length _ (by simp [Act.eval]) R41.rw ⟨wd.heap.size, 0, none⟩ 1 1 [.int .i64 (i : Int)] (by simp [Act.eval]) rfl (lit_newI _ _ _) (by intro u hu; simp at hu; subst hu; rfl) (by decide) (by unfold maxLen; omega) (by omega) (by have := R41.a.lt; omega) _ rfl ?_
        intro g5 c5 w5 hown5 hg5 hl5 _
        obtain ⟨_, a5, _, _, _⟩ := R41.app HNE.out hown5 hg5 hl5
        have fin := HD.out _ _ R41 _ _ hown5 hg5 hl5
        refine hK.out _ _ trivial (fun _ => ?_)
        clear hK K hown5 hg5 hl5
        try simp only [Act.put, List.setIfInBounds_toArray]
        refine wpAnyH_ready (rs := [12]) (by kernel_rfl) (by simp) ?_
        refine AllReadyH.cons rfl (fun K hK => ?_) AllReadyH.nil
        have hc44 := a5.cP
        go_simp
        refine hK.out _ _ trivial (fun _ => ?_)
        clear hK K hc44
        refine wpAnyH_ready (rs := [14]) (by kernel_rfl) (by simp) ?_
        refine AllReadyH.cons rfl (fun K hK => ?_) AllReadyH.nil
        go_simp
        refine (CWT.out _).mono ?_
        rintro e y45 ⟨rfl, rfl⟩
        show K _ _
        refine hK.out _ _ trivial (fun _ => ?_)
        clear hK K
        refine takeG (some 80) (i := 15) (v := ?vtb15x46) rfl rfl (by kernel_rfl) (by kernel_rfl) (by kernel_rfl) (fun _ _ _ h => h) (Or.inl ⟨by rfl, ?htb15x46⟩) hS0 ?rtb15x46
        case htb15x46 => (intro w _; go_simp; try (with_reducible rfl))
        try simp only [Act.put, List.setIfInBounds_toArray, List.set_cons_zero, List.set_cons_succ]
        refine takeG (some 81) (i := 16) (v := ?vtb16x47) rfl rfl (by kernel_rfl) (by kernel_rfl) (by kernel_rfl) (fun _ _ _ h => h) (Or.inl ⟨by rfl, ?htb16x47⟩) hS0 ?rtb16x47
        case htb16x47 => (intro w _; go_simp; try (with_reducible rfl))
        try simp only [Act.put, List.setIfInBounds_toArray, List.set_cons_zero, List.set_cons_succ]
        refine wpAnyH_ready (rs := [17]) (by kernel_rfl) (by simp) ?_
        refine AllReadyH.cons rfl (fun K hK => ?_) AllReadyH.nil
        have c3 := a5.cR
        have f3 := a5.free (i := 3) (by omega)
        go_simp
        refine hK.out _ _ trivial (fun _ => ?_)
        clear hK K c3 f3
        refine takeG (some 82) (i := 18) (v := ?vtb18x49) rfl rfl (by kernel_rfl) (by kernel_rfl) (by kernel_rfl) (fun _ _ _ h => h) (Or.inl ⟨by rfl, ?htb18x49⟩) hS0 ?rtb18x49
        case htb18x49 => (intro w _; go_simp; try (with_reducible rfl))
        try simp only [Act.put, List.setIfInBounds_toArray, List.set_cons_zero, List.set_cons_succ]
        refine takeG (some 83) (i := 19) (v := ?vtb19x50) rfl rfl (by kernel_rfl) (by kernel_rfl) (by kernel_rfl) (fun _ _ _ h => h) (Or.inl ⟨by rfl, ?htb19x50⟩) hS0 ?rtb19x50
        case htb19x50 => (intro w _; go_simp; try (with_reducible rfl))
        try simp only [Act.put, List.setIfInBounds_toArray, List.set_cons_zero, List.set_cons_succ]
        refine wpAnyH_ready (rs := [20]) (by kernel_rfl) (by simp) ?_
        refine AllReadyH.cons rfl (fun K hK => ?_) AllReadyH.nil
        have f4 := a5.free (i := 4) (by omega)
        have n4 := a5.cP
        have q4 : (World.setCell w5 ⟨S, 3, none⟩ (.slice (some ⟨g5, 0, none⟩) (r.length + 1) c5)).cell? ⟨S, 4, none⟩ = some (.int .u64 ((plS r : Nat) : Int)) := by rw [World.cell?_setCell_other _ _ _ _ (by simp)]; exact n4
        go_simp
        refine hK.out _ _ trivial (fun _ => ?_)
        clear hK K q4 n4 f4
        refine wpAnyH_done (by kernel_rfl) ?_ _
        go_wp2_with fail
        go_ret
        exact ⟨rfl, _, _, _, fin.1, fin.2⟩
      ·
        have hc52 := R41.a.cP
        go_simp
        refine hK.out _ _ trivial (fun _ => ?_)
        clear hK K hc52
        refine wpAnyH_ready (rs := [8]) (by kernel_rfl) (by simp) ?_
        refine AllReadyH.cons rfl (fun K hK => ?_) AllReadyH.nil
        refine step_append_lies _ rfl (.tmp 70) (.tmp 72) 29 rfl (S + 1) 3 i0 (.int .i64 0) 1 8 Tryz.underlying29 hi0 hz0 hz1 hz2 rfl (by decide) (.slice va r.length vc) r.length _ (by simp [Act.eval]) R41.rw ⟨wd.heap.size, 0, none⟩ 1 1 [.int .i64 (i : Int)] (by simp [Act.eval]) rfl (lit_newI _ _ _) (by intro u hu; simp at hu; subst hu; rfl) (by decide) (by unfold maxLen; omega) (by omega) (by have := R41.a.lt; omega) _ rfl ?_
        intro g5 c5 w5 hown5 hg5 hl5 _
        obtain ⟨_, a5, _, _, _⟩ := R41.app HNE.out hown5 hg5 hl5
        have fin := HD.out _ _ R41 _ _ hown5 hg5 hl5
        refine hK.out _ _ trivial (fun _ => ?_)
        clear hK K hown5 hg5 hl5
        try simp only [Act.put, List.setIfInBounds_toArray]
        refine wpAnyH_ready (rs := [14]) (by kernel_rfl) (by simp) ?_
        refine AllReadyH.cons rfl (fun K hK => ?_) AllReadyH.nil
        go_simp
        refine (CWT.out _).mono ?_
        rintro e y54 ⟨rfl, rfl⟩
        show K _ _
        refine hK.out _ _ trivial (fun _ => ?_)
        clear hK K
        refine takeG (some 80) (i := 15) (v := ?vtb15x55) rfl rfl (by kernel_rfl) (by kernel_rfl) (by kernel_rfl) (fun _ _ _ h => h) (Or.inl ⟨by rfl, ?htb15x55⟩) hS0 ?rtb15x55
        case htb15x55 => (intro w _; go_simp; try (with_reducible rfl))
        try simp only [Act.put, List.setIfInBounds_toArray, List.set_cons_zero, List.set_cons_succ]
        refine takeG (some 81) (i := 16) (v := ?vtb16x56) rfl rfl (by kernel_rfl) (by kernel_rfl) (by kernel_rfl) (fun _ _ _ h => h) (Or.inl ⟨by rfl, ?htb16x56⟩) hS0 ?rtb16x56
        case htb16x56 => (intro w _; go_simp; try (with_reducible rfl))
        try simp only [Act.put, List.setIfInBounds_toArray, List.set_cons_zero, List.set_cons_succ]
        refine wpAnyH_ready (rs := [17]) (by kernel_rfl) (by simp) ?_
        refine AllReadyH.cons rfl (fun K hK => ?_) AllReadyH.nil
        have c3 := a5.cR
        have f3 := a5.free (i := 3) (by omega)
        go_simp
        refine hK.out _ _ trivial (fun _ => ?_)
        clear hK K c3 f3
        refine takeG (some 82) (i := 18) (v := ?vtb18x58) rfl rfl (by kernel_rfl) (by kernel_rfl) (by kernel_rfl) (fun _ _ _ h => h) (Or.inl ⟨by rfl, ?htb18x58⟩) hS0 ?rtb18x58
        case htb18x58 => (intro w _; go_simp; try (with_reducible rfl))
        try simp only [Act.put, List.setIfInBounds_toArray, List.set_cons_zero, List.set_cons_succ]
        refine takeG (some 83) (i := 19) (v := ?vtb19x59) rfl rfl (by kernel_rfl) (by kernel_rfl) (by kernel_rfl) (fun _ _ _ h => h) (Or.inl ⟨by rfl, ?htb19x59⟩) hS0 ?rtb19x59
        case htb19x59 => (intro w _; go_simp; try (with_reducible rfl))
        try simp only [Act.put, List.setIfInBounds_toArray, List.set_cons_zero, List.set_cons_succ]
        refine wpAnyH_ready (rs := [20]) (by kernel_rfl) (by simp) ?_
        refine AllReadyH.cons rfl (fun K hK => ?_) AllReadyH.nil
        have f4 := a5.free (i := 4) (by omega)
        have n4 := a5.cP
        have q4 : (World.setCell w5 ⟨S, 3, none⟩ (.slice (some ⟨g5, 0, none⟩) (r.length + 1) c5)).cell? ⟨S, 4, none⟩ = some (.int .u64 ((plS r : Nat) : Int)) := by rw [World.cell?_setCell_other _ _ _ _ (by simp)]; exact n4
        go_simp
        refine hK.out _ _ trivial (fun _ => ?_)
        clear hK K q4 n4 f4
        refine wpAnyH_done (by kernel_rfl) ?_ _
        go_wp2_with fail
        go_ret
        exact ⟨rfl, _, _, _, fin.1, fin.2⟩
    ·
      have hc61 := R41.a.cP
      go_simp
      refine hK.out _ _ trivial (fun _ => ?_)
      clear hK K hc61
      refine wpAnyH_ready (rs := [5]) (by kernel_rfl) (by simp) ?_
      refine AllReadyH.cons rfl (fun K hK => ?_) AllReadyH.nil
      have hc62 := R41.a.cR
      go_simp
      refine hK.out _ _ trivial (fun _ => ?_)
      clear hK K hc62
      refine wpAnyH_ready (rs := [8]) (by kernel_rfl) (by simp) ?_
      refine AllReadyH.cons rfl (fun K hK => ?_) AllReadyH.nil
      refine step_append_lies _ rfl (.tmp 70) (.tmp 72) 29 rfl (S + 1) 3 i0 (.int .i64 0) 1 8 Tryz.underlying29 hi0 hz0 hz1 hz2 rfl (by decide) (.slice va r.length vc) r.length _ (by simp [Act.eval]) R41.rw ⟨wd.heap.size, 0, none⟩ 1 1 [.int .i64 (i : Int)] (by simp [Act.eval]) rfl (lit_newI _ _ _) (by intro u hu; simp at hu; subst hu; rfl) (by decide) (by unfold maxLen; omega) (by omega) (by have := R41.a.lt; omega) _ rfl ?_
      intro g5 c5 w5 hown5 hg5 hl5 _
      obtain ⟨_, a5, _, _, _⟩ := R41.app HNE.out hown5 hg5 hl5
      have fin := HD.out _ _ R41 _ _ hown5 hg5 hl5
      refine hK.out _ _ trivial (fun _ => ?_)
      clear hK K hown5 hg5 hl5
      try simp only [Act.put, List.setIfInBounds_toArray]
      refine wpAnyH_ready (rs := [14]) (by kernel_rfl) (by simp) ?_
      refine AllReadyH.cons rfl (fun K hK => ?_) AllReadyH.nil
      go_simp
      refine (CWT.out _).mono ?_
      rintro e y64 ⟨rfl, rfl⟩
      show K _ _
      refine hK.out _ _ trivial (fun _ => ?_)
      clear hK K
      refine takeG (some 80) (i := 15) (v := ?vtb15x65) rfl rfl (by kernel_rfl) (by kernel_rfl) (by kernel_rfl) (fun _ _ _ h => h) (Or.inl ⟨by rfl, ?htb15x65⟩) hS0 ?rtb15x65
      case htb15x65 => (intro w _; go_simp; try (with_reducible rfl))
      try simp only [Act.put, List.setIfInBounds_toArray, List.set_cons_zero, List.set_cons_succ]
      refine takeG (some 81) (i := 16) (v := ?vtb16x66) rfl rfl (by kernel_rfl) (by kernel_rfl) (by kernel_rfl) (fun _ _ _ h => h) (Or.inl ⟨by rfl, ?htb16x66⟩) hS0 ?rtb16x66
      case htb16x66 => (intro w _; go_simp; try (with_reducible rfl))
      try simp only [Act.put, List.setIfInBounds_toArray, List.set_cons_zero, List.set_cons_succ]
      refine wpAnyH_ready (rs := [17]) (by kernel_rfl) (by simp) ?_
      refine AllReadyH.cons rfl (fun K hK => ?_) AllReadyH.nil
      have c3 := a5.cR
      have f3 := a5.free (i := 3) (by omega)
      go_simp
      refine hK.out _ _ trivial (fun _ => ?_)
      clear hK K c3 f3
      refine takeG (some 82) (i := 18) (v := ?vtb18x68) rfl rfl (by kernel_rfl) (by kernel_rfl) (by kernel_rfl) (fun _ _ _ h => h) (Or.inl ⟨by rfl, ?htb18x68⟩) hS0 ?rtb18x68
      case htb18x68 => (intro w _; go_simp; try (with_reducible rfl))
      try simp only [Act.put, List.setIfInBounds_toArray, List.set_cons_zero, List.set_cons_succ]
      refine takeG (some 83) (i := 19) (v := ?vtb19x69) rfl rfl (by kernel_rfl) (by kernel_rfl) (by kernel_rfl) (fun _ _ _ h => h) (Or.inl ⟨by rfl, ?htb19x69⟩) hS0 ?rtb19x69
      case htb19x69 => (intro w _; go_simp; try (with_reducible rfl))
      try simp only [Act.put, List.setIfInBounds_toArray, List.set_cons_zero, List.set_cons_succ]
      refine wpAnyH_ready (rs := [20]) (by kernel_rfl) (by simp) ?_
      refine AllReadyH.cons rfl (fun K hK => ?_) AllReadyH.nil
      have f4 := a5.free (i := 4) (by omega)
      have n4 := a5.cP
      have q4 : (World.setCell w5 ⟨S, 3, none⟩ (.slice (some ⟨g5, 0, none⟩) (r.length + 1) c5)).cell? ⟨S, 4, none⟩ = some (.int .u64 ((plS r : Nat) : Int)) := by rw [World.cell?_setCell_other _ _ _ _ (by simp)]; exact n4
      go_simp
      refine hK.out _ _ trivial (fun _ => ?_)
      clear hK K q4 n4 f4
      refine wpAnyH_done (by kernel_rfl) ?_ _
      go_wp2_with fail
      go_ret
      exact ⟨rfl, _, _, _, fin.1, fin.2⟩
  ·
    have hc71 := Rd.a.cP
    go_simp
    refine hK.out _ _ trivial (fun _ => ?_)
    clear hK K hc71
    refine wpAnyH_ready (rs := [5, 7]) (by kernel_rfl) (by simp) ?_
    refine AllReadyH.cons rfl (fun K hK => ?_) (AllReadyH.cons rfl (fun K hK => ?_) AllReadyH.nil)
    ·
      have hc72 := Rd.a.cR
      go_simp
      refine hK.out _ _ trivial (fun _ => ?_)
      clear hK K hc72
      refine wpAnyH_ready (rs := [7]) (by kernel_rfl) (by simp) ?_
      refine AllReadyH.cons rfl (fun K hK => ?_) AllReadyH.nil
      go_simp
      have R73 := Rd.below (box_below wd (.cells #[.int .i64 (i : Int)] 3))
      refine hK.out _ _ trivial (fun _ => ?_)
      clear hK K
      refine wpAnyH_ready (rs := [8]) (by kernel_rfl) (by simp) ?_
      refine AllReadyH.cons rfl (fun K hK => ?_) AllReadyH.nil
      refine step_append_lies _ rfl (.tmp 70) (.tmp 72) 29 rfl (S + 1) 3 i0 (.int .i64 0) 1 8 Tryz.underlying29 hi0 hz0 hz1 hz2 rfl (by decide) (.slice va r.length vc) r.length _ (by simp [Act.eval]) R73.rw ⟨wd.heap.size, 0, none⟩ 1 1 [.int .i64 (i : Int)] (by simp [Act.eval]) rfl (lit_newI _ _ _) (by intro u hu; simp at hu; subst hu; rfl) (by decide) (by unfold maxLen; omega) (by omega) (by have := R73.a.lt; omega) _ rfl ?_
      intro g5 c5 w5 hown5 hg5 hl5 _
      obtain ⟨_, a5, _, _, _⟩ := R73.app HNE.out hown5 hg5 hl5
      have fin := HD.out _ _ R73 _ _ hown5 hg5 hl5
      refine hK.out _ _ trivial (fun _ => ?_)
      clear hK K hown5 hg5 hl5
      try simp only [Act.put, List.setIfInBounds_toArray]
      refine wpAnyH_ready (rs := [14]) (by kernel_rfl) (by simp) ?_
      refine AllReadyH.cons rfl (fun K hK => ?_) AllReadyH.nil
      go_simp
      refine (CWT.out _).mono ?_
      rintro e y75 ⟨rfl, rfl⟩
      show K _ _
      refine hK.out _ _ trivial (fun _ => ?_)
      clear hK K
      refine takeG (some 80) (i := 15) (v := ?vtb15x76) rfl rfl (by kernel_rfl) (by kernel_rfl) (by kernel_rfl) (fun _ _ _ h => h) (Or.inl ⟨by rfl, ?htb15x76⟩) hS0 ?rtb15x76
      case htb15x76 => (intro w _; go_simp; try (with_reducible rfl))
      try simp only [Act.put, List.setIfInBounds_toArray, List.set_cons_zero, List.set_cons_succ]
      refine takeG (some 81) (i := 16) (v := ?vtb16x77) rfl rfl (by kernel_rfl) (by kernel_rfl) (by kernel_rfl) (fun _ _ _ h => h) (Or.inl ⟨by rfl, ?htb16x77⟩) hS0 ?rtb16x77
      case htb16x77 => (intro w _; go_simp; try (with_reducible rfl))
      try simp only [Act.put, List.setIfInBounds_toArray, List.set_cons_zero, List.set_cons_succ]
      refine wpAnyH_ready (rs := [17]) (by kernel_rfl) (by simp) ?_
      refine AllReadyH.cons rfl (fun K hK => ?_) AllReadyH.nil
      have c3 := a5.cR
      have f3 := a5.free (i := 3) (by omega)
      go_simp
      refine hK.out _ _ trivial (fun _ => ?_)
      clear hK K c3 f3
      refine takeG (some 82) (i := 18) (v := ?vtb18x79) rfl rfl (by kernel_rfl) (by kernel_rfl) (by kernel_rfl) (fun _ _ _ h => h) (Or.inl ⟨by rfl, ?htb18x79⟩) hS0 ?rtb18x79
      case htb18x79 => (intro w _; go_simp; try (with_reducible rfl))
      try simp only [Act.put, List.setIfInBounds_toArray, List.set_cons_zero, List.set_cons_succ]
      refine takeG (some 83) (i := 19) (v := ?vtb19x80) rfl rfl (by kernel_rfl) (by kernel_rfl) (by kernel_rfl) (fun _ _ _ h => h) (Or.inl ⟨by rfl, ?htb19x80⟩) hS0 ?rtb19x80
      case htb19x80 => (intro w _; go_simp; try (with_reducible rfl))
      try simp only [Act.put, List.setIfInBounds_toArray, List.set_cons_zero, List.set_cons_succ]
      refine wpAnyH_ready (rs := [20]) (by kernel_rfl) (by simp) ?_
      refine AllReadyH.cons rfl (fun K hK => ?_) AllReadyH.nil
      have f4 := a5.free (i := 4) (by omega)
      have n4 := a5.cP
      have q4 : (World.setCell w5 ⟨S, 3, none⟩ (.slice (some ⟨g5, 0, none⟩) (r.length + 1) c5)).cell? ⟨S, 4, none⟩ = some (.int .u64 ((plS r : Nat) : Int)) := by rw [World.cell?_setCell_other _ _ _ _ (by simp)]; exact n4
      go_simp
      refine hK.out _ _ trivial (fun _ => ?_)
      clear hK K q4 n4 f4
      refine wpAnyH_done (by kernel_rfl) ?_ _
      go_wp2_with fail
      go_ret
      exact ⟨rfl, _, _, _, fin.1, fin.2⟩
    ·
      go_simp
      have R82 := Rd.below (box_below wd (.cells #[.int .i64 (i : Int)] 3))
      refine hK.out _ _ trivial (fun _ => ?_)
      clear hK K
      refine wpAnyH_ready (rs := [5]) (by kernel_rfl) (by simp) ?_
      refine AllReadyH.cons rfl (fun K hK => ?_) AllReadyH.nil
      have hc83 := R82.a.cR
      go_simp
      refine hK.out _ _ trivial (fun _ => ?_)
      clear hK K hc83
      refine wpAnyH_ready (rs := [8]) (by kernel_rfl) (by simp) ?_
      refine AllReadyH.cons rfl (fun K hK => ?_) AllReadyH.nil
      refine step_append_lies _ rfl (.tmp 70) (.tmp 72) 29 rfl (S + 1) 3 i0 (.int .i64 0) 1 8 Tryz.underlying29 hi0 hz0 hz1 hz2 rfl (by decide) (.slice va r.length vc) r.length _ (by simp [Act.eval]) R82.rw ⟨wd.heap.size, 0, none⟩ 1 1 [.int .i64 (i : Int)] (by simp [Act.eval]) rfl (lit_newI _ _ _) (by intro u hu; simp at hu; subst hu; rfl) (by decide) (by unfold maxLen; omega) (by omega) (by have := R82.a.lt; omega) _ rfl ?_
      intro g5 c5 w5 hown5 hg5 hl5 _
      obtain ⟨_, a5, _, _, _⟩ := R82.app HNE.out hown5 hg5 hl5
      have fin := HD.out _ _ R82 _ _ hown5 hg5 hl5
      refine hK.out _ _ trivial (fun _ => ?_)
      clear hK K hown5 hg5 hl5
      try simp only [Act.put, List.setIfInBounds_toArray]
      refine wpAnyH_ready (rs := [14]) (by kernel_rfl) (by simp) ?_
      refine AllReadyH.cons rfl (fun K hK => ?_) AllReadyH.nil
      go_simp
      refine (CWT.out _).mono ?_
      rintro e y85 ⟨rfl, rfl⟩
      show K _ _
      refine hK.out _ _ trivial (fun _ => ?_)
      clear hK K
      refine takeG (some 80) (i := 15) (v := ?vtb15x86) rfl rfl (by kernel_rfl) (by kernel_rfl) (by kernel_rfl) (fun _ _ _ h => h) (Or.inl ⟨by rfl, ?htb15x86⟩) hS0 ?rtb15x86
      case htb15x86 => (intro w _; go_simp; try (with_reducible rfl))
      try simp only [Act.put, List.setIfInBounds_toArray, List.set_cons_zero, List.set_cons_succ]
      refine takeG (some 81) (i := 16) (v := ?vtb16x87) rfl rfl (by kernel_rfl) (by kernel_rfl) (by kernel_rfl) (fun _ _ _ h => h) (Or.inl ⟨by rfl, ?htb16x87⟩) hS0 ?rtb16x87
      case htb16x87 => (intro w _; go_simp; try (with_reducible rfl))
      try simp only [Act.put, List.setIfInBounds_toArray, List.set_cons_zero, List.set_cons_succ]
      refine wpAnyH_ready (rs := [17]) (by kernel_rfl) (by simp) ?_
      refine AllReadyH.cons rfl (fun K hK => ?_) AllReadyH.nil
      have c3 := a5.cR
      have f3 := a5.free (i := 3) (by omega)
      go_simp
      refine hK.out _ _ trivial (fun _ => ?_)
      clear hK K c3 f3
      refine takeG (some 82) (i := 18) (v := ?vtb18x89) rfl rfl (by kernel_rfl) (by kernel_rfl) (by kernel_rfl) (fun _ _ _ h => h) (Or.inl ⟨by rfl, ?htb18x89⟩) hS0 ?rtb18x89
      case htb18x89 => (intro w _; go_simp; try (with_reducible rfl))
      try simp only [Act.put, List.setIfInBounds_toArray, List.set_cons_zero, List.set_cons_succ]
      refine takeG (some 83) (i := 19) (v := ?vtb19x90) rfl rfl (by kernel_rfl) (by kernel_rfl) (by kernel_rfl) (fun _ _ _ h => h) (Or.inl ⟨by rfl, ?htb19x90⟩) hS0 ?rtb19x90
      case htb19x90 => (intro w _; go_simp; try (with_reducible rfl))
      try simp only [Act.put, List.setIfInBounds_toArray, List.set_cons_zero, List.set_cons_succ]
      refine wpAnyH_ready (rs := [20]) (by kernel_rfl) (by simp) ?_
      refine AllReadyH.cons rfl (fun K hK => ?_) AllReadyH.nil
      have f4 := a5.free (i := 4) (by omega)
      have n4 := a5.cP
      have q4 : (World.setCell w5 ⟨S, 3, none⟩ (.slice (some ⟨g5, 0, none⟩) (r.length + 1) c5)).cell? ⟨S, 4, none⟩ = some (.int .u64 ((plS r : Nat) : Int)) := by rw [World.cell?_setCell_other _ _ _ _ (by simp)]; exact n4
      go_simp
      refine hK.out _ _ trivial (fun _ => ?_)
      clear hK K q4 n4 f4
      refine wpAnyH_done (by kernel_rfl) ?_ _
      go_wp2_with fail
      go_ret
      exact ⟨rfl, _, _, _, fin.1, fin.2⟩
end
end Go.Proofs.YtecpeegbfeijaaaGreatDoor

namespace Go.Proofs.YtecpeegbfeijaaaGreatDoor
set_option maxRecDepth 100000
open Go.RowKit

theorem zeroPl (B C : Nat) : ((Tryz.zeroCells152.setIfInBounds 0 (.pointer (some ⟨B, 0, none⟩))).setIfInBounds 1 (.int .i64 (C : Int))) = ((List.range 133).map (plF B C (.slice none 0 0) (.slice none 0 0) 0 (fun _ => 0) (fun _ => 0))).toArray := by kernel_rfl
theorem PlAt.made (w : World) (B C : Nat) (t : TypeId) {S : Nat} {cs : Array Value} (hS : S = w.heap.size) (hc : cs = ((Tryz.zeroCells152.setIfInBounds 0 (.pointer (some ⟨B, 0, none⟩))).setIfInBounds 1 (.int .i64 (C : Int)))) : PlAt (w.alloc (.cells cs t)) S B C (.slice none 0 0) (.slice none 0 0) 0 (fun _ => 0) (fun _ => 0) := by
  subst hS hc
  rw [zeroPl]
  have hh := heap_alloc_new w (.cells ((List.range 133).map (plF B C (.slice none 0 0) (.slice none 0 0) 0 (fun _ => 0) (fun _ => 0))).toArray t)
  intro i hi
  refine ⟨?_, frozen_of_row _ _ _ _ _ hh⟩
  rw [cell_of_row _ _ _ _ _ _ hh]
  simp [hi]
theorem infoSetB : (Tryz.prog.info? 95).map (fun i => (i.zero, i.size, i.bytes)) = some (some (.int .u64 0), 1, 8) := by kernel_rfl
theorem lit_newJ (w : World) (x : Value) (t : TypeId) : ∀ j u, [x][j]? = some u → (w.alloc (.cells #[x] t)).cell? ((⟨w.heap.size, 0, none⟩ : Addr).add j) = some u := fun j u hu => by
  match j, hu with
  | 0, hu =>
    simp at hu; subst hu
    rw [Addr.add_lit, Nat.add_zero, cell_of_row _ _ _ _ _ _ (heap_alloc_new w _)]; rfl
  | j + 1, hu => simp at hu
/-- The sets of the first k. -/
def baseL (h : List TxnV) (C k : Nat) : List Value := (List.range k).map fun i => .int .u64 ((baseN h C i : Nat) : Int)
theorem baseL_succ (h : List TxnV) (C k : Nat) : baseL h C (k + 1) = baseL h C k ++ [.int .u64 ((baseN h C k : Nat) : Int)] := by unfold baseL; rw [List.range_succ, List.map_append]; rfl
/-- A state while it is made. -/
structure NwI (W : World) (S M B C : Nat) (h : List TxnV) (k : Nat) (vb : Value) (w : World) : Prop where
  a : PlAt w S B C vb (.slice none 0 0) 0 (fun _ => 0) (fun _ => 0)
  r : RelAt w M 97 (baseM h (C : Int))
  ow : w.ownsRow (M + 1) 95 1 vb k (baseL h C k)
  bel : Below W.heap.size W w
  lo : W.heap.size ≤ S
  hi : S < M
section
variable {W : World} {S M B C : Nat} {h : List TxnV} {k : Nat} {vb : Value} {w w' : World}
theorem NwI.below (q : NwI W S M B C h k vb w) (hb : Below w.heap.size w w') : NwI W S M B C h k vb w' := ⟨q.a.below hb q.a.lt, q.r.below hb q.r.lt, owns_below q.ow hb, q.bel.trans (hb.mono q.bel.size), q.lo, q.hi⟩
theorem NwI.add (q : NwI W S M B C h k vb w) {w5 : World} {v' : Value} (hown : w5.ownsRow (M + 1) 95 1 v' (k + 1) (baseL h C k ++ [.int .u64 ((baseN h C k : Nat) : Int)])) (hg : w.grownBy w5 vb.ownBlock) :
    PlAt w5 S B C vb (.slice none 0 0) 0 (fun _ => 0) (fun _ => 0) ∧ RelAt w5 M 97 (baseM h (C : Int)) ∧ RelAt (w5.setCell ⟨S, 2, none⟩ v') M 97 (baseM h (C : Int)) ∧ NwI W S M B C h (k + 1) v' (w5.setCell ⟨S, 2, none⟩ v') := by
  have hhi := q.hi
  have hS : vb.ownBlock ≠ some S := fun e => by have := (q.ow.lt _ e).1; omega
  have hM : vb.ownBlock ≠ some M := fun e => by have := (q.ow.lt _ e).1; omega
  have a5 := q.a.grown hg (fun e => hS e.symm)
  have r5 : RelAt w5 M 97 (baseM h (C : Int)) := by
    have := q.r
    unfold RelAt at *
    rw [hg.block M q.r.lt (fun e => hM e.symm)]; exact this
  have r6 := r5.other (k := ⟨S, 2, none⟩) (by show M ≠ S; omega) v'
  have hlo := q.lo
  refine ⟨a5, r5, r6, a5.setB v', r6, ?_, (q.bel.grown hg q.bel.size (fun j hj => by have := (q.ow.lt _ hj).1; omega)).setCell (p := ⟨S, 2, none⟩) hlo v', hlo, hhi⟩
  rw [baseL_succ]
  exact pl_far hown (by show S < M + 1; omega) v'
end
set_option maxRecDepth 100000 in
set_option maxHeartbeats 16000000 in
theorem pnew_any (x : Int) (h : List TxnV) (B b : Nat) (w : World) (hO : OrdIs w B b h) (hc : checkI h = 0) (ht : Tab w) :
    Calls Tryz.prog 47 #[.pointer (some ⟨B, 0, none⟩), .int .i64 x] w fun e w' => ∃ S vb aF sF, e = .returned (.pointer (some ⟨S, 0, none⟩)) ∧ PlIs w S B b h (clI x) [] vb (.slice none 0 0) aF sF w' := by
  have h64 := (check_zero hc).1
  have HFIN : Hid (∀ S M vb wx, NwI w S M B (clI x) h h.length vb wx → PlIs w S B b h (clI x) [] vb (.slice none 0 0) (fun _ => 0) (fun _ => 0) wx) := Lib.hid (fun S M vb wx q => by
    have hhi := q.hi
    exact ⟨hO, ht, q.bel, q.lo, q.a, own_base' q.ow (by omega), ⟨rfl, .inl ⟨rfl, rfl⟩⟩, fun g _ e => (by cases e), fun k _ => ⟨by unfold IsSet; omega, by unfold IsSet; omega⟩, fun k hk => (by cases hk), List.nodup_nil, fun k hk => (by cases hk), fun k hk => (by cases hk)⟩)
  have HO := Lib.hid (fun wx (hx : Below w.heap.size w wx) => (hO.below hx).blk)
  have n0 := hO.blk.cN
  have CC := Lib.hid (fun wx => lclosed_any x wx)
  obtain ⟨i0, hi0, hz0, hz1, hz2⟩ := info_parts infoSetB
  clear hO hc ht
  generalize clI x = C at *
  have ha := PlAt.made w B C 152 rfl rfl
  have hb1 := box_below w (.cells ((Tryz.zeroCells152.setIfInBounds 0 (.pointer (some ⟨B, 0, none⟩))).setIfInBounds 1 (.int .i64 (C : Int))) 152)
  have hs1 : (w.alloc (.cells ((Tryz.zeroCells152.setIfInBounds 0 (.pointer (some ⟨B, 0, none⟩))).setIfInBounds 1 (.int .i64 (C : Int))) 152)).heap.size = w.heap.size + 1 := by simp
  go_enter Tryz.func47, Tryz.ntmps47
  go_wp2_with fail
  refine (CC.out _).mono ?_
  rintro e wq ⟨rfl, rfl⟩
  go_upto_region 2 with fail
  generalize w.alloc (.cells ((Tryz.zeroCells152.setIfInBounds 0 (.pointer (some ⟨B, 0, none⟩))).setIfInBounds 1 (.int .i64 (C : Int))) 152) = w1 at *
  have hlt := ha.lt
  have hcc := ha.cC
  have CB := Lib.hid (fun wx (hx : Below w.heap.size w wx) => lbase_any (C : Int) h B wx (HO.out wx hx))
  go_wp2_with fail
  refine (CB.out _ hb1).mono ?_
  rintro e w2 ⟨rfl, h2⟩
  have ha := ha.below h2 hlt
  have hb2 := below_then hb1 h2
  have hsz := h2.size
  have z2 := zero_block w2
  have ha := ha.below (box_below w2 (.cells #[.int .u64 0, .int .u64 0, .int .u64 0, .int .u64 0, .int .u64 0, .int .u64 0, .int .u64 0, .int .u64 0, .int .u64 0, .int .u64 0, .int .u64 0, .int .u64 0, .int .u64 0, .int .u64 0, .int .u64 0, .int .u64 0, .int .u64 0, .int .u64 0, .int .u64 0, .int .u64 0, .int .u64 0, .int .u64 0, .int .u64 0, .int .u64 0, .int .u64 0, .int .u64 0, .int .u64 0, .int .u64 0, .int .u64 0, .int .u64 0, .int .u64 0, .int .u64 0, .int .u64 0, .int .u64 0, .int .u64 0, .int .u64 0, .int .u64 0, .int .u64 0, .int .u64 0, .int .u64 0, .int .u64 0, .int .u64 0, .int .u64 0, .int .u64 0, .int .u64 0, .int .u64 0, .int .u64 0, .int .u64 0, .int .u64 0, .int .u64 0, .int .u64 0, .int .u64 0, .int .u64 0, .int .u64 0, .int .u64 0, .int .u64 0, .int .u64 0, .int .u64 0, .int .u64 0, .int .u64 0, .int .u64 0, .int .u64 0, .int .u64 0, .int .u64 0] 97)) ha.lt
  have hb3 := hb2.alloc hb2.size (.cells #[.int .u64 0, .int .u64 0, .int .u64 0, .int .u64 0, .int .u64 0, .int .u64 0, .int .u64 0, .int .u64 0, .int .u64 0, .int .u64 0, .int .u64 0, .int .u64 0, .int .u64 0, .int .u64 0, .int .u64 0, .int .u64 0, .int .u64 0, .int .u64 0, .int .u64 0, .int .u64 0, .int .u64 0, .int .u64 0, .int .u64 0, .int .u64 0, .int .u64 0, .int .u64 0, .int .u64 0, .int .u64 0, .int .u64 0, .int .u64 0, .int .u64 0, .int .u64 0, .int .u64 0, .int .u64 0, .int .u64 0, .int .u64 0, .int .u64 0, .int .u64 0, .int .u64 0, .int .u64 0, .int .u64 0, .int .u64 0, .int .u64 0, .int .u64 0, .int .u64 0, .int .u64 0, .int .u64 0, .int .u64 0, .int .u64 0, .int .u64 0, .int .u64 0, .int .u64 0, .int .u64 0, .int .u64 0, .int .u64 0, .int .u64 0, .int .u64 0, .int .u64 0, .int .u64 0, .int .u64 0, .int .u64 0, .int .u64 0, .int .u64 0, .int .u64 0] 97)
  have hSM : w.heap.size < w2.heap.size := by omega
  have h3 := below_setRow (Below.refl w2.heap.size (w2.alloc (.cells #[.int .u64 0, .int .u64 0, .int .u64 0, .int .u64 0, .int .u64 0, .int .u64 0, .int .u64 0, .int .u64 0, .int .u64 0, .int .u64 0, .int .u64 0, .int .u64 0, .int .u64 0, .int .u64 0, .int .u64 0, .int .u64 0, .int .u64 0, .int .u64 0, .int .u64 0, .int .u64 0, .int .u64 0, .int .u64 0, .int .u64 0, .int .u64 0, .int .u64 0, .int .u64 0, .int .u64 0, .int .u64 0, .int .u64 0, .int .u64 0, .int .u64 0, .int .u64 0, .int .u64 0, .int .u64 0, .int .u64 0, .int .u64 0, .int .u64 0, .int .u64 0, .int .u64 0, .int .u64 0, .int .u64 0, .int .u64 0, .int .u64 0, .int .u64 0, .int .u64 0, .int .u64 0, .int .u64 0, .int .u64 0, .int .u64 0, .int .u64 0, .int .u64 0, .int .u64 0, .int .u64 0, .int .u64 0, .int .u64 0, .int .u64 0, .int .u64 0, .int .u64 0, .int .u64 0, .int .u64 0, .int .u64 0, .int .u64 0, .int .u64 0, .int .u64 0] 97))) (Nat.le_refl _) (rowsA (baseM h (C : Int)))
  have ha := ha.below h3 hSM
  have hb3 := hb3.trans (h3.mono hb2.size)
  clear hb1 hb2 h2 hcc hlt h3
  go_upto_region 3 with (with_reducible refine wpList_store_rel z2 (baseM h (C : Int)) rfl _ _ rfl rfl rfl ?_)
  have z2 := z2.setRow (baseM h (C : Int))
  generalize World.setRow _ _ _ = w3 at *
  generalize w2.heap.size = M at *
  have n3 := (HO.out _ hb3).cN
  have HI : NwI w w.heap.size M B C h 0 (.slice none 0 0) w3 := ⟨ha, z2, ⟨rfl, .inl ⟨rfl, rfl⟩⟩, hb3, Nat.le_refl _, hSM⟩
  generalize w.heap.size = S at *
  clear ha z2 hb3 n0 hs1 hsz CB HO
  go_wp2_with fail
  clear n3
  go_loopw [23] (fun iv wr => ∃ (k : Nat) (vb : Value), k ≤ h.length ∧ iv = .int .i64 k ∧ NwI w S M B C h k vb wr) (fun iv _ => h.length - (intOf iv).toNat)
  case atStart => exact ⟨0, .slice none 0 0, by omega, rfl, HI⟩
  case round =>
    clear HI
    obtain ⟨k, vb, hk, rfl, hI⟩ := hrel
    by_cases hlt : k < h.length
    · have hki : (k : Int) < (h.length : Int) := by omega
      obtain ⟨va, vc, rfl⟩ := owns_form hI.ow
      have CS := Lib.hid (fun wx => lsees_any (baseM h (C : Int)) (k : Int) wx)
      have HEQ : Hid (∀ e : Nat, e = seeTo (baseM h (C : Int)) (k : Int) 64 → e = baseN h C k) := Lib.hid (fun e he => he)
      have HQ := Lib.hid (fun wx (hx : Below wr.heap.size wr wx) => hI.below hx)
      have kd := (Below.refl wr.heap.size wr).drew
      rw [show seeTo (baseM h (C : Int)) (k : Int) 64 = baseN h C k from rfl] at CS
      clear hI HEQ
      go_upto_region 6 with fail
      refine wp_region_held_drew (S := fun wx => RelAt wx M 97 (baseM h (C : Int))) (by kernel_rfl) (HQ.out _ kd).r (fun hS0 => ?_)
      generalize wr.drew = wd at *
      refine takeG (some 26) (i := 0) (v := ?vna0x1) rfl rfl (by kernel_rfl) (by kernel_rfl) (by kernel_rfl) (fun _ _ _ h => h) (Or.inl ⟨by rfl, ?hna0x1⟩) hS0 ?rna0x1
      case hna0x1 => (intro w _; go_simp; try (with_reducible rfl))
      try simp only [Act.put, List.setIfInBounds_toArray, List.set_cons_zero, List.set_cons_succ]
      refine takeG (some 27) (i := 1) (v := ?vna1x2) rfl rfl (by kernel_rfl) (by kernel_rfl) (by kernel_rfl) (fun _ _ _ h => h) (Or.inl ⟨by rfl, ?hna1x2⟩) hS0 ?rna1x2
      case hna1x2 => (intro w _; go_simp; try (with_reducible rfl))
      try simp only [Act.put, List.setIfInBounds_toArray, List.set_cons_zero, List.set_cons_succ]
      refine takeG (some 28) (i := 2) (v := ?vna2x3) rfl rfl (by kernel_rfl) (by kernel_rfl) (by kernel_rfl) (fun _ _ _ h => h) (Or.inl ⟨by rfl, ?hna2x3⟩) hS0 ?rna2x3
      case hna2x3 => (intro w _; go_simp; try (with_reducible rfl))
      try simp only [Act.put, List.setIfInBounds_toArray, List.set_cons_zero, List.set_cons_succ]
      refine takeG (some 29) (i := 3) (v := ?vna3x4) rfl rfl (by kernel_rfl) (by kernel_rfl) (by kernel_rfl) (fun _ _ _ h => h) (Or.inl ⟨by rfl, ?hna3x4⟩) hS0 ?rna3x4
      case hna3x4 => (intro w _; go_simp; try (with_reducible rfl))
      try simp only [Act.put, List.setIfInBounds_toArray, List.set_cons_zero, List.set_cons_succ]
      refine takeG (some 31) (i := 5) (v := _) rfl rfl (by kernel_rfl) (by kernel_rfl) (by kernel_rfl) (fun _ _ _ h => h) (yields_rel (by rfl) _ rfl rfl (fun wx hx => hx)) hS0 ?_
      try simp only [Act.put, List.setIfInBounds_toArray, List.set_cons_zero, List.set_cons_succ]
      refine takeG (some 32) (i := 6) (v := ?vna6x6) rfl rfl (by kernel_rfl) (by kernel_rfl) (by kernel_rfl) (fun _ _ _ h => h) (Or.inl ⟨by rfl, ?hna6x6⟩) hS0 ?rna6x6
      case hna6x6 => (intro w _; go_simp; try (with_reducible rfl))
      try simp only [Act.put, List.setIfInBounds_toArray, List.set_cons_zero, List.set_cons_succ]
      refine wpAnyH_ready (rs := [4, 7]) (by kernel_rfl) (by simp) ?_
      refine AllReadyH.cons rfl (fun K hK => ?_) (AllReadyH.cons rfl (fun K hK => ?_) AllReadyH.nil)
      ·
        have hc7 := (HQ.out _ kd).a.cB
        go_simp
        refine hK.out _ _ hS0 (fun _ => ?_)
        clear hK K hc7
        refine wpAnyH_ready (rs := [7]) (by kernel_rfl) (by simp) ?_
        refine AllReadyH.cons rfl (fun K hK => ?_) AllReadyH.nil
        go_simp
        refine (CS.out _).mono ?_
        rintro e q8 ⟨rfl, j8⟩
        show K _ _
        have k8 := below_then kd j8
        have s8 := (HQ.out _ k8).r
        refine hK.out _ _ s8 (fun _ => ?_)
        clear hK K
        refine wpAnyH_ready (rs := [8]) (by kernel_rfl) (by simp) ?_
        refine AllReadyH.cons rfl (fun K hK => ?_) AllReadyH.nil
        go_simp
        have RA := (HQ.out _ k8).below (box_below q8 (.cells #[.int .u64 ((baseN h C k : Nat) : Int)] 95))
        have s9 := RA.r
        refine hK.out _ _ s9 (fun _ => ?_)
        clear hK K
        refine wpAnyH_ready (rs := [9]) (by kernel_rfl) (by simp) ?_
        refine AllReadyH.cons rfl (fun K hK => ?_) AllReadyH.nil
        refine step_append_lies _ rfl (.tmp 30) (.tmp 34) 150 rfl (M + 1) 95 i0 (.int .u64 0) 1 8 Tryz.underlying150 hi0 hz0 hz1 hz2 rfl (by decide) (.slice va k vc) k _ (by simp [Act.eval]) RA.ow ⟨q8.heap.size, 0, none⟩ 1 1 [.int .u64 ((baseN h C k : Nat) : Int)] (by simp [Act.eval]) rfl (lit_newJ _ _ _) (by intro u hu; simp at hu; subst hu; rfl) (by decide) (by unfold maxLen; omega) (by omega) (by have := RA.r.lt; omega) _ rfl ?_
        intro g5 c5 w5 hown5 hg5 _ _
        obtain ⟨a5, r5, r6, q6⟩ := RA.add hown5 hg5
        refine hK.out _ _ r5 (fun _ => ?_)
        clear hK K hown5 hg5
        refine takeG (some 36) (i := 10) (v := ?vna10x11) rfl rfl (by kernel_rfl) (by kernel_rfl) (by kernel_rfl) (fun _ _ _ h => h) (Or.inl ⟨by rfl, ?hna10x11⟩) r5 ?rna10x11
        case hna10x11 => (intro w _; go_simp; try (with_reducible rfl))
        try simp only [Act.put, List.setIfInBounds_toArray]
        refine takeG (some 37) (i := 11) (v := ?vna11x12) rfl rfl (by kernel_rfl) (by kernel_rfl) (by kernel_rfl) (fun _ _ _ h => h) (Or.inl ⟨by rfl, ?hna11x12⟩) r5 ?rna11x12
        case hna11x12 => (intro w _; go_simp; try (with_reducible rfl))
        try simp only [Act.put]
        refine wpAnyH_ready (rs := [12]) (by kernel_rfl) (by simp) ?_
        refine AllReadyH.cons rfl (fun K hK => ?_) AllReadyH.nil
        have c2 := a5.cB
        have f2 := a5.free (i := 2) (by omega)
        go_simp
        refine hK.out _ _ r6 (fun _ => ?_)
        clear hK K c2 f2 a5 r5
        refine wpAnyH_done (by kernel_rfl) ?_ _
        go_wp2_with fail
        go_roundw
        case rel => exact ⟨k + 1, _, by omega, by go_num, q6⟩
        case measure => simp [intOf]; omega
      ·
        go_simp
        refine (CS.out _).mono ?_
        rintro e q14 ⟨rfl, j14⟩
        show K _ _
        have k14 := below_then kd j14
        have s14 := (HQ.out _ k14).r
        refine hK.out _ _ s14 (fun _ => ?_)
        clear hK K
        refine wpAnyH_ready (rs := [4, 8]) (by kernel_rfl) (by simp) ?_
        refine AllReadyH.cons rfl (fun K hK => ?_) (AllReadyH.cons rfl (fun K hK => ?_) AllReadyH.nil)
        ·
          have hc15 := (HQ.out _ k14).a.cB
          go_simp
          refine hK.out _ _ s14 (fun _ => ?_)
          clear hK K hc15
          refine wpAnyH_ready (rs := [8]) (by kernel_rfl) (by simp) ?_
          refine AllReadyH.cons rfl (fun K hK => ?_) AllReadyH.nil
          go_simp
          have RA := (HQ.out _ k14).below (box_below q14 (.cells #[.int .u64 ((baseN h C k : Nat) : Int)] 95))
          have s16 := RA.r
          refine hK.out _ _ s16 (fun _ => ?_)
          clear hK K
          refine wpAnyH_ready (rs := [9]) (by kernel_rfl) (by simp) ?_
          refine AllReadyH.cons rfl (fun K hK => ?_) AllReadyH.nil
          refine step_append_lies _ rfl (.tmp 30) (.tmp 34) 150 rfl (M + 1) 95 i0 (.int .u64 0) 1 8 Tryz.underlying150 hi0 hz0 hz1 hz2 rfl (by decide) (.slice va k vc) k _ (by simp [Act.eval]) RA.ow ⟨q14.heap.size, 0, none⟩ 1 1 [.int .u64 ((baseN h C k : Nat) : Int)] (by simp [Act.eval]) rfl (lit_newJ _ _ _) (by intro u hu; simp at hu; subst hu; rfl) (by decide) (by unfold maxLen; omega) (by omega) (by have := RA.r.lt; omega) _ rfl ?_
          intro g5 c5 w5 hown5 hg5 _ _
          obtain ⟨a5, r5, r6, q6⟩ := RA.add hown5 hg5
          refine hK.out _ _ r5 (fun _ => ?_)
          clear hK K hown5 hg5
          refine takeG (some 36) (i := 10) (v := ?vna10x18) rfl rfl (by kernel_rfl) (by kernel_rfl) (by kernel_rfl) (fun _ _ _ h => h) (Or.inl ⟨by rfl, ?hna10x18⟩) r5 ?rna10x18
          case hna10x18 => (intro w _; go_simp; try (with_reducible rfl))
          try simp only [Act.put, List.setIfInBounds_toArray]
          refine takeG (some 37) (i := 11) (v := ?vna11x19) rfl rfl (by kernel_rfl) (by kernel_rfl) (by kernel_rfl) (fun _ _ _ h => h) (Or.inl ⟨by rfl, ?hna11x19⟩) r5 ?rna11x19
          case hna11x19 => (intro w _; go_simp; try (with_reducible rfl))
          try simp only [Act.put]
          refine wpAnyH_ready (rs := [12]) (by kernel_rfl) (by simp) ?_
          refine AllReadyH.cons rfl (fun K hK => ?_) AllReadyH.nil
          have c2 := a5.cB
          have f2 := a5.free (i := 2) (by omega)
          go_simp
          refine hK.out _ _ r6 (fun _ => ?_)
          clear hK K c2 f2 a5 r5
          refine wpAnyH_done (by kernel_rfl) ?_ _
          go_wp2_with fail
          go_roundw
          case rel => exact ⟨k + 1, _, by omega, by go_num, q6⟩
          case measure => simp [intOf]; omega
        ·
          go_simp
          have RA := (HQ.out _ k14).below (box_below q14 (.cells #[.int .u64 ((baseN h C k : Nat) : Int)] 95))
          have s21 := RA.r
          refine hK.out _ _ s21 (fun _ => ?_)
          clear hK K
          refine wpAnyH_ready (rs := [4]) (by kernel_rfl) (by simp) ?_
          refine AllReadyH.cons rfl (fun K hK => ?_) AllReadyH.nil
          have hc22 := RA.a.cB
          go_simp
          refine hK.out _ _ s21 (fun _ => ?_)
          clear hK K hc22
          refine wpAnyH_ready (rs := [9]) (by kernel_rfl) (by simp) ?_
          refine AllReadyH.cons rfl (fun K hK => ?_) AllReadyH.nil
          refine step_append_lies _ rfl (.tmp 30) (.tmp 34) 150 rfl (M + 1) 95 i0 (.int .u64 0) 1 8 Tryz.underlying150 hi0 hz0 hz1 hz2 rfl (by decide) (.slice va k vc) k _ (by simp [Act.eval]) RA.ow ⟨q14.heap.size, 0, none⟩ 1 1 [.int .u64 ((baseN h C k : Nat) : Int)] (by simp [Act.eval]) rfl (lit_newJ _ _ _) (by intro u hu; simp at hu; subst hu; rfl) (by decide) (by unfold maxLen; omega) (by omega) (by have := RA.r.lt; omega) _ rfl ?_
          intro g5 c5 w5 hown5 hg5 _ _
          obtain ⟨a5, r5, r6, q6⟩ := RA.add hown5 hg5
          refine hK.out _ _ r5 (fun _ => ?_)
          clear hK K hown5 hg5
          refine takeG (some 36) (i := 10) (v := ?vna10x24) rfl rfl (by kernel_rfl) (by kernel_rfl) (by kernel_rfl) (fun _ _ _ h => h) (Or.inl ⟨by rfl, ?hna10x24⟩) r5 ?rna10x24
          case hna10x24 => (intro w _; go_simp; try (with_reducible rfl))
          try simp only [Act.put, List.setIfInBounds_toArray]
          refine takeG (some 37) (i := 11) (v := ?vna11x25) rfl rfl (by kernel_rfl) (by kernel_rfl) (by kernel_rfl) (fun _ _ _ h => h) (Or.inl ⟨by rfl, ?hna11x25⟩) r5 ?rna11x25
          case hna11x25 => (intro w _; go_simp; try (with_reducible rfl))
          try simp only [Act.put]
          refine wpAnyH_ready (rs := [12]) (by kernel_rfl) (by simp) ?_
          refine AllReadyH.cons rfl (fun K hK => ?_) AllReadyH.nil
          have c2 := a5.cB
          have f2 := a5.free (i := 2) (by omega)
          go_simp
          refine hK.out _ _ r6 (fun _ => ?_)
          clear hK K c2 f2 a5 r5
          refine wpAnyH_done (by kernel_rfl) ?_ _
          go_wp2_with fail
          go_roundw
          case rel => exact ⟨k + 1, _, by omega, by go_num, q6⟩
          case measure => simp [intOf]; omega
    · have hk2 : k = h.length := by omega
      subst hk2
      go_wp2_with fail
      go_ret
      exact ⟨_, _, _, _, rfl, HFIN.out _ _ _ _ hI⟩
end Go.Proofs.YtecpeegbfeijaaaGreatDoor
