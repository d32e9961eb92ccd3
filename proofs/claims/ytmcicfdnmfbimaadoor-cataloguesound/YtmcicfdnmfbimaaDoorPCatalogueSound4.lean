/- Walks and plain facts that the proof of the statement CatalogueSound uses, joined: CatD CatE CatF. Conditions: each theorem's own. -/
import Derived.Test.YtmcicfdnmfbimaaDoorPCatalogueSound0
import Derived.Test.YtmcicfdnmfbimaaDoorPCatalogueSound1
import Derived.Test.YtmcicfdnmfbimaaDoorPCatalogueSound3
namespace Go.Proofs.YtmcicfdnmfbimaaDoor
set_option maxHeartbeats 32000000
set_option maxRecDepth 100000
open Lib (hid)
section
open Go.RowKit
def catF (a b : Int) : Option Nat := if (isLv a && isLv b) = true then (List.range 6).find? (fun i => (missN a b).testBit i) else none
theorem missN_lt (a b : Int) : missN a b < 64 := by
 unfold missN
 exact Nat.xor_lt_two_pow (n := 6) (askN_lt b) (Nat.lt_of_le_of_lt Nat.and_le_left (askN_lt b))
theorem range_find {p : Nat → Bool} {n k : Nat} (hk : k < n) (hn : ∀ j, j < k → p j = false) (hp : p k = true) : (List.range n).find? p = some k := by
 obtain ⟨d, rfl⟩ : ∃ d, n = k + (d + 1) := ⟨n - k - 1, by omega⟩
 rw [List.range_add, List.find?_append, List.find?_eq_none.2 (fun j hj => by rw [hn j (List.mem_range.1 hj)]; simp), Option.none_or]
 rw [List.range_succ_eq_map, List.map_cons, List.find?_cons]
 simp [hp]
theorem range_none {p : Nat → Bool} {n : Nat} (hn : ∀ j, j < n → p j = false) : (List.range n).find? p = none := List.find?_eq_none.2 (fun j hj => by rw [hn j (List.mem_range.1 hj)]; simp)
theorem catF_none {a b : Int} (h : impB a b = true) : catF a b = none := by
 unfold impB at h
 simp only [Bool.and_eq_true, decide_eq_true_eq] at h
 unfold catF
 rw [if_pos (by rw [h.1, h.2.1]; rfl), h.2.2]
 exact range_none fun j _ => Nat.zero_testBit j
theorem catF_off {a b : Int} (h : (isLv a && isLv b) = false) : catF a b = none := by unfold catF; rw [if_neg (by rw [h]; simp)]
theorem catF_some {a b : Int} (hl : (isLv a && isLv b) = true) (h : impB a b = false) : ∃ i, i < 6 ∧ catF a b = some i ∧ (missN a b).testBit i = true ∧ ∀ j, j < i → (missN a b).testBit j = false := by
 have hl2 := hl
 rw [Bool.and_eq_true] at hl2
 have hm : missN a b ≠ 0 := fun e => by
  unfold impB at h
  rw [hl2.1, hl2.2, e] at h
  simp at h
 unfold catF
 rw [if_pos hl]
 cases hf : (List.range 6).find? (fun i => (missN a b).testBit i) with
 | none =>
  exact (hm (Nat.eq_of_testBit_eq fun i => by
   rw [Nat.zero_testBit]
   by_cases hi : i < 6
   ·have := List.find?_eq_none.1 hf i (List.mem_range.2 hi)
    simpa using this
   ·exact Nat.testBit_lt_two_pow (Nat.lt_of_lt_of_le (missN_lt a b) (Nat.pow_le_pow_right (n := 2) (by omega) (show 6 ≤ i by omega))))).elim
 | some i =>
  have hi := List.mem_range.1 (List.mem_of_find?_eq_some hf)
  refine ⟨i, hi, rfl, List.find?_some hf, fun j hj => ?_⟩
  cases e : (missN a b).testBit j with
  | false => rfl
  | true =>
   obtain ⟨k, hk, hb⟩ : ∃ k, k ≤ j ∧ ((missN a b).testBit k = true ∧ ∀ m, m < k → (missN a b).testBit m = false) := by
    have key : ∀ n, (∃ k, k ≤ n ∧ (missN a b).testBit k = true) → ∃ k, k ≤ n ∧ ((missN a b).testBit k = true ∧ ∀ m, m < k → (missN a b).testBit m = false) := by
     intro n
     induction n with
     | zero => rintro ⟨k, hk, h⟩; exact ⟨k, hk, h, fun m hm => by omega⟩
     | succ n ih =>
      rintro ⟨k, hk, h⟩
      by_cases q : ∃ k, k ≤ n ∧ (missN a b).testBit k = true
      ·obtain ⟨k, h1, h2⟩ := ih q
       exact ⟨k, by omega, h2⟩
      ·exact ⟨k, hk, h, fun m hm => by
        cases e : (missN a b).testBit m with
        | false => rfl
        | true => exact (q ⟨m, by omega, e⟩).elim⟩
    exact key j ⟨j, Nat.le_refl _, e⟩
   have hg := range_find (n := 6) (p := fun i => (missN a b).testBit i) (show k < 6 by omega) hb.2 hb.1
   rw [hf] at hg
   injection hg with hg
   omega
structure EntAt (w : World) (g : Nat) (s : ByteArray) (v : Value) (m : Int) : Prop where
 c0 : w.cell? ⟨g, 0, none⟩ = some (.string s)
 c1 : w.cell? ⟨g, 1, none⟩ = some v
 c2 : w.cell? ⟨g, 2, none⟩ = some (.int .i64 m)
 f0 : w.frozen? ⟨g, 0, none⟩ = false
 f1 : w.frozen? ⟨g, 1, none⟩ = false
 f2 : w.frozen? ⟨g, 2, none⟩ = false
theorem EntAt.made (w : World) (s : ByteArray) (v : Value) (m : Int) (t : TypeId) : EntAt (w.alloc (.cells #[.string s, v, .int .i64 m] t)) w.heap.size s v m := by
 have hn := heap_alloc_new w (.cells #[.string s, v, .int .i64 m] t)
 refine ⟨?_, ?_, ?_, frozen_of_row _ _ _ _ _ hn, frozen_of_row _ _ _ _ _ hn, frozen_of_row _ _ _ _ _ hn⟩ <;> (rw [cell_of_row _ _ _ _ _ _ hn]; rfl)
section
variable {w w' : World} {g : Nat} {s : ByteArray} {v : Value} {m : Int}
theorem EntAt.lt (h : EntAt w g s v m) : g < w.heap.size := block_lt h.c0
theorem EntAt.below {B : Nat} (h : EntAt w g s v m) (hb : Below B w w') (hB : g < B) : EntAt w' g s v m :=
 ⟨(hb.cell (p := ⟨g, 0, none⟩) hB).trans h.c0, (hb.cell (p := ⟨g, 1, none⟩) hB).trans h.c1, (hb.cell (p := ⟨g, 2, none⟩) hB).trans h.c2, (hb.frozen (p := ⟨g, 0, none⟩) hB).trans h.f0, (hb.frozen (p := ⟨g, 1, none⟩) hB).trans h.f1, (hb.frozen (p := ⟨g, 2, none⟩) hB).trans h.f2⟩
theorem EntAt.set (h : EntAt w g s v m) (s' : ByteArray) (v' : Value) (m' : Int) : EntAt (((w.setCell ⟨g, 0, none⟩ (.string s')).setCell ⟨g, 1, none⟩ v').setCell ⟨g, 2, none⟩ (.int .i64 m')) g s' v' m' := by
 refine ⟨?_, ?_, ?_, ?_, ?_, ?_⟩
 ·rw [World.cell?_setCell_other _ _ _ _ (by simp), World.cell?_setCell_other _ _ _ _ (by simp), World.cell?_setCell_same _ _ _ h.c0]
 ·rw [World.cell?_setCell_other _ _ _ _ (by simp)]
  exact World.cell?_setCell_same _ _ _ (by rw [World.cell?_setCell_other _ _ _ _ (by simp)]; exact h.c1)
 ·exact World.cell?_setCell_same _ _ _ (by rw [World.cell?_setCell_other _ _ _ _ (by simp), World.cell?_setCell_other _ _ _ _ (by simp)]; exact h.c2)
 all_goals (rw [World.frozen?_setCell, World.frozen?_setCell, World.frozen?_setCell])
 ·exact h.f0
 ·exact h.f1
 ·exact h.f2
end
def CatRes (a b : Int) (b0 : Nat) (e : Ending) (w' : World) : Prop := match catF a b with
 | none => e = .returned (.tuple #[.agg #[.string ByteArray.empty, .slice none 0 0, .int .i64 0], .bool false])
 | some i => ∃ v u, e = .returned (.tuple #[.agg #[.string (catS i), v, .int .i64 ((2 ^ i : Nat) : Int)], .bool true]) ∧ CatH w' b0 v (catN i u)
theorem cat_bit (i : Nat) (hi : i < 6) (a b : Int) : ((bits .and .i64 ((2 ^ i : Nat) : Int) ((missN a b : Nat) : Int)) != 0) = (missN a b).testBit i := by
 have hm := missN_lt a b
 have hp : 2 ^ i < 9223372036854775808 := Nat.lt_of_lt_of_le (Nat.pow_lt_pow_right (a := 2) (by omega) hi) (by decide)
 have e : bits .and .i64 ((2 ^ i : Nat) : Int) ((missN a b : Nat) : Int) = ((2 ^ i &&& missN a b : Nat) : Int) := i64_and_nat _ _ hp (by omega)
 rw [e, Nat.and_comm]
 have := nat_bit (missN a b) i
 cases h : (missN a b).testBit i with
 | false => rw [this.2 h]; rfl
 | true =>
  rw [bne_iff_ne]
  intro q
  have q2 : missN a b &&& 2 ^ i = 0 := by omega
  rw [this.1 q2] at h
  cases h
theorem cfind_any (a b : Int) (w : World) (hK : Kinds w) : Calls Tryd.prog 17 #[.int .i64 a, .int .i64 b] w fun e w' => CatRes a b w.heap.size e w' ∧ Below w.heap.size w w' := by
 have hbx := box_below w (.cells #[.string ByteArray.empty, .slice none 0 0, .int .i64 0] 42)
 have hs1 : (w.alloc (.cells #[.string ByteArray.empty, .slice none 0 0, .int .i64 0] 42)).heap.size = w.heap.size + 1 := by simp
 have E0 := EntAt.made w ByteArray.empty (.slice none 0 0) 0 42
 have CA := hid (fun wx => lis_any a wx)
 have CB := hid (fun wx => lis_any b wx)
 have CM := hid (lmiss_any a b _ (hK.below hbx))
 have CL := hid (fun wx => call_any wx)
 have HBX := hid hbx
 have HE0 := hid E0
 have hz : (({ data := #[] } : ByteArray)) = ByteArray.empty := rfl
 clear hK hbx E0
 go_enter Tryd.func17, Tryd.ntmps17
 go_upto_region 1 with fail
 clear hz
 generalize w.alloc (.cells #[.string ByteArray.empty, .slice none 0 0, .int .i64 0] 42) = w1 at *
 have HE := HE0.out
 have hb1 := HBX.out
 cases ha : isLv a with
 | false =>
  have HCF : Hid (catF a b = none) := hid (catF_off (by rw [ha]; rfl))
  rw [ha] at CA
  clear CB CM CL ha HE0 HBX
  go_wp2_with fail
  refine (CA.out _).mono ?_
  rintro e wq ⟨rfl, rfl⟩
  clear CA
  have HE9 := hid (HE.set ⟨#[]⟩ (.slice none 0 0) 0)
  have HB9 := hid (((hb1.setCell (p := ⟨w.heap.size, 0, none⟩) (Nat.le_refl _) (.string ⟨#[]⟩)).setCell (p := ⟨w.heap.size, 1, none⟩) (Nat.le_refl _) (.slice none 0 0)).setCell (p := ⟨w.heap.size, 2, none⟩) (Nat.le_refl _) (.int .i64 0))
  have HF : Hid (CatRes a b w.heap.size (.returned (.tuple #[.agg #[.string ⟨#[]⟩, .slice none 0 0, .int .i64 0], .bool false])) ((((w1).setCell ⟨w.heap.size, 0, none⟩ (.string ⟨#[]⟩)).setCell ⟨w.heap.size, 1, none⟩ (.slice none 0 0)).setCell ⟨w.heap.size, 2, none⟩ (.int .i64 0))) := hid (by unfold CatRes; rw [HCF.out]; rfl)
  obtain ⟨k0, k1, k2, k3, k4, k5⟩ := HE
  go_wp2_with fail
  obtain ⟨d0, d1, d2, _, _, _⟩ := HE9.out
  refine bodyPost_ret (v := .tuple #[.agg #[.string ⟨#[]⟩, .slice none 0 0, .int .i64 0], .bool false]) ?_ rfl ⟨HF.out, HB9.out⟩
  simp [results, Tryd.results17, go_sem, d0, d1, d2]
 | true =>
  rw [ha] at CA
  cases hb : isLv b with
  | false =>
   have HCF : Hid (catF a b = none) := hid (catF_off (by rw [ha, hb]; rfl))
   rw [hb] at CB
   clear CM CL ha hb HE0 HBX
   go_wp2_with fail
   refine (CA.out _).mono ?_
   rintro e wq ⟨rfl, rfl⟩
   go_wp2_with fail
   refine (CB.out _).mono ?_
   rintro e wq ⟨rfl, rfl⟩
   clear CA CB
   have HE9 := hid (HE.set ⟨#[]⟩ (.slice none 0 0) 0)
   have HB9 := hid (((hb1.setCell (p := ⟨w.heap.size, 0, none⟩) (Nat.le_refl _) (.string ⟨#[]⟩)).setCell (p := ⟨w.heap.size, 1, none⟩) (Nat.le_refl _) (.slice none 0 0)).setCell (p := ⟨w.heap.size, 2, none⟩) (Nat.le_refl _) (.int .i64 0))
   have HF : Hid (CatRes a b w.heap.size (.returned (.tuple #[.agg #[.string ⟨#[]⟩, .slice none 0 0, .int .i64 0], .bool false])) ((((w1).setCell ⟨w.heap.size, 0, none⟩ (.string ⟨#[]⟩)).setCell ⟨w.heap.size, 1, none⟩ (.slice none 0 0)).setCell ⟨w.heap.size, 2, none⟩ (.int .i64 0))) := hid (by unfold CatRes; rw [HCF.out]; rfl)
   obtain ⟨k0, k1, k2, k3, k4, k5⟩ := HE
   go_wp2_with fail
   obtain ⟨d0, d1, d2, _, _, _⟩ := HE9.out
   refine bodyPost_ret (v := .tuple #[.agg #[.string ⟨#[]⟩, .slice none 0 0, .int .i64 0], .bool false]) ?_ rfl ⟨HF.out, HB9.out⟩
   simp [results, Tryd.results17, go_sem, d0, d1, d2]
  | true =>
   have HCN : Hid (∀ i, i < 6 → (∀ j, j < i → (missN a b).testBit j = false) → (missN a b).testBit i = true → catF a b = some i) := hid (fun i hi h1 h2 => by unfold catF; rw [if_pos (by rw [ha, hb]; rfl)]; exact range_find hi h1 h2)
   have HCO : Hid ((∀ j, j < 6 → (missN a b).testBit j = false) → catF a b = none) := hid (fun h1 => by unfold catF; rw [if_pos (by rw [ha, hb]; rfl)]; exact range_none h1)
   rw [hb] at CB
   have HBIT := hid (fun i hi => cat_bit i hi a b)
   have HML := hid (missN_lt a b)
   clear ha hb HE0 HBX
   go_wp2_with fail
   refine (CA.out _).mono ?_
   rintro e wq ⟨rfl, rfl⟩
   go_wp2_with fail
   refine (CB.out _).mono ?_
   rintro e wq ⟨rfl, rfl⟩
   clear CA CB
   go_wp2_with fail
   refine CM.out.mono ?_
   rintro e wq ⟨rfl, rfl⟩
   clear CM
   go_wp2_with fail
   refine (CL.out _).mono ?_
   rintro e w2 ⟨⟨g, vs, us, rfl, hC, hT⟩, h2⟩
   have hg1 := HE.lt
   have HE := HE.below h2 HE.lt
   have hb2 := below_then hb1 h2
   have HCT := hid (fun wx (hx : Below w2.heap.size w2 wx) => hC.below hx)
   have HTT := hid (fun i hi wx (hx : Below w2.heap.size w2 wx) => (hT i hi).below hx)
   have HVF := hid (fun i (hi : i < 6) => txns_slice (hT i hi).txns)
   have HS2 := hid (show w.heap.size < w2.heap.size by have := h2.size; omega)
   clear CL hC hT h2 hb1 hg1
   go_wp2_with fail
   generalize hmm : missN a b = mm at *
   go_loopw [23] (fun i wr => ∃ k : Nat, k ≤ 6 ∧ i = .int .i64 (k : Int) ∧ Hid (∀ j, j < k → mm.testBit j = false) ∧ EntAt wr w.heap.size ByteArray.empty (.slice none 0 0) 0 ∧ Below w2.heap.size w2 wr) (fun i _ => 6 - (intOf i).toNat)
   case atStart => exact ⟨0, by omega, rfl, hid (fun j hj => by omega), HE, Below.refl _ _⟩
   case round =>
    obtain ⟨k, hk, rfl, HN, HE, hbr⟩ := hrel
    by_cases hlt : k < 6
    ·have hki : (k : Int) < 6 := by omega
     obtain ⟨c0, c1, c2⟩ := HCT.out wr hbr k hlt
     obtain ⟨oo, nn, cc, hv⟩ := HVF.out k hlt
     rw [hv] at c1
     have hbt := HBIT.out k hlt
     have hd0 : decide ((k : Int) < 0) = false := decide_eq_false (by omega)
     have hd1 : decide ((6 : Int) ≤ (k : Int)) = false := decide_eq_false (by omega)
     have hd2 : decide (6 ≤ k) = false := decide_eq_false (by omega)
     have hx := box_below wr (.cells #[.string (catS k), .slice oo nn cc, .int .i64 ((2 ^ k : Nat) : Int)] 42)
     have hE := EntAt.made wr (catS k) (.slice oo nn cc) ((2 ^ k : Nat) : Int) 42
     have HER := HE.below hx HE.lt
     have hbx := below_then hbr hx
     have HTK := hid (fun wx (hxx : Below w2.heap.size w2 wx) => by have h := HTT.out k hlt wx hxx; rw [hv] at h; exact h)
     generalize h2k : (((2 ^ k : Nat)) : Int) = tk at *
     have H2K := hid h2k
     clear HE hx hv h2k
     have hlw := hE.lt
     have hneq : w.heap.size < wr.heap.size := by have := HS2.out; have := hbr.size; omega
     go_upto_region 7 with fail
     generalize wr.alloc (.cells #[.string (catS k), .slice oo nn cc, .int .i64 tk] 42) = w3 at *
     generalize wr.heap.size = x3 at *
     obtain ⟨m0, m1, m2, _, _, _⟩ := hE
     cases htb : mm.testBit k with
     | false =>
      rw [htb] at hbt
      have HN2 : Hid (∀ j, j < k + 1 → mm.testBit j = false) := hid (fun j hj => by
       by_cases e : j = k
       ·rw [e]; exact htb
       ·exact HN.out j (by omega))
      clear htb HN
      go_wp2_with fail
      go_roundw
      case rel => exact ⟨k + 1, by omega, by go_num, HN2, HER, hbx⟩
      case measure => simp [intOf]; omega
     | true =>
      rw [htb] at hbt
      subst hmm
      have HCF := hid (HCN.out k hlt HN.out htb)
      have HE9 := hid (HER.set (catS k) (.slice oo nn cc) tk)
      have HB9 := hid ((((below_then hb2 hbx).setCell (p := ⟨w.heap.size, 0, none⟩) (Nat.le_refl _) (.string (catS k))).setCell (p := ⟨w.heap.size, 1, none⟩) (Nat.le_refl _) (.slice oo nn cc)).setCell (p := ⟨w.heap.size, 2, none⟩) (Nat.le_refl _) (.int .i64 tk))
      have HT9 := hid ((((HTK.out _ hbx).far (p := ⟨w.heap.size, 0, none⟩) (by show w.heap.size < w1.heap.size; omega) (.string (catS k))).far (p := ⟨w.heap.size, 1, none⟩) (by show w.heap.size < w1.heap.size; omega) (.slice oo nn cc)).far (p := ⟨w.heap.size, 2, none⟩) (by show w.heap.size < w1.heap.size; omega) (.int .i64 tk))
      clear htb HN HCN HCO
      obtain ⟨k0, k1, k2, k3, k4, k5⟩ := HER
      go_wp2_with fail
      obtain ⟨d0, d1, d2, _, _, _⟩ := HE9.out
      refine bodyPost_ret (v := .tuple #[.agg #[.string (catS k), .slice oo nn cc, .int .i64 tk], .bool true]) ?_ rfl ⟨?_, HB9.out⟩
      ·simp [results, Tryd.results17, go_sem, d0, d1, d2]
      ·unfold CatRes
       rw [HCF.out]
       exact ⟨_, _, by rw [← H2K.out], HT9.out.base (by omega)⟩
    ·obtain rfl : k = 6 := by omega
     have hki : ¬ ((6 : Nat) : Int) < 6 := by omega
     subst hmm
     have HCF : Hid (catF a b = none) := hid (HCO.out HN.out)
     have hbz := below_then hb2 hbr
     clear HCN HCO HBIT HN HTT HCT HVF
     have HE9 := hid (HE.set ⟨#[]⟩ (.slice none 0 0) 0)
     have HB9 := hid (((hbz.setCell (p := ⟨w.heap.size, 0, none⟩) (Nat.le_refl _) (.string ⟨#[]⟩)).setCell (p := ⟨w.heap.size, 1, none⟩) (Nat.le_refl _) (.slice none 0 0)).setCell (p := ⟨w.heap.size, 2, none⟩) (Nat.le_refl _) (.int .i64 0))
     have HF : Hid (CatRes a b w.heap.size (.returned (.tuple #[.agg #[.string ⟨#[]⟩, .slice none 0 0, .int .i64 0], .bool false])) ((((wr).setCell ⟨w.heap.size, 0, none⟩ (.string ⟨#[]⟩)).setCell ⟨w.heap.size, 1, none⟩ (.slice none 0 0)).setCell ⟨w.heap.size, 2, none⟩ (.int .i64 0))) := hid (by unfold CatRes; rw [HCF.out]; rfl)
     obtain ⟨k0, k1, k2, k3, k4, k5⟩ := HE
     go_wp2_with fail
     obtain ⟨d0, d1, d2, _, _, _⟩ := HE9.out
     refine bodyPost_ret (v := .tuple #[.agg #[.string ⟨#[]⟩, .slice none 0 0, .int .i64 0], .bool false]) ?_ rfl ⟨HF.out, HB9.out⟩
     simp [results, Tryd.results17, go_sem, d0, d1, d2]
end

section
open Go.RowKit
theorem catRes_some {a b : Int} {b0 i : Nat} {e : Ending} {w : World} (hf : catF a b = some i) (h : CatRes a b b0 e w) : ∃ oo nn cc u, e = .returned (.tuple #[.agg #[.string (catS i), .slice oo nn cc, .int .i64 ((2 ^ i : Nat) : Int)], .bool true]) ∧ CatH w b0 (.slice oo nn cc) (catN i u) := by
 unfold CatRes at h
 rw [hf] at h
 obtain ⟨v, u, h1, h2⟩ := h
 obtain ⟨oo, nn, cc, rfl⟩ := txns_slice h2.txns
 exact ⟨oo, nn, cc, u, h1, h2⟩
theorem catRes_none {a b : Int} {b0 : Nat} {e : Ending} {w : World} (hf : catF a b = none) (h : CatRes a b b0 e w) : e = .returned (.tuple #[.agg #[.string ⟨#[]⟩, .slice none 0 0, .int .i64 0], .bool false]) := by
 unfold CatRes at h
 rw [hf] at h
 exact h
theorem cat_67 : catF 6 7 = some 4 := by decide +kernel
theorem cat_76 : catF 7 6 = none := by decide +kernel
theorem speaks20_any (w : World) (hK : Kinds w) :
  Calls Tryd.prog 16 #[] w fun e w' => e = .returned (.bool true) ∧ Below w.heap.size w w' := by
 have C1 := hid (cfind_any 6 7 w hK)
 have C2 := hid (fun wx (hx : Below w.heap.size w wx) => cfind_any 7 6 wx (hK.below hx))
 have CL := hid (fun wx => call_any wx)
 clear hK
 go_enter Tryd.func16, Tryd.ntmps16
 go_wp2_with fail
 refine C1.out.mono ?_
 rintro e w1 ⟨hres, hb1⟩
 obtain ⟨o1, n1, c1, u1, rfl, _⟩ := catRes_some cat_67 hres
 rw [show ((2 ^ 4 : Nat) : Int) = 16 from rfl, show catS 4 = ⟨#[119, 114, 105, 116, 101, 32, 115, 107, 101, 119]⟩ from rfl]
 have hE1 := EntAt.made w1 ⟨#[119, 114, 105, 116, 101, 32, 115, 107, 101, 119]⟩ (.slice o1 n1 c1) 16 42
 have hx1 := box_below w1 (.cells #[.string ⟨#[119, 114, 105, 116, 101, 32, 115, 107, 101, 119]⟩, .slice o1 n1 c1, .int .i64 16] 42)
 have hb2 := below_then hb1 hx1
 clear C1 hres hb1 hx1
 go_upto_region 2 with fail
 generalize w1.alloc (.cells #[.string ⟨#[119, 114, 105, 116, 101, 32, 115, 107, 101, 119]⟩, .slice o1 n1 c1, .int .i64 16] 42) = w2 at *
 generalize w1.heap.size = g1 at *
 go_wp2_with fail
 refine (C2.out _ hb2).mono ?_
 rintro e w3 ⟨hres, h3⟩
 obtain rfl := catRes_none cat_76 hres
 have hx3 := box_below w3 (.cells #[.string ⟨#[]⟩, .slice none 0 0, .int .i64 0] 42)
 have hE1 := (hE1.below h3 hE1.lt)
 have hE1 := hE1.below hx3 hE1.lt
 have hb4 := below_then (below_then hb2 h3) hx3
 clear C2 hres h3 hx3 hb2
 go_upto_region 3 with fail
 generalize w3.alloc (.cells #[.string ⟨#[]⟩, .slice none 0 0, .int .i64 0] 42) = w4 at *
 obtain ⟨k0, k1, k2, _, _, _⟩ := hE1
 go_wp2_with fail
 refine (CL.out _).mono ?_
 rintro e w5 ⟨⟨g, vs, us, rfl, _, _⟩, h5⟩
 have hz := below_then hb4 h5
 clear k0 k1 k2 CL h5
 go_wp2_with fail
 go_ret
 exact ⟨rfl, hz⟩
end

section
open Go.RowKit
theorem csound20_walk (va : Value) (h : List TxnV) (a b : Nat) (w : World) (ha : a < 256) (hbb : b < 256) (hK : Kinds w) (hT : Txns w va h) (hsh : Short h) :
  Calls Tryd.prog 6 #[va, .int .u8 a, .int .u8 b] w fun e w' => e = .returned (.bool true) ∧ Below w.heap.size w w' := by
 have HT : Hid (∀ wx, Below w.heap.size w wx → Kinds wx) := hid (fun wx hb => hK.below hb)
 have HH := hid (fun wx (hx : Below w.heap.size w wx) => hT.below hx)
 obtain ⟨ao, cap, rfl, hal⟩ := hT.form
 have C0 := hid (speaks20_any w hK)
 obtain ⟨k, hk⟩ : ∃ k : Nat, (a : Int) % 12 = (k : Int) := ⟨a % 12, by omega⟩
 obtain ⟨j, hj⟩ : ∃ j : Nat, (b : Int) % 12 = (j : Int) := ⟨b % 12, by omega⟩
 have hk12 : k < 12 := by omega
 have hj12 : j < 12 := by omega
 clear hK hT
 go_enter Tryd.func6, Tryd.ntmps6
 go_wp2_with fail
 refine (C0.out).mono ?_
 rintro e w1 ⟨rfl, hb1⟩
 clear C0
 by_cases h5 : 5 < h.length
 ·have h5i : (5 : Int) < (h.length : Int) := by omega
  clear hsh
  go_wp2_with fail
  go_ret
  exact ⟨rfl, hb1⟩
 have h5i : ¬ (5 : Int) < (h.length : Int) := by omega
 have CC := hid (rcheck_any _ h w1 (HH.out _ hb1) hsh)
 rw [← check_ref] at CC
 by_cases hc : checkI h = 0
 rotate_left
 ·have hcn : ¬ checkI h = 0 := hc
  generalize checkI h = c at *
  have hcb : (c != 0) = true := by rw [bne_iff_ne]; exact hcn
  clear hsh hc
  go_wp2_with fail
  refine (CC.out).mono ?_
  rintro e w2 ⟨rfl, hb2⟩
  have hb2 := below_then hb1 hb2
  go_wp2_with fail
  go_ret
  exact ⟨rfl, hb2⟩
 rw [hc] at CC
 go_wp2_with fail
 refine (CC.out).mono ?_
 rintro e w2 ⟨rfl, hb2⟩
 have hb2 := below_then hb1 hb2
 have CI := hid (limp_any (k : Int) (j : Int) w2 (HT.out _ hb2))
 have HC := hid hc
 have HN : Hid (h.length ≤ 6) := hid (by omega)
 clear hb1 CC hc hsh HT
 cases hi : impB (k : Int) (j : Int) with
 | false =>
  rw [hi] at CI
  clear hi
  go_wp2_with fail
  refine CI.out.mono ?_
  rintro e wq ⟨rfl, rfl⟩
  go_wp2_with fail
  go_ret
  exact ⟨rfl, hb2⟩
 | true =>
  rw [hi] at CI
  have HI := hid (fun e => dec_implied HC.out hi e)
  have CA := hid (fun (l : Nat) wx (hx : Below w.heap.size w wx) => raccepts_any _ h (l : Int) wx HC.out HN.out (HH.out _ hx))
  clear hi HC HN
  go_wp2_with fail
  refine CI.out.mono ?_
  rintro e wq ⟨rfl, rfl⟩
  clear CI
  have CA1 := hid (CA.out k w2 hb2)
  generalize hq : (decW h (k : Int)).2.2 = q at *
  go_wp2_with fail
  refine CA1.out.mono ?_
  rintro e w3 ⟨rfl, h3⟩
  have hb3 := below_then hb2 h3
  clear CA1 h3 hb2
  cases q with
  | false =>
   clear CA HI
   go_wp2_with fail
   go_ret
   exact ⟨rfl, hb3⟩
  | true =>
   have CA2 := hid (CA.out j w3 hb3)
   rw [HI.out rfl] at CA2
   clear CA HI
   go_wp2_with fail
   refine CA2.out.mono ?_
   rintro e w4 ⟨rfl, h4⟩
   have hb4 := below_then hb3 h4
   clear CA2 h4
   go_wp2_with fail
   go_ret
   exact ⟨rfl, hb4⟩
end

end Go.Proofs.YtmcicfdnmfbimaaDoor
