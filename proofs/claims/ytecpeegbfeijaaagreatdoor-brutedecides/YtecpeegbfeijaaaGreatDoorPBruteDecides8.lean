/- Walks and plain facts that the proof of the statement BruteDecides uses, joined: AxhA PlaD PlaE PlaB AxhD AxhF PlaQ BruE LesC OrdAB. Conditions: each theorem's own. -/
import Derived.Laws.CopyOwn
import Derived.OneCell
import Derived.Lib.BufferWrite
import Derived.Deep.RegionHeld3
import Derived.Test.YtecpeegbfeijaaaGreatDoorPBruteDecides1
import Derived.Test.YtecpeegbfeijaaaGreatDoorPBruteDecides2
import Derived.Test.YtecpeegbfeijaaaGreatDoorPBruteDecides3
import Derived.Test.YtecpeegbfeijaaaGreatDoorPBruteDecides4
import Derived.Test.YtecpeegbfeijaaaGreatDoorPBruteDecides5
import Derived.Test.YtecpeegbfeijaaaGreatDoorPBruteDecides6
import Derived.Test.YtecpeegbfeijaaaGreatDoorPBruteDecides7
namespace Go.Proofs.YtecpeegbfeijaaaGreatDoor
set_option maxRecDepth 100000
open Go.RowKit

/-- The row has all numbers below n, each once. -/
def FullRow (n : Nat) (l : List Int) : Prop := l.Nodup ∧ ∀ a : Int, a ∈ l ↔ 0 ≤ a ∧ a < (n : Int)
theorem full_nodup : ∀ (n : Nat) (l : List Int), l.length = n → rowTo l n = true → l.Nodup
  | 0, l, hl, _ => by
    cases l with
    | nil => exact List.nodup_nil
    | cons a l => simp at hl
  | n + 1, l, hl, hr => by
    rw [rowTo_succ, Bool.and_eq_true, decide_eq_true_eq] at hr
    obtain ⟨h1, h2⟩ := hr
    have hle : (l.erase (n : Int)).length = n := by rw [List.length_erase_of_mem h2, hl]; rfl
    have hr2 : rowTo (l.erase (n : Int)) n = true := by
      unfold rowTo at h1 ⊢
      rw [List.all_eq_true] at h1 ⊢
      intro i hi
      have hin := List.mem_range.1 hi
      have h3 := h1 i hi
      rw [decide_eq_true_eq] at h3 ⊢
      exact (List.mem_erase_of_ne (by omega)).2 h3
    have ih := full_nodup n (l.erase (n : Int)) hle hr2
    have hlt := count_full n (l.erase (n : Int)) hle hr2
    have hp := List.perm_cons_erase h2
    rw [hp.nodup_iff, List.nodup_cons]
    exact ⟨fun hm => by have := hlt _ hm; omega, ih⟩
theorem full_of_row {n : Nat} {l : List Int} (h : rowRef12 n l = true) : FullRow n l := by
  unfold rowRef12 at h
  rw [Bool.and_eq_true, decide_eq_true_eq] at h
  obtain ⟨h1, h2⟩ := h
  refine ⟨full_nodup n l (by omega) h1, fun a => ⟨fun ha => count_full n l (by omega) h1 a ha, fun ha => ?_⟩⟩
  unfold rowTo at h1
  have := List.all_eq_true.1 h1 a.toNat (List.mem_range.2 (by omega))
  rw [decide_eq_true_eq] at this
  have e : ((a.toNat : Nat) : Int) = a := by omega
  rw [e] at this
  exact this
theorem full_of_perm {n : Nat} {L : List Nat} (h : L.Perm (List.range n)) : FullRow n (L.map Int.ofNat) := by
  refine ⟨nodup_ofNat (h.nodup_iff.2 List.nodup_range), fun a => ?_⟩
  rw [List.mem_map]
  constructor
  · rintro ⟨k, hk, rfl⟩
    have := List.mem_range.1 (h.mem_iff.1 hk)
    have e : Int.ofNat k = (k : Int) := rfl
    rw [e]; omega
  · intro ha
    exact ⟨a.toNat, h.mem_iff.2 (List.mem_range.2 (by omega)), by have : Int.ofNat a.toNat = ((a.toNat : Nat) : Int) := rfl; rw [this]; omega⟩
theorem placeF_at : ∀ (l : List Int) (k0 k : Nat) (hk : k < l.length), l.Nodup → placeF l l[k] k0 = ((k0 + k : Nat) : Int)
  | [], _, k, hk, _ => by simp at hk
  | a :: l, k0, 0, _, _ => by unfold placeF; rw [if_pos (by rfl)]; rfl
  | a :: l, k0, k + 1, hk, hn => by
    rw [List.nodup_cons] at hn
    have hk2 : k < l.length := by simpa using hk
    have hne : ¬ a = (a :: l)[k + 1] := fun e => hn.1 (by rw [e]; exact List.getElem_mem hk2)
    unfold placeF
    rw [if_neg hne]
    have := placeF_at l (k0 + 1) k hk2 hn.2
    rw [show k0 + (k + 1) = k0 + 1 + k by omega]
    exact this
theorem placeI_at {l : List Int} (hn : l.Nodup) {k : Nat} (hk : k < l.length) : placeI l l[k] = (k : Int) := by
  unfold placeI
  rw [placeF_at l 0 k hk hn, Nat.zero_add]
theorem placeI_nn {l : List Int} {a : Int} : 0 ≤ placeI l a ↔ a ∈ l := by
  have h := placeF_neg a l 0
  have h2 : placeI l a < 0 ↔ a ∉ l := h
  constructor
  · intro h3
    exact Decidable.byContradiction fun h4 => by have := h2.2 h4; omega
  · intro h3
    exact Decidable.byContradiction fun h4 => h2.1 (by omega) h3
theorem ahR_iff {l : List Int} (hn : l.Nodup) {a b : Int} (ha : a ∈ l) (hb : b ∈ l) : ahR l a b = true ↔ Ahead l a b := by
  obtain ⟨i, hi, rfl⟩ := List.mem_iff_getElem.1 ha
  obtain ⟨j, hj, rfl⟩ := List.mem_iff_getElem.1 hb
  unfold ahR
  rw [placeI_at hn hi, placeI_at hn hj, decide_eq_true_eq, ahead_at]
  constructor
  · intro hij
    refine ⟨i, hi, by rw [List.getD_eq_getElem?_getD, List.getElem?_eq_getElem hi]; rfl, ?_⟩
    refine List.mem_iff_getElem.2 ⟨j - (i + 1), by rw [List.length_drop]; omega, ?_⟩
    rw [List.getElem_drop]
    congr 1
    omega
  · rintro ⟨p, hp, h1, h2⟩
    rw [List.getD_eq_getElem?_getD, List.getElem?_eq_getElem hp, Option.getD_some] at h1
    obtain ⟨q, hq, h3⟩ := List.mem_iff_getElem.1 h2
    rw [List.length_drop] at hq
    rw [List.getElem_drop] at h3
    have e1 : p = i := (List.getElem_inj hn).1 h1
    have e2 : p + 1 + q = j := (List.getElem_inj hn).1 h3
    omega
theorem chain_mem {l : List Int} {i j : Nat} (h : chainR l i j = true) : (i : Int) ∈ l ∧ (j : Int) ∈ l := (( chainR_iff i j l).1 h).mem
theorem chain_ahd {n : Nat} {l : List Int} (hf : FullRow n l) (i j : Nat) : chainR l i j = true ↔ ahdR l n i j = true := by
  rw [ahdR_iff]
  constructor
  · intro h
    obtain ⟨h1, h2⟩ := chain_mem h
    have h3 := (hf.2 _).1 h1
    have h4 := (hf.2 _).1 h2
    exact ⟨by omega, by omega, (ahR_iff hf.1 h1 h2).2 ((chainR_iff i j l).1 h)⟩
  · rintro ⟨h1, h2, h3⟩
    have m1 : (i : Int) ∈ l := (hf.2 _).2 (by omega)
    have m2 : (j : Int) ∈ l := (hf.2 _).2 (by omega)
    exact (chainR_iff i j l).2 ((ahR_iff hf.1 m1 m2).1 h3)
theorem chain_irr {n : Nat} {l : List Int} (hf : FullRow n l) (i : Nat) : chainR l i i = false := by
  cases h : chainR l i i with
  | false => rfl
  | true => exact absurd ((chainR_iff i i l).1 h) (ahead_irr hf.1 _)
theorem hasT_bits : ∀ k : Fin 64, hasT k.val 1 = k.val.testBit 0 ∧ hasT k.val 2 = k.val.testBit 1 ∧ hasT k.val 4 = k.val.testBit 2 ∧ hasT k.val 8 = k.val.testBit 3 ∧ hasT k.val 16 = k.val.testBit 4 ∧ hasT k.val 32 = k.val.testBit 5 := by decide +kernel
theorem hasP_rep {V : Mat} {m : List Pr} (h : Rep V m) {i j : Nat} (hi : i < 64) (hj : j < 64) : hasP m (i : Int) (j : Int) = V i j := by
  rw [Bool.eq_iff_iff, hasP_iff, ← hasR_rep h, hasR_nat V i j hi hj]
theorem wrt_bit {h : List TxnV} (hc : checkI h = 0) {j : Nat} (hj : j < h.length) (y : Int) : (wrtN h y).testBit j = wrsR h j y := by
  have h64 := (check_zero hc).1
  unfold wrtN
  rw [testBit_mkS, decide_eq_true (show j < 64 by omega), decide_eq_true hj, Bool.true_and, Bool.true_and, Bool.eq_iff_iff, decide_eq_true_eq, keysOf_iff hc hj]
/-- Of those that one sees and that write to a key the last one in a row, as the reference says it. -/
def lstR (h : List TxnV) (m : List Pr) (i key : Int) (l : List Int) : Int := l.foldl (fun out a => if (hasP m a i && wrsR h a.toNat key) = true then a else out) (-1)
theorem lstR_snoc (h : List TxnV) (m : List Pr) (i key : Int) (l : List Int) (a : Int) : lstR h m i key (l ++ [a]) = if (hasP m a i && wrsR h a.toNat key) = true then a else lstR h m i key l := by
  unfold lstR; rw [List.foldl_append]; rfl
theorem lstR_take (h : List TxnV) (m : List Pr) (i key : Int) (l : List Int) (k : Nat) (hk : k < l.length) : lstR h m i key (l.take (k + 1)) = if (hasP m l[k] i && wrsR h l[k].toNat key) = true then l[k] else lstR h m i key (l.take k) := by
  rw [List.take_succ_eq_append_getElem hk, lstR_snoc]
theorem lstR_same {h : List TxnV} {V : Mat} {m : List Pr} (hc : checkI h = 0) (hR : Rep V m) {i : Nat} (hi : i < 64) (y : Int) : ∀ r : List Int, (∀ a ∈ r, 0 ≤ a ∧ a < (h.length : Int)) → lstR h m (i : Int) y r.reverse = lastI r.reverse (seeTo V (i : Int) 64 &&& wrtN h y)
  | [], _ => rfl
  | a :: r, ha => by
    have h64 := (check_zero hc).1
    have ih := lstR_same hc hR hi y r (fun b hb => ha b (List.mem_cons_of_mem _ hb))
    have h1 := ha a List.mem_cons_self
    obtain ⟨j, rfl⟩ := Int.eq_ofNat_of_zero_le h1.1
    have hj : j < h.length := by omega
    rw [List.reverse_cons, lastI_snoc, lstR_snoc, ih, hasB_nat (show j < 64 by omega), seen_bit hi (show j < 64 by omega), hasP_rep hR (show j < 64 by omega) hi, wrt_bit hc hj, Int.toNat_natCast]
/-- Is one of what is seen right, and are all; as the reference says it. -/
def pairOkR (l : List Int) (p : Pr) : Bool := decide (0 ≤ placeI l p.1) && (decide (0 ≤ placeI l p.2) && decide (placeI l p.1 < placeI l p.2))
def rdOkR (h : List TxnV) (l : List Int) (m : List Pr) (i : Nat) (r : Int × Int) : Bool := decide (lstR h m (i : Int) r.1 l = r.2)
def rightR (h : List TxnV) (l : List Int) (m : List Pr) : Bool := rowRef12 h.length l && (m.all (pairOkR l) && (List.range h.length).all fun i => (rdR h (i : Int) (refReads (opsAt h i))).all (rdOkR h l m i))
theorem all_congr {α : Type} {p q : α → Bool} : ∀ (l : List α), (∀ a ∈ l, p a = q a) → l.all p = l.all q
  | [], _ => rfl
  | a :: l, h => by rw [List.all_cons, List.all_cons, h a List.mem_cons_self, all_congr l (fun b hb => h b (List.mem_cons_of_mem _ hb))]
theorem right_same {h : List TxnV} {V : Mat} {m : List Pr} (hc : checkI h = 0) (hR : Rep V m) (l : List Int) : rightM h l V = rightR h l m := by
  have h64 := (check_zero hc).1
  unfold rightM rightR
  rw [row_same h.length h64 l]
  cases hrow : rowRef12 h.length l with
  | false => rfl
  | true =>
    have hf := full_of_row hrow
    rw [Bool.true_and, Bool.true_and]
    have e1 : inM V (chainR l) = m.all (pairOkR l) := by
      rw [Bool.eq_iff_iff, inM_iff, List.all_eq_true]
      constructor
      · rintro H ⟨a, b⟩ hp
        obtain ⟨i, j, hi, hj, rfl, rfl, hv⟩ := (hR.2 _ _).1 hp
        have hch := H i j hi hj hv
        obtain ⟨m1, m2⟩ := chain_mem hch
        have h3 := (ahR_iff hf.1 m1 m2).2 ((chainR_iff i j l).1 hch)
        unfold ahR at h3
        unfold pairOkR
        simp only
        rw [decide_eq_true (placeI_nn.2 m1), decide_eq_true (placeI_nn.2 m2), h3]; rfl
      · intro H i j hi hj hv
        have := H _ ((hR.2 _ _).2 ⟨i, j, hi, hj, rfl, rfl, hv⟩)
        unfold pairOkR at this
        simp only [Bool.and_eq_true, decide_eq_true_eq] at this
        have m1 := placeI_nn.1 this.1
        have m2 := placeI_nn.1 this.2.1
        exact (chainR_iff i j l).2 ((ahR_iff hf.1 m1 m2).1 (by unfold ahR; exact decide_eq_true this.2.2))
    rw [e1]
    congr 1
    unfold rightTo
    refine all_congr _ fun i hi => ?_
    have hin := List.mem_range.1 hi
    rw [reads_same hc hin, opsAt_eq hin]
    refine all_congr _ fun r _ => ?_
    unfold readOk rdOkR
    have := lstR_same hc hR (show i < 64 by omega) r.1 l.reverse (fun a ha => (hf.2 a).1 (List.mem_reverse.1 ha))
    rw [List.reverse_reverse] at this
    rw [this]
/-- Is a thing that is asked not kept by two, is all kept, as the reference says it. -/
def brkR (h : List TxnV) (x : Nat) (l : List Int) (m : List Pr) (i k : Nat) : Bool := !(decide (i = k)) && (!(hasP m (i : Int) (k : Int)) && ((((hasT x 1 && sesP h i k) || (hasT x 32 && timP h i k)) || (ahR l (i : Int) (k : Int) && (hasT x 16 || (hasT x 8 && rivR h i k)))) || folR m x l (i : Int) (k : Int) h.length))
def keepsR (h : List TxnV) (x : Nat) (l : List Int) (m : List Pr) : Bool := (List.range h.length).all fun i => (List.range h.length).all fun k => !(brkR h x l m i k)
theorem keepsR_iff {h : List TxnV} {x : Nat} {l : List Int} {m : List Pr} : keepsR h x l m = true ↔ ∀ i k : Nat, i < h.length → k < h.length → brkR h x l m i k = false := by
  unfold keepsR
  rw [List.all_eq_true]
  constructor
  · intro H i k hi hk
    have := List.all_eq_true.1 (H i (List.mem_range.2 hi)) k (List.mem_range.2 hk)
    simpa using this
  · intro H i hi
    rw [List.all_eq_true]
    intro k hk
    rw [H i k (List.mem_range.1 hi) (List.mem_range.1 hk)]; rfl
theorem kept_lt {h : List TxnV} {l : List Int} {V : Mat} (hc : checkI h = 0) (hf : FullRow h.length l) (hV : inM V (chainR l) = true) {b : Nat} {i j : Nat} (hi : i < 64) (hj : j < 64) (hm : keptM h (chainR l) V b i j = true) : i < h.length ∧ j < h.length ∧ i ≠ j := by
  have hV := (inM_iff _ _).1 hV
  have hch : ∀ i j, chainR l i j = true → i < h.length ∧ j < h.length ∧ i ≠ j := fun i j hc2 => by
    obtain ⟨m1, m2⟩ := chain_mem hc2
    have h3 := (hf.2 _).1 m1
    have h4 := (hf.2 _).1 m2
    refine ⟨by omega, by omega, ?_⟩
    rintro rfl
    rw [chain_irr hf] at hc2; cases hc2
  have h7 : b = 0 ∨ b = 1 ∨ b = 2 ∨ b = 3 ∨ b = 4 ∨ 5 ≤ b := by omega
  rcases h7 with rfl | rfl | rfl | rfl | rfl | hb
  · obtain ⟨h1, h2, h3⟩ := (prsTo_iff (sesP h) h.length i j hi hj h.length).1 hm
    unfold sesP at h3
    rw [Bool.and_eq_true, decide_eq_true_eq] at h3
    exact ⟨h1, h2, by omega⟩
  · obtain ⟨q, hq, a1, a2⟩ := (thenR_iff V V i j).1 hm
    exact hch i j (chain_trans hf.1 (hV i q hi hq a1) (hV q j hq hj a2))
  · obtain ⟨q, hq, a1, a2⟩ := (thenR_iff _ V i j).1 hm
    exact hch i j (chain_trans hf.1 a1 (hV q j hq hj a2))
  · exact hch i j (rivM_in h _ i j hm)
  · exact hch i j hm
  · have hm2 : timM h i j = true := by
      have e : keptM h (chainR l) V b = timM h := by
        match b, hb with
        | b + 5, _ => rfl
      rw [e] at hm; exact hm
    obtain ⟨h1, h2, h3⟩ := (prsTo_iff (timP h) h.length i j hi hj h.length).1 hm2
    refine ⟨h1, h2, ?_⟩
    rintro rfl
    unfold timP at h3
    rw [decide_eq_true_eq, cAt_eq h1, bAt_eq h1] at h3
    have := bc_of hc h1
    omega
theorem rivM_at {h : List TxnV} {l : List Int} {i k : Nat} (hi : i < h.length) (hk : k < h.length) (hne : i ≠ k) : rivM h (chainR l) i k = (chainR l i k && rivR h i k) := by
  unfold rivM rivB
  rw [decide_eq_true hi, decide_eq_true hk, decide_eq_true hne, Bool.true_and, Bool.true_and, Bool.true_and]
theorem keeps_same {h : List TxnV} {V : Mat} {m : List Pr} {l : List Int} {x : Nat} (hc : checkI h = 0) (hR : Rep V m) (hf : FullRow h.length l) (hV : inM V (chainR l) = true) (hx : x < 64) : keepsR h x l m = decide (lackN x (keptN h l V) = 0) := by
  have h64 := (check_zero hc).1
  obtain ⟨t1, t2, t4, t8, t16, t32⟩ := hasT_bits ⟨x, hx⟩
  simp only at t1 t2 t4 t8 t16 t32
  rw [Bool.eq_iff_iff, keepsR_iff, decide_eq_true_eq, lack_iff]
  have hV2 := (inM_iff _ _).1 hV
  have ah : ∀ i j : Nat, i < h.length → j < h.length → (ahR l (i : Int) (j : Int) = true ↔ chainR l i j = true) := fun i j hi hj => by
    rw [chain_ahd hf, ahdR_iff]; exact ⟨fun h => ⟨hi, hj, h⟩, fun h => h.2.2⟩
  have fo : ∀ i k : Nat, i < h.length → k < h.length → (folR m x l (i : Int) (k : Int) h.length = true ↔ (x.testBit 1 = true ∧ thenR V V i k = true) ∨ (x.testBit 2 = true ∧ thenR (chainR l) V i k = true)) := fun i k hi hk => by
    rw [folR_iff, t2, t4]
    constructor
    · rintro ⟨j, hj, h1, h2⟩
      have v1 : V j k = true := by rw [← hasP_rep hR (show j < 64 by omega) (show k < 64 by omega)]; exact hasP_iff.2 h1
      rcases h2 with ⟨h2, h3⟩ | ⟨h2, h3⟩
      · have v2 : V i j = true := by rw [← hasP_rep hR (show i < 64 by omega) (show j < 64 by omega)]; exact hasP_iff.2 h3
        exact .inl ⟨h2, (thenR_iff _ _ _ _).2 ⟨j, by omega, v2, v1⟩⟩
      · exact .inr ⟨h2, (thenR_iff _ _ _ _).2 ⟨j, by omega, (ah i j hi hj).1 h3, v1⟩⟩
    · rintro (⟨h1, h2⟩ | ⟨h1, h2⟩)
      · obtain ⟨j, hj, a1, a2⟩ := (thenR_iff _ _ _ _).1 h2
        have hjn : j < h.length := by
          obtain ⟨m1, m2⟩ := chain_mem (hV2 j k hj (by omega) a2)
          have := (hf.2 _).1 m1; omega
        exact ⟨j, hjn, hasP_iff.1 (by rw [hasP_rep hR hj (by omega)]; exact a2), .inl ⟨h1, hasP_iff.1 (by rw [hasP_rep hR (by omega) hj]; exact a1)⟩⟩
      · obtain ⟨j, hj, a1, a2⟩ := (thenR_iff _ _ _ _).1 h2
        have hjn : j < h.length := by
          obtain ⟨m1, m2⟩ := chain_mem (hV2 j k hj (by omega) a2)
          have := (hf.2 _).1 m1; omega
        exact ⟨j, hjn, hasP_iff.1 (by rw [hasP_rep hR hj (by omega)]; exact a2), .inr ⟨h1, (ah i j hi hjn).2 a1⟩⟩
  constructor
  · intro H b hb
    have hb6 : b < 6 := by
      apply Decidable.byContradiction
      intro hge
      have hp : (64 : Nat) ≤ 2 ^ b := by
        have := Nat.pow_le_pow_right (n := 2) (by omega) (show 6 ≤ b by omega)
        omega
      rw [Nat.testBit_lt_two_pow (by omega)] at hb
      cases hb
    rw [kept_bit h l V hb6, inM_iff]
    intro i j hi hj hm
    obtain ⟨hin, hjn, hne⟩ := kept_lt hc hf hV hi hj hm
    have hbr := H i j hin hjn
    cases hv : V i j with
    | true => rfl
    | false =>
      exfalso
      have hp : hasP m (i : Int) (j : Int) = false := by rw [hasP_rep hR hi hj]; exact hv
      have yes : brkR h x l m i j = true := by
        unfold brkR
        rw [decide_eq_false hne, hp]
        simp only [Bool.not_false, Bool.true_and, Bool.or_eq_true, Bool.and_eq_true]
        have h7 : b = 0 ∨ b = 1 ∨ b = 2 ∨ b = 3 ∨ b = 4 ∨ b = 5 := by omega
        rcases h7 with rfl | rfl | rfl | rfl | rfl | rfl
        · exact .inl (.inl (.inl ⟨by rw [t1]; exact hb, ((prsTo_iff (sesP h) h.length i j hi hj h.length).1 hm).2.2⟩))
        · exact .inr ((fo i j hin hjn).2 (.inl ⟨hb, hm⟩))
        · exact .inr ((fo i j hin hjn).2 (.inr ⟨hb, hm⟩))
        · have hm2 : rivM h (chainR l) i j = true := hm
          rw [rivM_at hin hjn hne, Bool.and_eq_true] at hm2
          exact .inl (.inr ⟨(ah i j hin hjn).2 hm2.1, .inr ⟨by rw [t8]; exact hb, hm2.2⟩⟩)
        · exact .inl (.inr ⟨(ah i j hin hjn).2 hm, .inl (by rw [t16]; exact hb)⟩)
        · exact .inl (.inl (.inr ⟨by rw [t32]; exact hb, ((prsTo_iff (timP h) h.length i j hi hj h.length).1 hm).2.2⟩))
      rw [yes] at hbr; cases hbr
  · intro H i k hi hk
    have K : ∀ b, b < 6 → x.testBit b = true → keptM h (chainR l) V b i k = true → V i k = true := fun b hb6 hb hm => (inM_iff _ _).1 ((kept_bit h l V hb6).symm.trans (H b hb)) i k (by omega) (by omega) hm
    cases hbr : brkR h x l m i k with
    | false => rfl
    | true =>
      exfalso
      unfold brkR at hbr
      rw [hasP_rep hR (show i < 64 by omega) (show k < 64 by omega)] at hbr
      simp only [Bool.and_eq_true, Bool.or_eq_true, Bool.not_eq_true', decide_eq_false_iff_not] at hbr
      obtain ⟨hne, hv, hq⟩ := hbr
      have yes : V i k = true := by
        rcases hq with ((⟨h1, h2⟩ | ⟨h1, h2⟩) | ⟨h1, h2⟩) | h1
        · exact K 0 (by omega) (by rw [← t1]; exact h1) ((prsTo_iff (sesP h) h.length i k (by omega) (by omega) h.length).2 ⟨hi, hk, h2⟩)
        · exact K 5 (by omega) (by rw [← t32]; exact h1) ((prsTo_iff (timP h) h.length i k (by omega) (by omega) h.length).2 ⟨hi, hk, h2⟩)
        · have hch := (ah i k hi hk).1 h1
          rcases h2 with h2 | ⟨h2, h3⟩
          · exact K 4 (by omega) (by rw [← t16]; exact h2) hch
          · refine K 3 (by omega) (by rw [← t8]; exact h2) ?_
            show rivM h (chainR l) i k = true
            rw [rivM_at hi hk hne, hch, h3]; rfl
        · rcases (fo i k hi hk).1 h1 with ⟨h1, h2⟩ | ⟨h1, h2⟩
          · exact K 1 (by omega) h1 h2
          · exact K 2 (by omega) h1 h2
      rw [yes] at hv; cases hv
/-- Does a history keep what a level asks, as the reference says it? -/
def holdsR (h : List TxnV) (lv : Int) (l : List Int) (m : List Pr) : Bool := isLv lv && (soundTo h h.length && (rightR h l m && keepsR h (askN lv) l m))
theorem holds_same {h : List TxnV} {V : Mat} {m : List Pr} (hc : checkI h = 0) (hR : Rep V m) (lv : Int) (l : List Int) : holdsB h lv l V = holdsR h lv l m := by
  unfold holdsB holdsR
  rw [right_same hc hR l]
  cases hr : rightR h l m with
  | false => simp
  | true =>
    have hr2 := hr
    rw [← right_same hc hR l] at hr2
    unfold rightM at hr2
    rw [Bool.and_eq_true, Bool.and_eq_true] at hr2
    have h64 := (check_zero hc).1
    have hf := full_of_row ((row_same h.length h64 l).symm.trans hr2.1)
    rw [keeps_same hc hR hf hr2.2.1 (askN_lt lv)]
/-- The reference's least pairs are what least.Of answers. -/
theorem lea_must {h : List TxnV} {x y : Nat} {l : List Int} (hc : checkI h = 0) (hf : FullRow h.length l) (hx : x < 64) (hy : y < 9223372036854775808) (hb : ∀ b, b < 6 → y.testBit b = x.testBit b) {i j : Nat} (hi : i < 64) (hj : j < 64) :
    Must (startM h (y : Int) (chainR l)) (chainR l) (trB y) (pfB y) i j ↔ LeaR h x l h.length i j := by
  have h64 := (check_zero hc).1
  obtain ⟨t1, t2, t4, t8, t16, t32⟩ := hasT_bits ⟨x, hx⟩
  simp only at t1 t2 t4 t8 t16 t32
  have ah : ∀ i j : Nat, i < h.length → j < h.length → (ahR l (i : Int) (j : Int) = true ↔ chainR l i j = true) := fun i j hi hj => by
    rw [chain_ahd hf, ahdR_iff]; exact ⟨fun h => ⟨hi, hj, h⟩, fun h => h.2.2⟩
  have hch : ∀ i j, chainR l i j = true → i < h.length ∧ j < h.length ∧ i ≠ j := fun i j hc2 => by
    obtain ⟨m1, m2⟩ := chain_mem hc2
    have h3 := (hf.2 _).1 m1
    have h4 := (hf.2 _).1 m2
    refine ⟨by omega, by omega, ?_⟩
    rintro rfl
    rw [chain_irr hf] at hc2; cases hc2
  constructor
  · intro hm
    refine must_in (V := fun i j => LeaR h x l h.length i j) ?_ ?_ ?_ hm hi hj
    · intro i j hi hj hs
      refine .base (staR_iff.2 ?_)
      rw [startM_iff h y hy, baseM_iff h y hy, hb 0 (by omega), hb 5 (by omega), hb 3 (by omega), hb 4 (by omega), ← t1, ← t32, ← t8, ← t16] at hs
      unfold mustR
      simp only [Bool.or_eq_true, Bool.and_eq_true]
      rcases hs with (hs | ⟨h1, h2⟩ | ⟨h1, h2⟩) | ⟨h1, h2⟩ | ⟨h1, h2⟩
      · obtain ⟨a1, a2, a3⟩ := (prsTo_iff (froP h) h.length i j hi hj h.length).1 hs
        rw [fro_same hc i a2] at a3
        refine ⟨a1, a2, ?_, .inl (.inl (.inl a3))⟩
        rintro rfl
        rw [froR_irr] at a3; cases a3
      · obtain ⟨a1, a2, a3⟩ := (prsTo_iff (sesP h) h.length i j hi hj h.length).1 h2
        refine ⟨a1, a2, ?_, .inl (.inl (.inr ⟨h1, a3⟩))⟩
        unfold sesP at a3
        rw [Bool.and_eq_true, decide_eq_true_eq] at a3
        omega
      · obtain ⟨a1, a2, a3⟩ := (prsTo_iff (timP h) h.length i j hi hj h.length).1 h2
        refine ⟨a1, a2, ?_, .inl (.inr ⟨h1, a3⟩)⟩
        rintro rfl
        unfold timP at a3
        rw [decide_eq_true_eq, cAt_eq a1, bAt_eq a1] at a3
        have := bc_of hc a1
        omega
      · have hA := rivM_in h _ i j h2
        obtain ⟨a1, a2, a3⟩ := hch i j hA
        rw [rivM_at a1 a2 a3, Bool.and_eq_true] at h2
        exact ⟨a1, a2, a3, .inr ⟨(ah i j a1 a2).2 hA, .inr ⟨h1, h2.2⟩⟩⟩
      · obtain ⟨a1, a2, a3⟩ := hch i j h2
        exact ⟨a1, a2, a3, .inr ⟨(ah i j a1 a2).2 h2, .inl h1⟩⟩
    · intro ht i q j _ hq _ h1 h2
      exact .trans (by rw [t2, ← hb 1 (by omega), ← trB_bit y hy]; exact ht) hq h1 h2
    · intro ht i q j _ hq _ h1 h2
      exact .pre (by rw [t4, ← hb 2 (by omega), ← pfB_bit y hy]; exact ht) hq ((chain_ahd hf i q).1 h1) h2
  · intro hm
    unfold LeaR at hm
    induction hm with
    | base hs =>
      obtain ⟨a1, a2, a3, a4⟩ := staR_iff.1 hs
      refine .base ?_
      rw [startM_iff h y hy, baseM_iff h y hy, hb 0 (by omega), hb 5 (by omega), hb 3 (by omega), hb 4 (by omega), ← t1, ← t32, ← t8, ← t16]
      unfold mustR at a4
      simp only [Bool.or_eq_true, Bool.and_eq_true] at a4
      rcases a4 with ((a4 | ⟨h1, h2⟩) | ⟨h1, h2⟩) | ⟨h1, h2⟩
      · exact .inl (.inl ((prsTo_iff (froP h) h.length _ _ hi hj h.length).2 ⟨a1, a2, by rw [fro_same hc _ a2]; exact a4⟩))
      · exact .inl (.inr (.inl ⟨h1, (prsTo_iff (sesP h) h.length _ _ hi hj h.length).2 ⟨a1, a2, h2⟩⟩))
      · exact .inl (.inr (.inr ⟨h1, (prsTo_iff (timP h) h.length _ _ hi hj h.length).2 ⟨a1, a2, h2⟩⟩))
      · have hA := (ah _ _ a1 a2).1 h1
        rcases h2 with h2 | ⟨h2, h3⟩
        · exact .inr (.inr ⟨h2, hA⟩)
        · exact .inr (.inl ⟨h2, by rw [rivM_at a1 a2 a3, hA, h3]; rfl⟩)
    | @trans i q j ht hq _ _ ih1 ih2 => exact .trans (by rw [trB_bit y hy, hb 1 (by omega), ← t2]; exact ht) hq (ih1 hi hq) (ih2 hq hj)
    | @pre i q j ht hq ha _ ih => exact .pre (by rw [pfB_bit y hy, hb 2 (by omega), ← t4]; exact ht) hq ((chain_ahd hf i q).2 ha) (ih hq hj)
theorem lea_rep {h : List TxnV} {x y : Nat} {l : List Int} {m : List Pr} {R : Mat} (hc : checkI h = 0) (hf : FullRow h.length l) (hx : x < 64) (hy : y < 9223372036854775808) (hb : ∀ b, b < 6 → y.testBit b = x.testBit b) (hL : LeaL h x l h.length m) (hR : LeastIs h y l R) : Rep R m := by
  have h64 := (check_zero hc).1
  refine ⟨hL.1, fun a b => ?_⟩
  rw [hL.2]
  constructor
  · rintro ⟨i, k, rfl, rfl, hM⟩
    have := leaR_lt hM
    exact ⟨i, k, by omega, by omega, rfl, rfl, (hR i k (by omega) (by omega)).2 ((lea_must hc hf hx hy hb (by omega) (by omega)).2 hM)⟩
  · rintro ⟨i, k, hi, hk, rfl, rfl, hr⟩
    exact ⟨i, k, rfl, rfl, (lea_must hc hf hx hy hb hi hk).1 ((hR i k hi hk).1 hr)⟩
end Go.Proofs.YtecpeegbfeijaaaGreatDoor

namespace Go.Proofs.YtecpeegbfeijaaaGreatDoor
set_option maxRecDepth 100000
open Go.RowKit

theorem rivR_symm (h : List TxnV) (i k : Nat) : rivR h i k = rivR h k i := by
  unfold rivR
  congr 1
  funext n
  rw [Bool.and_comm]
theorem rivB_symm (h : List TxnV) (i k : Nat) : rivB h i k = rivB h k i := by
  unfold rivB
  rw [rivR_symm h i k, Bool.eq_iff_iff]
  simp only [Bool.and_eq_true, decide_eq_true_eq]
  exact ⟨fun ⟨a, b, c, d⟩ => ⟨b, a, fun e => c e.symm, d⟩, fun ⟨a, b, c, d⟩ => ⟨b, a, fun e => c e.symm, d⟩⟩
theorem baseN_bit {h : List TxnV} {C i j : Nat} (hi : i < 64) : (baseN h C i).testBit j = true ↔ j < 64 ∧ baseM h (C : Int) j i = true := by
  unfold baseN
  rw [seeTo_bit _ _ _ _ (Nat.le_refl 64), Bool.and_eq_true, decide_eq_true_eq]
  exact ⟨fun ⟨a, b⟩ => ⟨a, by rwa [hasR_nat _ _ _ a hi] at b⟩, fun ⟨a, b⟩ => ⟨a, by rw [hasR_nat _ _ _ a hi]; exact b⟩⟩
theorem rivN_bit {h : List TxnV} {i j : Nat} : (rivN h i).testBit j = true ↔ j < 64 ∧ rivB h i j = true := by
  unfold rivN
  rw [testBit_mkS, Bool.and_eq_true, decide_eq_true_eq]
theorem baseM_lt {h : List TxnV} {C j k : Nat} (hC : C < 9223372036854775808) (hj : j < 64) (hk : k < 64) (hb : baseM h (C : Int) j k = true) : j < h.length ∧ k < h.length := by
  rw [baseM_iff h C hC] at hb
  rcases hb with hb | ⟨_, hb⟩ | ⟨_, hb⟩
  · exact ⟨((prsTo_iff _ _ j k hj hk _).1 hb).1, ((prsTo_iff _ _ j k hj hk _).1 hb).2.1⟩
  · exact ⟨((prsTo_iff _ _ j k hj hk _).1 hb).1, ((prsTo_iff _ _ j k hj hk _).1 hb).2.1⟩
  · exact ⟨((prsTo_iff _ _ j k hj hk _).1 hb).1, ((prsTo_iff _ _ j k hj hk _).1 hb).2.1⟩
/-- What is seen, as a relation. -/
def seesR (h : List TxnV) (C : Nat) (r : List Nat) : Mat := fun j k => (plSee h C r k).testBit j
section
variable {h : List TxnV} {C : Nat}
theorem RowG.drop : ∀ {p r : List Nat}, RowG h C (p ++ r) → RowG h C r
  | [], _, g => g
  | _ :: p, _, g => RowG.drop (p := p) g.tail
theorem aheadL_drop : ∀ {p r : List Nat}, (p ++ r).Nodup → ∀ {k : Nat}, k ∈ r → aheadL (p ++ r) k = aheadL r k
  | [], _, _, _, _ => rfl
  | i :: p, r, hn, k, hk => by
    obtain ⟨hi, hn'⟩ := List.nodup_cons.1 (show (i :: (p ++ r)).Nodup from hn)
    show aheadL (i :: (p ++ r)) k = _
    rw [aheadL_tail (fun e => hi (by rw [← e]; exact List.mem_append_right _ hk)), aheadL_drop hn' hk]
theorem sees_sound {r : List Nat} (g : RowG h C r) (hC : C < 9223372036854775808) : ∀ (r' p : List Nat), p ++ r' = r → ∀ j k, (plSee h C r' k).testBit j = true → Must (startM h (C : Int) (chainR (r.reverse.map Int.ofNat))) (chainR (r.reverse.map Int.ofNat)) (trB C) (pfB C) j k
  | [], _, _, j, k, hj => by unfold plSee at hj; simp at hj
  | i :: r', p, he, j, k, hj => by
    have ih := sees_sound g hC r' (p ++ [i]) (by rw [List.append_assoc]; exact he)
    by_cases e : k = i
    · subst e
      have g2 : RowG h C (k :: r') := RowG.drop (p := p) (by rw [he]; exact g)
      have hk64 := g2.lt k (List.mem_cons_self ..)
      have hA : ∀ m, m ∈ k :: r' → aheadL r m = aheadL (k :: r') m := fun m hm => by
        rw [← he]; exact aheadL_drop (by rw [he]; exact g.nd) hm
      have hkn := (List.nodup_cons.1 g2.nd).1
      have hpl : ∀ j, (plS r').testBit j = true → chainR (r.reverse.map Int.ofNat) j k = true := fun j hj => by
        rw [ahead_chain g.nd g.lt, hA k (List.mem_cons_self ..), aheadL, if_pos rfl]; exact hj
      rw [plSee, if_pos rfl] at hj
      refine wld4_least (Y := fun j => Must (startM h (C : Int) (chainR (r.reverse.map Int.ofNat))) (chainR (r.reverse.map Int.ofNat)) (trB C) (pfB C) j k) ?_ ?_ ?_ ?_ ?_ hj
      · intro j hj
        exact .base ((startM_iff h C hC _ j k).2 (.inl ((baseN_bit hk64).1 hj).2))
      · intro hc j hj
        exact .base ((startM_iff h C hC _ j k).2 (.inr (.inr ⟨hc, hpl j hj⟩)))
      · intro hc j hr hj
        refine .base ((startM_iff h C hC _ j k).2 (.inr (.inl ⟨hc, ?_⟩)))
        unfold rivM
        rw [hpl j hj, rivB_symm, (rivN_bit.1 hr).2]; rfl
      · intro hc m j hm hY hj
        exact .trans (by rw [trB_bit C hC]; exact hc) hm (ih j m hj) hY
      · intro hc m j hm hY hj
        refine .pre (by rw [pfB_bit C hC]; exact hc) hm ?_ hY
        have hm' : m ∈ r' := by
          by_cases q : m ∈ r'
          · exact q
          · rw [aheadL_out q] at hj; simp at hj
        have hne : m ≠ k := fun e => hkn (by rw [← e]; exact hm')
        rw [ahead_chain g.nd g.lt, hA m (List.mem_cons_of_mem _ hm'), aheadL_tail hne]; exact hj
    · rw [plSee_tail e] at hj
      exact ih j k hj
theorem sees_least {r : List Nat} (g : RowG h C r) (hC : C < 9223372036854775808) (hall : ∀ k, k < h.length → k ∈ r) : LeastIs h C (r.reverse.map Int.ofNat) (seesR h C r) := by
  intro j k hj hk
  refine ⟨fun hs => sees_sound g hC r [] rfl j k hs, fun hm => ?_⟩
  obtain ⟨c1, c2⟩ := sees_closed g
  refine must_in (V := fun j k => (plSee h C r k).testBit j = true) ?_ ?_ ?_ hm hj hk
  · intro j k hj hk hs
    rw [startM_iff h C hC] at hs
    rcases hs with hs | ⟨hc, hs⟩ | ⟨hc, hs⟩
    · have hkr := hall k (baseM_lt hC hj hk hs).2
      rw [sees_fix g k hkr]
      exact wld4_base ((baseN_bit hk).2 ⟨hj, hs⟩)
    · unfold rivM at hs
      rw [Bool.and_eq_true, ahead_chain g.nd g.lt] at hs
      have hkr : k ∈ r := by
        by_cases q : k ∈ r
        · exact q
        · rw [aheadL_out q] at hs; simp at hs
      rw [sees_fix g k hkr]
      exact wld4_riv hc (rivN_bit.2 ⟨hj, by rw [rivB_symm]; exact hs.2⟩) hs.1
    · rw [ahead_chain g.nd g.lt] at hs
      have hkr : k ∈ r := by
        by_cases q : k ∈ r
        · exact q
        · rw [aheadL_out q] at hs; simp at hs
      rw [sees_fix g k hkr]
      exact wld4_all hc hs
  · intro ht i m j _ _ _ h1 h2
    rw [trB_bit C hC] at ht
    exact c1 ht j m i h2 h1
  · intro hp i m j _ _ _ h1 h2
    rw [pfB_bit C hC] at hp
    rw [ahead_chain g.nd g.lt] at h1
    exact c2 hp j m i h2 h1
end
/-- What one reads of others: nothing, or what another one wrote. -/
theorem read_from {h : List TxnV} (hc : checkI h = 0) {k : Nat} (hk : k < h.length) {x : Int × Int} (hx : x ∈ readsOf h k) : x.2 = -1 ∨ ∃ n : Nat, n < h.length ∧ x.2 = (n : Int) ∧ n ≠ k ∧ (wrtN h x.1).testBit n = true := by
  rw [reads_same hc hk] at hx
  unfold rdR at hx
  obtain ⟨o, ho, rfl⟩ := List.mem_map.1 hx
  obtain ⟨ho1, ho2⟩ := List.mem_filter.1 ho
  obtain ⟨h1, h2⟩ := refReads_in ho1
  rcases reads_F (may_of hc) hk h1 h2 with ⟨h0, hn⟩ | ⟨h0, u, hu, hku, hw⟩
  · left; unfold fromR; rw [if_pos h0]
  · right
    obtain ⟨p, hp, hpv, hpk⟩ := real_wr h h.length (Nat.le_refl _) o.val u hu
    obtain ⟨t, ht, hpt, hpw⟩ := wrs_mem.1 hp
    obtain ⟨n, hn, rfl⟩ := List.getElem_of_mem ht
    have h3 := may_wr (may_of hc) hn hpt hpw
    rw [hpv, hu] at h3
    have h4 := Option.some.inj h3
    have hui : u.i = (n : Int) := by rw [h4]
    have hfr : fromR h o = (n : Int) := by unfold fromR; rw [if_neg h0, hw, hui]
    refine ⟨n, hn, hfr, ?_, ?_⟩
    · rintro rfl
      rw [hfr] at ho2
      simp at ho2
    · have h64 := (check_zero hc).1
      show (wrtN h o.key).testBit n = true
      unfold wrtN
      rw [testBit_mkS, decide_eq_true (show n < 64 by omega), decide_eq_true hn, Bool.true_and, Bool.true_and, decide_eq_true_eq, opsAt_eq hn]
      unfold keysOf
      rw [← hku, ← hpk]
      obtain ⟨a, b⟩ := (check_zero hc).2.2.2 _ (List.getElem_mem hn) p hpt
      obtain ⟨q, hq⟩ := Option.isSome_iff_exists.1 (lastW_some h[n].l hpw h[n].l.length (Nat.le_refl _) (by rw [List.take_length]; exact hpt))
      rw [List.take_length] at hq
      refine List.mem_map.2 ⟨q, upTo_mem.2 ⟨p.key.toNat, by omega, ?_⟩, (lastW_key hq).1⟩
      unfold wrK
      rw [Int.toNat_of_nonneg a]; exact hq
theorem from_base {h : List TxnV} {C : Nat} (hC : C < 9223372036854775808) (h64 : h.length ≤ 64) {k n : Nat} (hk : k < h.length) (hn : n < h.length) {x : Int × Int} (hx : x ∈ readsOf h k) (he : x.2 = (n : Int)) : (baseN h C k).testBit n = true := by
  rw [baseN_bit (by omega)]
  refine ⟨by omega, (baseM_iff h C hC n k).2 (.inl ?_)⟩
  refine (prsTo_iff (froP h) h.length n k (by omega) (by omega) h.length).2 ⟨hn, hk, ?_⟩
  unfold froP
  rw [List.any_eq_true]
  exact ⟨x, hx, by rw [he]; simp⟩
theorem readsP_congr {h : List TxnV} {aF aG : Nat → Nat} {s k : Nat} (hc : ∀ x ∈ readsOf h k, 0 ≤ x.2 → aF x.2.toNat = aG x.2.toNat) : readsP h aF s k = readsP h aG s k := by
  unfold readsP
  refine all_congr _ fun x hx => ?_
  unfold readP readW
  by_cases h0 : 0 ≤ x.2
  · rw [if_pos h0, if_pos h0, hc x hx h0]
  · rw [if_neg h0, if_neg h0]
/-- Each one of a row may come where it does. -/
def goodR (h : List TxnV) (C : Nat) (r : List Nat) : Prop := ∀ k ∈ r, (∀ j, (baseN h C k).testBit j = true → (aheadL r k).testBit j = true) ∧ readsP h (aheadL r) (plSee h C r k) k = true
section
variable {h : List TxnV} {C : Nat}
theorem reads_tail (hc : checkI h = 0) (hC : C < 9223372036854775808) {i k : Nat} {r : List Nat} (hi : i ∉ r) (hlt : ∀ a ∈ r, a < h.length) (hk : k < h.length) (hb : ∀ j, (baseN h C k).testBit j = true → (plS r).testBit j = true) (s : Nat) :
    readsP h (aheadL (i :: r)) s k = readsP h (aheadL r) s k := by
  have h64 := (check_zero hc).1
  refine readsP_congr fun x hx h0 => ?_
  rcases read_from hc hk hx with e | ⟨n, hn, e, _, _⟩
  · omega
  · have := plS_mem (fun a ha => by have := hlt a ha; omega) (hb n (from_base hC h64 hk hn hx e))
    rw [e, Int.toNat_natCast]
    exact aheadL_tail (fun q => hi (by rw [← q]; exact this))
theorem inB_bits {s t : Nat} (hs : IsSet s) : inB s t = true ↔ ∀ j, s.testBit j = true → t.testBit j = true := by
  rw [inB_iff hs]
  exact ⟨fun q j hj => q j (by by_cases e : j < 64; exact e; rw [hs.high (by omega)] at hj; cases hj) hj, fun q j _ hj => q j hj⟩
theorem good_cons (hc : checkI h = 0) (hC : C < 9223372036854775808) {i : Nat} {r : List Nat} (hi : i ∉ r) (hin : i < h.length) (hlt : ∀ a ∈ r, a < h.length) : goodR h C (i :: r) ↔ goodR h C r ∧ tryP h C r i = true := by
  have h64 := (check_zero hc).1
  have hlt64 : ∀ a ∈ r, a < 64 := fun a ha => by have := hlt a ha; omega
  have key : ∀ k ∈ r, k ≠ i := fun k hk e => hi (by rw [← e]; exact hk)
  constructor
  · intro g
    constructor
    · intro k hk
      obtain ⟨g1, g2⟩ := g k (List.mem_cons_of_mem _ hk)
      rw [aheadL_tail (key k hk)] at g1
      refine ⟨g1, ?_⟩
      rw [plSee_tail (key k hk), reads_tail hc hC hi hlt (hlt k hk) (fun j hj => ahead_in hlt64 (g1 j hj))] at g2
      exact g2
    · obtain ⟨g1, g2⟩ := g i (List.mem_cons_self ..)
      rw [aheadL, if_pos rfl] at g1
      rw [plSee, if_pos rfl, reads_tail hc hC hi hlt hin g1] at g2
      unfold tryP nextN
      rw [decide_eq_true hin, decide_eq_false hi, (inB_bits (baseN_set h C i)).2 g1, g2]; rfl
  · rintro ⟨g, ht⟩
    unfold tryP at ht
    simp only [Bool.and_eq_true] at ht
    obtain ⟨_, _, g1, g2⟩ := ht
    have g1 := (inB_bits (baseN_set h C i)).1 g1
    intro k hk
    by_cases e : k = i
    · subst e
      rw [aheadL, if_pos rfl]
      refine ⟨g1, ?_⟩
      rw [plSee, if_pos rfl, reads_tail hc hC hi hlt hin g1]
      exact g2
    · have hkr : k ∈ r := by rcases List.mem_cons.1 hk with q | q; exact (e q).elim; exact q
      obtain ⟨q1, q2⟩ := g k hkr
      rw [aheadL_tail e]
      refine ⟨q1, ?_⟩
      rw [plSee_tail e, reads_tail hc hC hi hlt (hlt k hkr) (fun j hj => ahead_in hlt64 (q1 j hj))]
      exact q2
/-- May all come, one behind the other? -/
def allT (h : List TxnV) (C : Nat) : List Nat → List Nat → Bool
  | _, [] => true
  | r, i :: l => tryP h C r i && allT h C (i :: r) l
theorem good_drop (hc : checkI h = 0) (hC : C < 9223372036854775808) : ∀ {p r : List Nat}, (p ++ r).Nodup → (∀ a ∈ p ++ r, a < h.length) → goodR h C (p ++ r) → goodR h C r
  | [], _, _, _, g => g
  | i :: p, r, hn, hlt, g => by
    obtain ⟨hi, hn'⟩ := List.nodup_cons.1 (show (i :: (p ++ r)).Nodup from hn)
    have hlt' : ∀ a ∈ p ++ r, a < h.length := fun a ha => hlt a (List.mem_cons_of_mem _ ha)
    exact good_drop hc hC hn' hlt' ((good_cons hc hC hi (hlt i (List.mem_cons_self ..)) hlt').1 g).1
theorem allT_iff (hc : checkI h = 0) (hC : C < 9223372036854775808) : ∀ (l r : List Nat), (l.reverse ++ r).Nodup → (∀ a ∈ l.reverse ++ r, a < h.length) → goodR h C r → (allT h C r l = true ↔ goodR h C (l.reverse ++ r))
  | [], r, _, _, g => ⟨fun _ => g, fun _ => rfl⟩
  | i :: l, r, hn, hlt, g => by
    have e : (i :: l).reverse ++ r = l.reverse ++ (i :: r) := by simp
    rw [e] at hn hlt ⊢
    have hn2 : (i :: r).Nodup := (List.nodup_append.1 hn).2.1
    have hi := (List.nodup_cons.1 hn2).1
    have hin := hlt i (List.mem_append_right _ (List.mem_cons_self ..))
    have hltr : ∀ a ∈ r, a < h.length := fun a ha => hlt a (List.mem_append_right _ (List.mem_cons_of_mem _ ha))
    unfold allT
    rw [Bool.and_eq_true]
    constructor
    · rintro ⟨ht, ha⟩
      exact (allT_iff hc hC l (i :: r) hn hlt ((good_cons hc hC hi hin hltr).2 ⟨g, ht⟩)).1 ha
    · intro g2
      have g3 := good_drop hc hC hn hlt g2
      exact ⟨((good_cons hc hC hi hin hltr).1 g3).2, (allT_iff hc hC l (i :: r) hn hlt g3).2 g2⟩
/-- Which one comes last of some that come in a row. -/
theorem last_is {f : Nat} {S : Nat} (hS : S.testBit f = true) : ∀ {r : List Nat}, r.Nodup → (∀ k ∈ r, k < 64) → f ∈ r → (∀ j, S.testBit j = true → j ∈ r) → (lastI (r.reverse.map Int.ofNat) S = (f : Int) ↔ ∀ j, S.testBit j = true → j = f ∨ (aheadL r f).testBit j = true) := by
  intro r
  induction r with
  | nil => intro _ _ hf _; cases hf
  | cons i r ih =>
    intro hnd hlt hf hin
    obtain ⟨hi, hnd'⟩ := List.nodup_cons.1 hnd
    have hi64 := hlt i (List.mem_cons_self ..)
    have hlt' : ∀ a ∈ r, a < 64 := fun a ha => hlt a (List.mem_cons_of_mem _ ha)
    rw [List.reverse_cons, List.map_append, List.map_cons, List.map_nil, lastI_snoc, show Int.ofNat i = (i : Int) from rfl, hasB_nat hi64]
    by_cases hs : S.testBit i = true
    · rw [if_pos hs]
      by_cases e : f = i
      · subst e
        refine ⟨fun _ j hj => ?_, fun _ => rfl⟩
        rw [aheadL, if_pos rfl, plS_bit j r hlt', decide_eq_true_eq]
        exact List.mem_cons.1 (hin j hj)
      · constructor
        · intro q; exact (e (Int.ofNat.inj q).symm).elim
        · intro q
          rcases q i hs with q | q
          · exact (e q.symm).elim
          · rw [aheadL_tail e] at q
            exact (hi (aheadL_mem hlt' q)).elim
    · rw [if_neg hs]
      have e : f ≠ i := fun e => hs (by rw [← e]; exact hS)
      have hfr : f ∈ r := by rcases List.mem_cons.1 hf with q | q; exact (e q).elim; exact q
      rw [ih hnd' hlt' hfr (fun j hj => by
        rcases List.mem_cons.1 (hin j hj) with q | q
        · exact (hs (by rw [← q]; exact hj)).elim
        · exact q), aheadL_tail e]
theorem last_none {S : Nat} : ∀ {r : List Nat}, (∀ k ∈ r, k < 64) → (∀ j, S.testBit j = true → j ∈ r) → (lastI (r.reverse.map Int.ofNat) S = -1 ↔ S = 0) := by
  intro r
  induction r with
  | nil =>
    intro _ hin
    refine ⟨fun _ => ?_, fun _ => rfl⟩
    apply Nat.eq_of_testBit_eq
    intro j
    cases e : S.testBit j with
    | false => simp
    | true => cases hin j e
  | cons i r ih =>
    intro hlt hin
    have hi64 := hlt i (List.mem_cons_self ..)
    have hlt' : ∀ a ∈ r, a < 64 := fun a ha => hlt a (List.mem_cons_of_mem _ ha)
    rw [List.reverse_cons, List.map_append, List.map_cons, List.map_nil, lastI_snoc, show Int.ofNat i = (i : Int) from rfl, hasB_nat hi64]
    by_cases hs : S.testBit i = true
    · rw [if_pos hs]
      constructor
      · intro q; exact absurd q (by omega)
      · intro q; rw [q] at hs; simp at hs
    · rw [if_neg hs]
      exact ih hlt' (fun j hj => by
        rcases List.mem_cons.1 (hin j hj) with q | q
        · exact (hs (by rw [← q]; exact hj)).elim
        · exact q)
/-- Whom one reads of is the last one that it sees, just where none that it sees lies behind. -/
theorem read_last (hc : checkI h = 0) {r : List Nat} (hnd : r.Nodup) (hlt : ∀ k ∈ r, k < 64) {k s : Nat} (hk : k < h.length) (hs : ∀ j, s.testBit j = true → j ∈ r) {x : Int × Int} (hx : x ∈ readsOf h k) (hfs : ∀ n : Nat, x.2 = (n : Int) → s.testBit n = true) :
    decide (lastI (r.reverse.map Int.ofNat) (s &&& wrtN h x.1) = x.2) = readP h (aheadL r) s x := by
  have h64 := (check_zero hc).1
  unfold readP readW
  rw [decide_eq_decide]
  have hsW : ∀ j, (s &&& wrtN h x.1).testBit j = true → j ∈ r := fun j hj => by rw [Nat.testBit_and, Bool.and_eq_true] at hj; exact hs j hj.1
  rcases read_from hc hk hx with e | ⟨n, hn, e, hne, hw⟩
  · rw [e, if_neg (by omega)]
    exact last_none hlt hsW
  · have hsn := hfs n e
    rw [e, if_pos (by omega), Int.toNat_natCast, last_is (by rw [Nat.testBit_and, hsn, hw]; rfl) hnd hlt (hs n hsn) hsW]
    generalize s &&& wrtN h x.1 = T at *
    constructor
    · intro q
      unfold lackN
      apply Nat.eq_of_testBit_eq
      intro j
      rw [Nat.testBit_xor, Nat.testBit_and, testBit_withS, Int.toNat_natCast, Nat.zero_testBit]
      cases hj : T.testBit j with
      | false => simp
      | true =>
        rcases q j hj with q | q
        · subst q
          have : decide (0 ≤ (j : Int) ∧ (j : Int) < 64) = true := by simp; omega
          rw [this]; simp
        · rw [q]; simp
    · intro q j hj
      have := congrArg (fun z => z.testBit j) q
      simp only [lackN] at this
      rw [Nat.testBit_xor, Nat.testBit_and, testBit_withS, Int.toNat_natCast, Nat.zero_testBit, hj] at this
      cases ha : (aheadL r n).testBit j with
      | true => exact .inr rfl
      | false =>
        rw [ha] at this
        have h2 : (decide (0 ≤ (n : Int) ∧ (n : Int) < 64) && decide (n = j)) = true := by simpa using this
        rw [Bool.and_eq_true, decide_eq_true_eq, decide_eq_true_eq] at h2
        exact .inl h2.2.symm
end
end Go.Proofs.YtecpeegbfeijaaaGreatDoor

namespace Go.Proofs.YtecpeegbfeijaaaGreatDoor
set_option maxRecDepth 100000
open Go.RowKit

theorem row_perm {n : Nat} (hn : n ≤ 64) {L : List Nat} (h : L.Perm (List.range n)) : rowOkA (n : Int) (L.map Int.ofNat) = true := by
  have hl : (L.map Int.ofNat).length = n := by rw [List.length_map, h.length_eq, List.length_range]
  unfold rowOkA
  rw [hl, decide_eq_true rfl, Bool.true_and, decide_eq_true_eq, setL_eq]
  refine set_ext (isSet_ofL _) ?_ fun i hi => ?_
  · unfold belowS IsSet
    split
    · omega
    · split
      · omega
      · have := Nat.pow_lt_pow_right (a := 2) (by omega) (show (n : Int).toNat < 64 by omega)
        omega
  · rw [testBit_ofL, decide_eq_true hi, Bool.true_and]
    have e1 : hasL (L.map Int.ofNat) (i : Int) = decide (i < n) := by
      unfold hasL
      rw [Bool.eq_iff_iff, List.any_eq_true, decide_eq_true_eq]
      constructor
      · rintro ⟨a, ha, e⟩
        obtain ⟨k, hk, rfl⟩ := List.mem_map.1 ha
        have := List.mem_range.1 (h.mem_iff.1 hk)
        rw [beq_iff_eq] at e
        have : k = i := Int.ofNat.inj e
        omega
      · intro hin
        exact ⟨(i : Int), List.mem_map.2 ⟨i, h.mem_iff.2 (List.mem_range.2 hin), rfl⟩, by simp⟩
    rw [e1]
    unfold belowS
    by_cases h0 : (n : Int) ≤ 0
    · rw [if_pos h0, Nat.zero_testBit]
      exact decide_eq_false (by omega)
    · rw [if_neg h0]
      by_cases h64 : 64 ≤ (n : Int)
      · rw [if_pos h64]
        have : n = 64 := by omega
        subst this
        rw [show (18446744073709551615 : Nat) = 2 ^ 64 - 1 from rfl, Nat.testBit_two_pow_sub_one]
      · rw [if_neg h64, Int.toNat_natCast, Nat.testBit_two_pow_sub_one]
/-- What is the least keeps all that is asked. -/
theorem least_kept {h : List TxnV} {x : Nat} {l : List Int} {R : Mat} (hlt : x < 64) (hR : LeastIs h x l R) : lackN x (keptN h l R) = 0 := by
  have hx : x < 9223372036854775808 := by omega
  rw [lack_iff]
  intro k hb
  have hk6 : k < 6 := by
    apply Decidable.byContradiction
    intro hge
    have hp : (64 : Nat) ≤ 2 ^ k := by
      have := Nat.pow_le_pow_right (n := 2) (by omega) (show 6 ≤ k by omega)
      omega
    rw [Nat.testBit_lt_two_pow (by omega)] at hb
    cases hb
  rw [kept_bit h l R hk6, inM_iff]
  intro i j hi hj hm
  have h7 : k = 0 ∨ k = 1 ∨ k = 2 ∨ k = 3 ∨ k = 4 ∨ k = 5 := by omega
  rcases h7 with rfl | rfl | rfl | rfl | rfl | rfl
  · exact least_base hx hR hi hj (.inr (.inl ⟨hb, hm⟩))
  · obtain ⟨q, hq, a1, a2⟩ := (thenR_iff R R i j).1 hm
    exact (hR i j hi hj).2 (.trans (by rw [trB_bit _ hx]; exact hb) hq ((hR i q hi hq).1 a1) ((hR q j hq hj).1 a2))
  · obtain ⟨q, hq, a1, a2⟩ := (thenR_iff _ R i j).1 hm
    exact (hR i j hi hj).2 (.pre (by rw [pfB_bit _ hx]; exact hb) hq a1 ((hR q j hq hj).1 a2))
  · exact least_base hx hR hi hj (.inr (.inr (.inr (.inl ⟨hb, hm⟩))))
  · exact least_base hx hR hi hj (.inr (.inr (.inr (.inr ⟨hb, hm⟩))))
  · exact least_base hx hR hi hj (.inr (.inr (.inl ⟨hb, hm⟩)))
section
variable {h : List TxnV} {C : Nat}
theorem good_row (hc : checkI h = 0) {r : List Nat} (hnd : r.Nodup) (hlt : ∀ k ∈ r, k < h.length) (g : goodR h C r) : RowG h C r :=
  ⟨hnd, fun k hk => by have := hlt k hk; have := (check_zero hc).1; omega, fun k hk => (g k hk).1⟩
theorem sees_col {r : List Nat} {k : Nat} (hk : k < 64) : seeTo (seesR h C r) (k : Int) 64 = plSee h C r k := by
  refine set_ext (seeTo_set _ _ _) (plSee_set h C r k) fun j hj => ?_
  rw [seeTo_bit _ _ _ _ (Nat.le_refl 64), decide_eq_true hj, Bool.true_and, hasR_nat _ _ _ hj hk]; rfl
theorem seeTo_congr {R S : Mat} (h : ∀ i j, i < 64 → j < 64 → R i j = S i j) {k : Nat} (hk : k < 64) : seeTo R (k : Int) 64 = seeTo S (k : Int) 64 := by
  refine set_ext (seeTo_set _ _ _) (seeTo_set _ _ _) fun j hj => ?_
  rw [seeTo_bit _ _ _ _ (Nat.le_refl 64), seeTo_bit _ _ _ _ (Nat.le_refl 64), hasR_nat _ _ _ hj hk, hasR_nat _ _ _ hj hk, h j k hj hk]
/-- The reads of one, by what all see. -/
theorem good_right (hc : checkI h = 0) {r : List Nat} (g : RowG h C r) (hC : C < 9223372036854775808) (hlt : ∀ k ∈ r, k < h.length) {k : Nat} (hk : k ∈ r) :
    (readsOf h k).all (readOk h (r.reverse.map Int.ofNat) (seesR h C r) k) = readsP h (aheadL r) (plSee h C r k) k := by
  unfold readsP
  have hkn := hlt k hk
  have h64 := (check_zero hc).1
  refine all_congr _ fun x hx => ?_
  unfold readOk
  rw [sees_col (by omega)]
  refine read_last hc g.nd g.lt hkn (fun j hj => aheadL_mem g.lt (sees_ahead g.lt g.nd g.base hj)) hx fun n e => ?_
  rw [sees_fix g k hk]
  refine wld4_base ?_
  rcases read_from hc hkn hx with q | ⟨m, hm, q, _, _⟩
  · rw [e] at q; omega
  · have : n = m := by rw [e] at q; exact Int.ofNat.inj q
    subst this
    exact from_base hC h64 hkn hm hx q
theorem good_holds (hc : checkI h = 0) {lv : Int} (hlv : isLv lv = true) {r : List Nat} (hp : r.reverse.Perm (List.range h.length)) {R : Mat} (hR : LeastIs h (askN lv) (r.reverse.map Int.ofNat) R) :
    (holdsB h lv (r.reverse.map Int.ofNat) R = true ↔ soundTo h h.length = true ∧ goodR h (clI ((askN lv : Nat) : Int)) r) ∧
    (holdsB h lv (r.reverse.map Int.ofNat) R = true → ∀ j k, j < 64 → k < 64 → R j k = (plSee h (clI ((askN lv : Nat) : Int)) r k).testBit j) := by
  have h64 := (check_zero hc).1
  have hnd : r.Nodup := by
    have := (List.Perm.nodup_iff hp).2 List.nodup_range
    exact (List.reverse_perm r).nodup_iff.1 this
  have hmem : ∀ k, k ∈ r ↔ k < h.length := fun k => by rw [← List.mem_reverse, hp.mem_iff, List.mem_range]
  have hlt : ∀ k ∈ r, k < h.length := fun k hk => (hmem k).1 hk
  have hlt64 : ∀ k ∈ r, k < 64 := fun k hk => by have := hlt k hk; omega
  have hx := askN_lt lv
  have hx' : askN lv < 9223372036854775808 := by omega
  have hy : clI ((askN lv : Nat) : Int) < 9223372036854775808 := by have := clI_lt ((askN lv : Nat) : Int); omega
  obtain ⟨b0, b1, b2, b3, b4, b5⟩ := clI_bits (askN lv)
  generalize hCe : clI ((askN lv : Nat) : Int) = C at *
  have hNL : (r.reverse.map Int.ofNat).Nodup := nodup_ofNat ((List.reverse_perm r).nodup_iff.2 hnd)
  have hrow : rowOkA (h.length : Int) (r.reverse.map Int.ofNat) = true := row_perm h64 hp
  -- of a good row
  have K : RowG h C r → inM R (chainR (r.reverse.map Int.ofNat)) = true → ∀ j k, j < 64 → k < 64 → R j k = (plSee h C r k).testBit j := by
    intro g hin
    have hS : LeastIs h (clI ((askN lv : Nat) : Int)) (r.reverse.map Int.ofNat) (seesR h C r) := by rw [hCe]; exact sees_least g hy (fun k hk => (hmem k).2 hk)
    exact rowsA_inj (least_closed hc hNL hx' hR hS hin)
  have G : holdsB h lv (r.reverse.map Int.ofNat) R = true → RowG h C r := by
    intro hh
    unfold holdsB at hh
    simp only [Bool.and_eq_true] at hh
    obtain ⟨_, _, hr, _⟩ := hh
    unfold rightM at hr
    simp only [Bool.and_eq_true] at hr
    have hin := (inM_iff _ _).1 hr.2.1
    refine ⟨hnd, hlt64, fun k hk j hj => ?_⟩
    have hk64 := hlt64 k hk
    obtain ⟨hj64, hb⟩ := (baseN_bit hk64).1 hj
    rw [← ahead_chain hnd hlt64]
    refine hin j k hj64 hk64 ?_
    rw [baseM_iff h C hy] at hb
    rcases hb with hb | ⟨c0, hb⟩ | ⟨c5, hb⟩
    · exact least_base hx' hR hj64 hk64 (.inl hb)
    · rw [b0, Bool.or_eq_true] at c0
      rcases c0 with c0 | c0
      · exact least_base hx' hR hj64 hk64 (.inr (.inl ⟨c0, hb⟩))
      · exact least_base hx' hR hj64 hk64 (.inr (.inr (.inl ⟨c0, (inM_iff _ _).1 (ses_in_tim hc) j k hj64 hk64 hb⟩)))
    · rw [b5] at c5
      exact least_base hx' hR hj64 hk64 (.inr (.inr (.inl ⟨c5, hb⟩)))
  have RT : RowG h C r → (∀ j k, j < 64 → k < 64 → R j k = (plSee h C r k).testBit j) → (rightTo h (r.reverse.map Int.ofNat) R h.length = true ↔ ∀ k ∈ r, readsP h (aheadL r) (plSee h C r k) k = true) := by
    intro g e
    have e2 : ∀ k ∈ r, (readsOf h k).all (readOk h (r.reverse.map Int.ofNat) R k) = readsP h (aheadL r) (plSee h C r k) k := by
      intro k hk
      rw [← good_right hc g hy hlt hk]
      refine all_congr _ fun x _ => ?_
      unfold readOk
      rw [seeTo_congr (R := R) (S := seesR h C r) e (hlt64 k hk)]
    unfold rightTo
    rw [List.all_eq_true]
    constructor
    · intro q k hk
      rw [← e2 k hk]
      exact q k (List.mem_range.2 (hlt k hk))
    · intro q k hk
      have hk := (hmem k).2 (List.mem_range.1 hk)
      rw [e2 k hk]
      exact q k hk
  have HH : holdsB h lv (r.reverse.map Int.ofNat) R = true → inM R (chainR (r.reverse.map Int.ofNat)) = true := by
    intro hh
    unfold holdsB rightM at hh
    simp only [Bool.and_eq_true] at hh
    exact hh.2.2.1.2.1
  refine ⟨⟨fun hh => ?_, fun ⟨hs, hg⟩ => ?_⟩, fun hh => K (G hh) (HH hh)⟩
  · have g := G hh
    have e := K g (HH hh)
    have hh2 := hh
    unfold holdsB rightM at hh2
    simp only [Bool.and_eq_true] at hh2
    refine ⟨hh2.2.1, fun k hk => ⟨g.base k hk, (RT g e).1 hh2.2.2.1.2.2 k hk⟩⟩
  · have g := good_row hc hnd hlt hg
    have hS := sees_least g hy (fun k hk => (hmem k).2 hk)
    have hin : inM R (chainR (r.reverse.map Int.ofNat)) = true := by
      refine inM_trans (least_mono (y := C) hx' hy (fun k hk => ?_) hR hS) ?_
      · have hk6 : k < 6 := by
          apply Decidable.byContradiction
          intro hge
          have hp : (64 : Nat) ≤ 2 ^ k := by
            have := Nat.pow_le_pow_right (n := 2) (by omega) (show 6 ≤ k by omega)
            omega
          rw [Nat.testBit_lt_two_pow (by omega)] at hk
          cases hk
        have h7 : k = 0 ∨ k = 1 ∨ k = 2 ∨ k = 3 ∨ k = 4 ∨ k = 5 := by omega
        rcases h7 with rfl | rfl | rfl | rfl | rfl | rfl
        · rw [b0, hk]; rfl
        · rw [b1, hk]; rfl
        · rw [b2, hk]; rfl
        · rw [b3, hk]; rfl
        · rw [b4, hk]
        · rw [b5, hk]
      · rw [inM_iff]
        intro j k _ _ hs
        rw [ahead_chain hnd hlt64]
        exact sees_ahead g.lt g.nd g.base hs
    have e := K g hin
    unfold holdsB rightM
    rw [hlv, hs, hrow, hin, (RT g e).2 fun k hk => (hg k hk).2, least_kept hx hR]; rfl
end
end Go.Proofs.YtecpeegbfeijaaaGreatDoor

namespace Go.Proofs.YtecpeegbfeijaaaGreatDoor
set_option maxRecDepth 100000
open Go.RowKit

section
variable {W : World} {S B b : Nat} {h : List TxnV} {C : Nat} {r : List Nat} {vb vr : Value} {aF sF : Nat → Nat} {w : World}
theorem PlIs.row (p : PlIs W S B b h C r vb vr aF sF w) : Ints w vr (r.reverse.map Int.ofNat) := by
  have h1 := Row.of_owns p.rw
  unfold Ints
  rw [List.map_map]
  have : (Value.int IntKind.i64 ∘ Int.ofNat) = fun i : Nat => Value.int .i64 (i : Int) := rfl
  rw [this, List.length_map, List.length_reverse]
  exact h1
theorem PlIs.form (p : PlIs W S B b h C r vb vr aF sF w) : ∃ ao cap, vr = .slice ao r.length cap := by
  obtain ⟨ao, cap, e, _⟩ := p.row.form
  rw [List.length_map, List.length_reverse] at e
  exact ⟨ao, cap, e⟩
theorem nodup_len : ∀ (n : Nat) (l : List Nat), l.Nodup → (∀ k ∈ l, k < n) → l.length ≤ n
  | 0, [], _, _ => Nat.le_refl _
  | 0, k :: l, _, h => absurd (h k (List.mem_cons_self ..)) (by omega)
  | n + 1, l, hn, h => by
    by_cases hm : n ∈ l
    · have h1 := nodup_len n (l.erase n) (hn.erase n) (fun k hk => by
        have := (hn.mem_erase_iff).1 hk
        have := h k this.2
        omega)
      have h2 := List.length_erase_of_mem hm
      have h3 := List.length_pos_of_mem hm
      omega
    · have := nodup_len n l hn (fun k hk => by
        have := h k hk
        have : k ≠ n := fun e => hm (by rw [← e]; exact hk)
        omega)
      omega
theorem PlIs.len (p : PlIs W S B b h C r vb vr aF sF w) : r.length ≤ h.length := nodup_len _ _ p.nd p.lt
end
end Go.Proofs.YtecpeegbfeijaaaGreatDoor

namespace Go.Proofs.YtecpeegbfeijaaaGreatDoor
set_option maxRecDepth 100000
open Go.RowKit

/-- One more pair, where it may be. -/
def putM (m : List Pr) (a b : Int) : List Pr := if (mayB a && mayB b) = true then putP m a b else m
theorem rep_add {V : Mat} {m : List Pr} (h : Rep V m) (a b : Int) : Rep (addM V a b) (putM m a b) := by
  unfold putM
  cases hab : (mayB a && mayB b) with
  | false =>
    rw [if_neg (by decide)]
    have e : addM V a b = V := by
      unfold addM
      rw [if_neg]
      rintro ⟨h1, h2⟩
      rw [h1, h2] at hab; cases hab
    rw [e]; exact h
  | true =>
    rw [if_pos rfl]
    rw [Bool.and_eq_true] at hab
    have h1 := (mayB_iff a).1 hab.1
    have h2 := (mayB_iff b).1 hab.2
    refine ⟨putP_nodup h.1, fun c d => ?_⟩
    rw [mem_putP, h.2]
    constructor
    · rintro (⟨i, j, hi, hj, rfl, rfl, hv⟩ | e)
      · exact ⟨i, j, hi, hj, rfl, rfl, (addM_iff V a b i j hi hj).2 (.inl hv)⟩
      · have e1 : c = a := congrArg Prod.fst e
        have e2 : d = b := congrArg Prod.snd e
        subst e1; subst e2
        exact ⟨c.toNat, d.toNat, by omega, by omega, by omega, by omega, (addM_iff V c d _ _ (by omega) (by omega)).2 (.inr ⟨by omega, by omega⟩)⟩
    · rintro ⟨i, j, hi, hj, rfl, rfl, hv⟩
      rcases (addM_iff V a b i j hi hj).1 hv with hv | ⟨e1, e2⟩
      · exact .inl ⟨i, j, hi, hj, rfl, rfl, hv⟩
      · exact .inr (by rw [e1, e2])
theorem prV_int {l : List Pr} {u : Value} (h : u ∈ prV l) : ∃ x : Int, u = .int .i64 x := by
  unfold prV at h
  obtain ⟨p, _, hp⟩ := List.mem_flatMap.1 h
  simp at hp
  rcases hp with rfl | rfl
  · exact ⟨_, rfl⟩
  · exact ⟨_, rfl⟩
theorem rowsA_u64 (V : Mat) {i : Nat} {u : Value} (h : (rowsA V)[i]? = some u) : ∃ n : Int, u = .int .u64 n := by
  have hi : i < 64 := by
    have := (Array.getElem?_eq_some_iff.1 h).1
    rwa [rowsA_size] at this
  rw [rowsA_at V hi] at h
  cases h
  exact ⟨_, rfl⟩
/-- A relation that is changed leaves pairs as they are. -/
theorem Prs.apart {w w' : World} {v : Value} {l : List Pr} {g : Nat} {V : Mat} (h : Prs w v l) (hV : RelAt w g 97 V) (hg : w.grownBy w' (some g)) : Prs w' v l := by
  obtain ⟨hl, ao, cap, rfl, hm, hno, hc⟩ := h
  refine ⟨hl, ao, cap, rfl, hm, hno, fun hn => ?_⟩
  obtain ⟨b, off, rfl, hcell⟩ := hc hn
  refine ⟨b, off, rfl, fun i hi => ?_⟩
  have h2 := hcell i hi
  rw [List.getElem?_eq_getElem (by omega)] at h2 ⊢
  refine hg.cell h2 (fun e => ?_)
  obtain rfl : b = g := by simpa using e
  obtain ⟨x, hx⟩ := prV_int (List.getElem_mem (show i < (prV l).length by omega))
  rw [cell_of_row w b (off + i) _ _ _ hV] at h2
  obtain ⟨n, hn2⟩ := rowsA_u64 V h2
  rw [hx] at hn2; cases hn2
/-- What lies there while pairs are put in. -/
structure Vis (B : Nat) (pv pl : Nat) (V : Mat) (m : List Pr) (w0 w : World) : Prop where
  rel : RelAt w pv 97 V
  box : ∃ vm, At w pl (.cells #[vm] 124) ∧ Prs w vm m
  rep : Rep V m
  below : Below B w0 w
theorem Vis.mono {B pv pl : Nat} {V : Mat} {m : List Pr} {w0 w w' : World} (h : Vis B pv pl V m w0 w) (hb : Below w.heap.size w w') (hB : B ≤ w.heap.size) : Vis B pv pl V m w0 w' := by
  obtain ⟨h1, ⟨vm, h2, h3⟩, h4, h5⟩ := h
  exact ⟨h1.below hb h1.lt, ⟨vm, h2.below hb, h3.below hb⟩, h4, h5.trans (hb.mono hB)⟩
end Go.Proofs.YtecpeegbfeijaaaGreatDoor

namespace Go.Proofs.YtecpeegbfeijaaaGreatDoor
set_option maxRecDepth 100000
open Go.RowKit

/-- The slice v holds slices, of which each holds these ints. -/
def Lists (w : World) (v : Value) (LL : List (List Int)) : Prop := ∃ sv : List Value, Row w v LL.length 1 sv ∧ ∀ (k : Nat) (hk : k < LL.length), ∃ u, sv[k]? = some u ∧ Ints w u LL[k]
theorem Lists.below {w w' : World} {v : Value} {LL : List (List Int)} (h : Lists w v LL) (hb : Below w.heap.size w w') : Lists w' v LL := by
  obtain ⟨sv, h1, h2⟩ := h
  exact ⟨sv, h1.below hb, fun k hk => by obtain ⟨u, hu, hi⟩ := h2 k hk; exact ⟨u, hu, hi.below hb⟩⟩
theorem Lists.form {w : World} {v : Value} {LL : List (List Int)} (h : Lists w v LL) : ∃ ao cap, v = .slice ao LL.length cap ∧ LL.length ≤ 9223372036854775807 := by
  obtain ⟨sv, ⟨_, ao, cap, rfl, hm, _, _⟩, _⟩ := h
  exact ⟨ao, cap, rfl, Nat.le_trans hm.1 hm.2⟩
theorem Lists.at {w : World} {ao : Option Addr} {n cap : Nat} {LL : List (List Int)} (h : Lists w (.slice ao n cap) LL) {k : Nat} (hk : k < LL.length) :
    ∃ b off u, ao = some ⟨b, off, none⟩ ∧ w.cell? ⟨b, off + k, none⟩ = some u ∧ Ints w u LL[k] := by
  obtain ⟨sv, ⟨_, ao', cap', he, _, _, hc⟩, h2⟩ := h
  cases he
  obtain ⟨b, off, e, hcell⟩ := hc (by omega)
  obtain ⟨u, hu, hi⟩ := h2 k hk
  exact ⟨b, off, u, e, by rw [hcell k (by omega), hu], hi⟩
/-- Pairs of lists: whom each sees. -/
def insP (o : List Pr) (i : Int) (l : List Int) : List Pr := l.foldl (fun o a => putP o a i) o
theorem insP_succ (o : List Pr) (i : Int) (l : List Int) (k : Nat) (hk : k < l.length) : insP o i (l.take (k + 1)) = putP (insP o i (l.take k)) l[k] i := by
  unfold insP
  rw [List.take_succ_eq_append_getElem hk, List.foldl_append]; rfl
theorem mem_insP {i : Int} {p : Pr} : ∀ (l : List Int) (o : List Pr), p ∈ insP o i l ↔ p ∈ o ∨ ∃ a ∈ l, p = (a, i)
  | [], o => by simp [insP]
  | a :: l, o => by
    have e : insP o i (a :: l) = insP (putP o a i) i l := rfl
    rw [e, mem_insP l, mem_putP, or_assoc]
    apply or_congr Iff.rfl
    constructor
    · rintro (h | ⟨b, hb, h⟩)
      · exact ⟨a, List.mem_cons_self, h⟩
      · exact ⟨b, List.mem_cons_of_mem _ hb, h⟩
    · rintro ⟨b, hb, h⟩
      rcases List.mem_cons.1 hb with rfl | hb
      · exact .inl h
      · exact .inr ⟨b, hb, h⟩
def pairsL (LL : List (List Int)) : Nat → List Pr
  | 0 => []
  | k + 1 => insP (pairsL LL k) (k : Int) (LL.getD k [])
theorem mem_pairsL {LL : List (List Int)} {p : Pr} : ∀ k, p ∈ pairsL LL k ↔ ∃ i : Nat, i < k ∧ ∃ a ∈ LL.getD i [], p = (a, (i : Int))
  | 0 => by simp [pairsL]
  | k + 1 => by
    unfold pairsL
    rw [mem_insP, mem_pairsL k]
    constructor
    · rintro (⟨i, hi, h⟩ | ⟨a, ha, h⟩)
      · exact ⟨i, by omega, h⟩
      · exact ⟨k, by omega, a, ha, h⟩
    · rintro ⟨i, hi, h⟩
      by_cases e : i = k
      · subst e; exact .inr h
      · exact .inl ⟨i, by omega, h⟩
def okRow (n : Nat) (l : List Int) : Bool := l.all fun a => decide (0 ≤ a) && decide (a < (n : Int))
def okL (n : Nat) (LL : List (List Int)) : Bool := decide (LL.length = n) && LL.all (okRow n)
theorem rep_none : Rep noR [] := ⟨List.nodup_nil, fun a b => by simp [noR]⟩
theorem rep_put {V : Mat} {m : List Pr} (h : Rep V m) {a b : Int} (ha : 0 ≤ a ∧ a < 64) (hb : 0 ≤ b ∧ b < 64) : Rep (addM V a b) (putP m a b) := by
  have := rep_add h a b
  unfold putM at this
  rwa [(mayB_iff a).2 ha, (mayB_iff b).2 hb, if_pos (by rfl)] at this
/-- A relation that is changed leaves ints as they are. -/
theorem Ints.relApart {w w' : World} {v : Value} {l : List Int} {g : Nat} {V : Mat} (h : Ints w v l) (hV : RelAt w g 97 V) (hg : w.grownBy w' (some g)) : Ints w' v l := by
  obtain ⟨hl, ao, cap, rfl, hm, hno, hc⟩ := h
  refine ⟨hl, ao, cap, rfl, hm, hno, fun hn => ?_⟩
  obtain ⟨b, off, rfl, hcell⟩ := hc hn
  refine ⟨b, off, rfl, fun i hi => ?_⟩
  have h2 := hcell i hi
  rw [List.getElem?_eq_getElem (by omega)] at h2 ⊢
  refine hg.cell h2 (fun e => ?_)
  obtain rfl : b = g := by simpa using e
  rw [List.getElem_map, cell_of_row w b (off + i) _ _ _ hV] at h2
  obtain ⟨n, hn2⟩ := rowsA_u64 V h2
  cases hn2
theorem results_rel2 {fn : Func} {p u : Tmp} (h : fn.results = #[.cell p 97, .tmp u]) (tmps : Array Value) (w : World) (g : Nat) (R : Mat)
    (hp : tmps.getD p undef = .pointer (some ⟨g, 0, none⟩)) (hg : RelAt w g 97 R) : (results fn tmps).run Tryz.prog w = .ok (.tuple #[.agg (rowsA R), tmps.getD u undef]) w := by
  have hp' : tmps[p]?.getD undef = .pointer (some ⟨g, 0, none⟩) := by simpa using hp
  simp [results, h, hp', asAddr, run_loadVar_row w g _ 97 (rowsA R) _ _ hg Tryz.underlying97 rfl (infoRel' _)]
set_option maxRecDepth 100000 in
set_option maxHeartbeats 16000000 in
theorem arelation_any (n : Nat) (hn : n ≤ 64) (vs : Value) (LL : List (List Int)) (w : World) (hL : Lists w vs LL) :
    Calls Tryz.prog 72 #[.int .i64 n, vs] w fun e w' => (∃ R, e = .returned (.tuple #[.agg (rowsA R), .bool (okL n LL)]) ∧ (okL n LL = true → Rep R (pairsL LL n))) ∧ Below w.heap.size w w' := by
  obtain ⟨ao, cap, rfl, hll⟩ := hL.form
  have HL := Lib.hid (fun wx (hx : Below w.heap.size w wx) => hL.below hx)
  have HR : Hid (okL n LL = (decide (LL.length = n) && LL.all (okRow n))) := Lib.hid rfl
  clear hL
  go_enter Tryz.func72, Tryz.ntmps72
  by_cases hne : LL.length = n
  rotate_left
  · have h0 := (zero_block w).alloc (.cells #[.int .u64 0, .int .u64 0, .int .u64 0, .int .u64 0, .int .u64 0, .int .u64 0, .int .u64 0, .int .u64 0, .int .u64 0, .int .u64 0, .int .u64 0, .int .u64 0, .int .u64 0, .int .u64 0, .int .u64 0, .int .u64 0, .int .u64 0, .int .u64 0, .int .u64 0, .int .u64 0, .int .u64 0, .int .u64 0, .int .u64 0, .int .u64 0, .int .u64 0, .int .u64 0, .int .u64 0, .int .u64 0, .int .u64 0, .int .u64 0, .int .u64 0, .int .u64 0, .int .u64 0, .int .u64 0, .int .u64 0, .int .u64 0, .int .u64 0, .int .u64 0, .int .u64 0, .int .u64 0, .int .u64 0, .int .u64 0, .int .u64 0, .int .u64 0, .int .u64 0, .int .u64 0, .int .u64 0, .int .u64 0, .int .u64 0, .int .u64 0, .int .u64 0, .int .u64 0, .int .u64 0, .int .u64 0, .int .u64 0, .int .u64 0, .int .u64 0, .int .u64 0, .int .u64 0, .int .u64 0, .int .u64 0, .int .u64 0, .int .u64 0, .int .u64 0] 97)
    have h1 := zero_block (w.alloc (.cells #[.int .u64 0, .int .u64 0, .int .u64 0, .int .u64 0, .int .u64 0, .int .u64 0, .int .u64 0, .int .u64 0, .int .u64 0, .int .u64 0, .int .u64 0, .int .u64 0, .int .u64 0, .int .u64 0, .int .u64 0, .int .u64 0, .int .u64 0, .int .u64 0, .int .u64 0, .int .u64 0, .int .u64 0, .int .u64 0, .int .u64 0, .int .u64 0, .int .u64 0, .int .u64 0, .int .u64 0, .int .u64 0, .int .u64 0, .int .u64 0, .int .u64 0, .int .u64 0, .int .u64 0, .int .u64 0, .int .u64 0, .int .u64 0, .int .u64 0, .int .u64 0, .int .u64 0, .int .u64 0, .int .u64 0, .int .u64 0, .int .u64 0, .int .u64 0, .int .u64 0, .int .u64 0, .int .u64 0, .int .u64 0, .int .u64 0, .int .u64 0, .int .u64 0, .int .u64 0, .int .u64 0, .int .u64 0, .int .u64 0, .int .u64 0, .int .u64 0, .int .u64 0, .int .u64 0, .int .u64 0, .int .u64 0, .int .u64 0, .int .u64 0, .int .u64 0] 97))
    have hb := ((Below.refl w.heap.size w).alloc (Nat.le_refl _) (.cells #[.int .u64 0, .int .u64 0, .int .u64 0, .int .u64 0, .int .u64 0, .int .u64 0, .int .u64 0, .int .u64 0, .int .u64 0, .int .u64 0, .int .u64 0, .int .u64 0, .int .u64 0, .int .u64 0, .int .u64 0, .int .u64 0, .int .u64 0, .int .u64 0, .int .u64 0, .int .u64 0, .int .u64 0, .int .u64 0, .int .u64 0, .int .u64 0, .int .u64 0, .int .u64 0, .int .u64 0, .int .u64 0, .int .u64 0, .int .u64 0, .int .u64 0, .int .u64 0, .int .u64 0, .int .u64 0, .int .u64 0, .int .u64 0, .int .u64 0, .int .u64 0, .int .u64 0, .int .u64 0, .int .u64 0, .int .u64 0, .int .u64 0, .int .u64 0, .int .u64 0, .int .u64 0, .int .u64 0, .int .u64 0, .int .u64 0, .int .u64 0, .int .u64 0, .int .u64 0, .int .u64 0, .int .u64 0, .int .u64 0, .int .u64 0, .int .u64 0, .int .u64 0, .int .u64 0, .int .u64 0, .int .u64 0, .int .u64 0, .int .u64 0, .int .u64 0] 97)).alloc (by simp) (.cells #[.int .u64 0, .int .u64 0, .int .u64 0, .int .u64 0, .int .u64 0, .int .u64 0, .int .u64 0, .int .u64 0, .int .u64 0, .int .u64 0, .int .u64 0, .int .u64 0, .int .u64 0, .int .u64 0, .int .u64 0, .int .u64 0, .int .u64 0, .int .u64 0, .int .u64 0, .int .u64 0, .int .u64 0, .int .u64 0, .int .u64 0, .int .u64 0, .int .u64 0, .int .u64 0, .int .u64 0, .int .u64 0, .int .u64 0, .int .u64 0, .int .u64 0, .int .u64 0, .int .u64 0, .int .u64 0, .int .u64 0, .int .u64 0, .int .u64 0, .int .u64 0, .int .u64 0, .int .u64 0, .int .u64 0, .int .u64 0, .int .u64 0, .int .u64 0, .int .u64 0, .int .u64 0, .int .u64 0, .int .u64 0, .int .u64 0, .int .u64 0, .int .u64 0, .int .u64 0, .int .u64 0, .int .u64 0, .int .u64 0, .int .u64 0, .int .u64 0, .int .u64 0, .int .u64 0, .int .u64 0, .int .u64 0, .int .u64 0, .int .u64 0, .int .u64 0] 97)
    have hsz : (w.alloc (.cells #[.int .u64 0, .int .u64 0, .int .u64 0, .int .u64 0, .int .u64 0, .int .u64 0, .int .u64 0, .int .u64 0, .int .u64 0, .int .u64 0, .int .u64 0, .int .u64 0, .int .u64 0, .int .u64 0, .int .u64 0, .int .u64 0, .int .u64 0, .int .u64 0, .int .u64 0, .int .u64 0, .int .u64 0, .int .u64 0, .int .u64 0, .int .u64 0, .int .u64 0, .int .u64 0, .int .u64 0, .int .u64 0, .int .u64 0, .int .u64 0, .int .u64 0, .int .u64 0, .int .u64 0, .int .u64 0, .int .u64 0, .int .u64 0, .int .u64 0, .int .u64 0, .int .u64 0, .int .u64 0, .int .u64 0, .int .u64 0, .int .u64 0, .int .u64 0, .int .u64 0, .int .u64 0, .int .u64 0, .int .u64 0, .int .u64 0, .int .u64 0, .int .u64 0, .int .u64 0, .int .u64 0, .int .u64 0, .int .u64 0, .int .u64 0, .int .u64 0, .int .u64 0, .int .u64 0, .int .u64 0, .int .u64 0, .int .u64 0, .int .u64 0, .int .u64 0] 97)).heap.size = w.heap.size + 1 := by simp
    rw [hsz] at h1
    have hnb : ((LL.length : Int) != (n : Int)) = true := by rw [bne_iff_ne]; omega
    have hnq : ¬ (LL.length : Int) = (n : Int) := by omega
    have HV : Hid (okL n LL = false) := Lib.hid (by rw [HR.out, decide_eq_false hne]; rfl)
    clear HR hne
    go_upto_region 2 with fail
    generalize (w.alloc (.cells #[.int .u64 0, .int .u64 0, .int .u64 0, .int .u64 0, .int .u64 0, .int .u64 0, .int .u64 0, .int .u64 0, .int .u64 0, .int .u64 0, .int .u64 0, .int .u64 0, .int .u64 0, .int .u64 0, .int .u64 0, .int .u64 0, .int .u64 0, .int .u64 0, .int .u64 0, .int .u64 0, .int .u64 0, .int .u64 0, .int .u64 0, .int .u64 0, .int .u64 0, .int .u64 0, .int .u64 0, .int .u64 0, .int .u64 0, .int .u64 0, .int .u64 0, .int .u64 0, .int .u64 0, .int .u64 0, .int .u64 0, .int .u64 0, .int .u64 0, .int .u64 0, .int .u64 0, .int .u64 0, .int .u64 0, .int .u64 0, .int .u64 0, .int .u64 0, .int .u64 0, .int .u64 0, .int .u64 0, .int .u64 0, .int .u64 0, .int .u64 0, .int .u64 0, .int .u64 0, .int .u64 0, .int .u64 0, .int .u64 0, .int .u64 0, .int .u64 0, .int .u64 0, .int .u64 0, .int .u64 0, .int .u64 0, .int .u64 0, .int .u64 0, .int .u64 0] 97)).alloc (.cells #[.int .u64 0, .int .u64 0, .int .u64 0, .int .u64 0, .int .u64 0, .int .u64 0, .int .u64 0, .int .u64 0, .int .u64 0, .int .u64 0, .int .u64 0, .int .u64 0, .int .u64 0, .int .u64 0, .int .u64 0, .int .u64 0, .int .u64 0, .int .u64 0, .int .u64 0, .int .u64 0, .int .u64 0, .int .u64 0, .int .u64 0, .int .u64 0, .int .u64 0, .int .u64 0, .int .u64 0, .int .u64 0, .int .u64 0, .int .u64 0, .int .u64 0, .int .u64 0, .int .u64 0, .int .u64 0, .int .u64 0, .int .u64 0, .int .u64 0, .int .u64 0, .int .u64 0, .int .u64 0, .int .u64 0, .int .u64 0, .int .u64 0, .int .u64 0, .int .u64 0, .int .u64 0, .int .u64 0, .int .u64 0, .int .u64 0, .int .u64 0, .int .u64 0, .int .u64 0, .int .u64 0, .int .u64 0, .int .u64 0, .int .u64 0, .int .u64 0, .int .u64 0, .int .u64 0, .int .u64 0, .int .u64 0, .int .u64 0, .int .u64 0, .int .u64 0] 97) = w1 at *
    clear hsz
    go_wp2_with (first
        | (with_reducible refine wpList_load_rel h1 rfl _ rfl rfl ?_)
        | (with_reducible refine wpList_store_rel h0 noR rfl _ _ rfl rfl rfl ?_))
    have h3 := h0.setRow noR
    exact bodyPost_ret (results_rel2 rfl _ _ _ _ rfl h3) rfl ⟨⟨noR, by rw [HV.out]; rfl, fun h => by rw [HV.out] at h; cases h⟩, below_setRow hb (by omega) _⟩
  have hnb : ((LL.length : Int) != (n : Int)) = false := by rw [bne_eq_false_iff_eq]; omega
  have hnq : (LL.length : Int) = (n : Int) := by omega
  rw [decide_eq_true hne, Bool.true_and] at HR
  have HNE := Lib.hid hne
  have HZ0 : Hid (#[.int .u64 0, .int .u64 0, .int .u64 0, .int .u64 0, .int .u64 0, .int .u64 0, .int .u64 0, .int .u64 0, .int .u64 0, .int .u64 0, .int .u64 0, .int .u64 0, .int .u64 0, .int .u64 0, .int .u64 0, .int .u64 0, .int .u64 0, .int .u64 0, .int .u64 0, .int .u64 0, .int .u64 0, .int .u64 0, .int .u64 0, .int .u64 0, .int .u64 0, .int .u64 0, .int .u64 0, .int .u64 0, .int .u64 0, .int .u64 0, .int .u64 0, .int .u64 0, .int .u64 0, .int .u64 0, .int .u64 0, .int .u64 0, .int .u64 0, .int .u64 0, .int .u64 0, .int .u64 0, .int .u64 0, .int .u64 0, .int .u64 0, .int .u64 0, .int .u64 0, .int .u64 0, .int .u64 0, .int .u64 0, .int .u64 0, .int .u64 0, .int .u64 0, .int .u64 0, .int .u64 0, .int .u64 0, .int .u64 0, .int .u64 0, .int .u64 0, .int .u64 0, .int .u64 0, .int .u64 0, .int .u64 0, .int .u64 0, .int .u64 0, .int .u64 0] = rowsA noR) := Lib.hid (by rw [rowsA_none]; rfl)
  clear hne
  have h0 := (zero_block w).alloc (.cells #[.int .u64 0, .int .u64 0, .int .u64 0, .int .u64 0, .int .u64 0, .int .u64 0, .int .u64 0, .int .u64 0, .int .u64 0, .int .u64 0, .int .u64 0, .int .u64 0, .int .u64 0, .int .u64 0, .int .u64 0, .int .u64 0, .int .u64 0, .int .u64 0, .int .u64 0, .int .u64 0, .int .u64 0, .int .u64 0, .int .u64 0, .int .u64 0, .int .u64 0, .int .u64 0, .int .u64 0, .int .u64 0, .int .u64 0, .int .u64 0, .int .u64 0, .int .u64 0, .int .u64 0, .int .u64 0, .int .u64 0, .int .u64 0, .int .u64 0, .int .u64 0, .int .u64 0, .int .u64 0, .int .u64 0, .int .u64 0, .int .u64 0, .int .u64 0, .int .u64 0, .int .u64 0, .int .u64 0, .int .u64 0, .int .u64 0, .int .u64 0, .int .u64 0, .int .u64 0, .int .u64 0, .int .u64 0, .int .u64 0, .int .u64 0, .int .u64 0, .int .u64 0, .int .u64 0, .int .u64 0, .int .u64 0, .int .u64 0, .int .u64 0, .int .u64 0] 97)
  have h1 := zero_block (w.alloc (.cells #[.int .u64 0, .int .u64 0, .int .u64 0, .int .u64 0, .int .u64 0, .int .u64 0, .int .u64 0, .int .u64 0, .int .u64 0, .int .u64 0, .int .u64 0, .int .u64 0, .int .u64 0, .int .u64 0, .int .u64 0, .int .u64 0, .int .u64 0, .int .u64 0, .int .u64 0, .int .u64 0, .int .u64 0, .int .u64 0, .int .u64 0, .int .u64 0, .int .u64 0, .int .u64 0, .int .u64 0, .int .u64 0, .int .u64 0, .int .u64 0, .int .u64 0, .int .u64 0, .int .u64 0, .int .u64 0, .int .u64 0, .int .u64 0, .int .u64 0, .int .u64 0, .int .u64 0, .int .u64 0, .int .u64 0, .int .u64 0, .int .u64 0, .int .u64 0, .int .u64 0, .int .u64 0, .int .u64 0, .int .u64 0, .int .u64 0, .int .u64 0, .int .u64 0, .int .u64 0, .int .u64 0, .int .u64 0, .int .u64 0, .int .u64 0, .int .u64 0, .int .u64 0, .int .u64 0, .int .u64 0, .int .u64 0, .int .u64 0, .int .u64 0, .int .u64 0] 97))
  have hb := ((Below.refl w.heap.size w).alloc (Nat.le_refl _) (.cells #[.int .u64 0, .int .u64 0, .int .u64 0, .int .u64 0, .int .u64 0, .int .u64 0, .int .u64 0, .int .u64 0, .int .u64 0, .int .u64 0, .int .u64 0, .int .u64 0, .int .u64 0, .int .u64 0, .int .u64 0, .int .u64 0, .int .u64 0, .int .u64 0, .int .u64 0, .int .u64 0, .int .u64 0, .int .u64 0, .int .u64 0, .int .u64 0, .int .u64 0, .int .u64 0, .int .u64 0, .int .u64 0, .int .u64 0, .int .u64 0, .int .u64 0, .int .u64 0, .int .u64 0, .int .u64 0, .int .u64 0, .int .u64 0, .int .u64 0, .int .u64 0, .int .u64 0, .int .u64 0, .int .u64 0, .int .u64 0, .int .u64 0, .int .u64 0, .int .u64 0, .int .u64 0, .int .u64 0, .int .u64 0, .int .u64 0, .int .u64 0, .int .u64 0, .int .u64 0, .int .u64 0, .int .u64 0, .int .u64 0, .int .u64 0, .int .u64 0, .int .u64 0, .int .u64 0, .int .u64 0, .int .u64 0, .int .u64 0, .int .u64 0, .int .u64 0] 97)).alloc (by simp) (.cells #[.int .u64 0, .int .u64 0, .int .u64 0, .int .u64 0, .int .u64 0, .int .u64 0, .int .u64 0, .int .u64 0, .int .u64 0, .int .u64 0, .int .u64 0, .int .u64 0, .int .u64 0, .int .u64 0, .int .u64 0, .int .u64 0, .int .u64 0, .int .u64 0, .int .u64 0, .int .u64 0, .int .u64 0, .int .u64 0, .int .u64 0, .int .u64 0, .int .u64 0, .int .u64 0, .int .u64 0, .int .u64 0, .int .u64 0, .int .u64 0, .int .u64 0, .int .u64 0, .int .u64 0, .int .u64 0, .int .u64 0, .int .u64 0, .int .u64 0, .int .u64 0, .int .u64 0, .int .u64 0, .int .u64 0, .int .u64 0, .int .u64 0, .int .u64 0, .int .u64 0, .int .u64 0, .int .u64 0, .int .u64 0, .int .u64 0, .int .u64 0, .int .u64 0, .int .u64 0, .int .u64 0, .int .u64 0, .int .u64 0, .int .u64 0, .int .u64 0, .int .u64 0, .int .u64 0, .int .u64 0, .int .u64 0, .int .u64 0, .int .u64 0, .int .u64 0] 97)
  have hsz : (w.alloc (.cells #[.int .u64 0, .int .u64 0, .int .u64 0, .int .u64 0, .int .u64 0, .int .u64 0, .int .u64 0, .int .u64 0, .int .u64 0, .int .u64 0, .int .u64 0, .int .u64 0, .int .u64 0, .int .u64 0, .int .u64 0, .int .u64 0, .int .u64 0, .int .u64 0, .int .u64 0, .int .u64 0, .int .u64 0, .int .u64 0, .int .u64 0, .int .u64 0, .int .u64 0, .int .u64 0, .int .u64 0, .int .u64 0, .int .u64 0, .int .u64 0, .int .u64 0, .int .u64 0, .int .u64 0, .int .u64 0, .int .u64 0, .int .u64 0, .int .u64 0, .int .u64 0, .int .u64 0, .int .u64 0, .int .u64 0, .int .u64 0, .int .u64 0, .int .u64 0, .int .u64 0, .int .u64 0, .int .u64 0, .int .u64 0, .int .u64 0, .int .u64 0, .int .u64 0, .int .u64 0, .int .u64 0, .int .u64 0, .int .u64 0, .int .u64 0, .int .u64 0, .int .u64 0, .int .u64 0, .int .u64 0, .int .u64 0, .int .u64 0, .int .u64 0, .int .u64 0] 97)).heap.size = w.heap.size + 1 := by simp
  rw [hsz] at h1
  go_wp2_with fail
  generalize (w.alloc (.cells #[.int .u64 0, .int .u64 0, .int .u64 0, .int .u64 0, .int .u64 0, .int .u64 0, .int .u64 0, .int .u64 0, .int .u64 0, .int .u64 0, .int .u64 0, .int .u64 0, .int .u64 0, .int .u64 0, .int .u64 0, .int .u64 0, .int .u64 0, .int .u64 0, .int .u64 0, .int .u64 0, .int .u64 0, .int .u64 0, .int .u64 0, .int .u64 0, .int .u64 0, .int .u64 0, .int .u64 0, .int .u64 0, .int .u64 0, .int .u64 0, .int .u64 0, .int .u64 0, .int .u64 0, .int .u64 0, .int .u64 0, .int .u64 0, .int .u64 0, .int .u64 0, .int .u64 0, .int .u64 0, .int .u64 0, .int .u64 0, .int .u64 0, .int .u64 0, .int .u64 0, .int .u64 0, .int .u64 0, .int .u64 0, .int .u64 0, .int .u64 0, .int .u64 0, .int .u64 0, .int .u64 0, .int .u64 0, .int .u64 0, .int .u64 0, .int .u64 0, .int .u64 0, .int .u64 0, .int .u64 0, .int .u64 0, .int .u64 0, .int .u64 0, .int .u64 0] 97)).alloc (.cells #[.int .u64 0, .int .u64 0, .int .u64 0, .int .u64 0, .int .u64 0, .int .u64 0, .int .u64 0, .int .u64 0, .int .u64 0, .int .u64 0, .int .u64 0, .int .u64 0, .int .u64 0, .int .u64 0, .int .u64 0, .int .u64 0, .int .u64 0, .int .u64 0, .int .u64 0, .int .u64 0, .int .u64 0, .int .u64 0, .int .u64 0, .int .u64 0, .int .u64 0, .int .u64 0, .int .u64 0, .int .u64 0, .int .u64 0, .int .u64 0, .int .u64 0, .int .u64 0, .int .u64 0, .int .u64 0, .int .u64 0, .int .u64 0, .int .u64 0, .int .u64 0, .int .u64 0, .int .u64 0, .int .u64 0, .int .u64 0, .int .u64 0, .int .u64 0, .int .u64 0, .int .u64 0, .int .u64 0, .int .u64 0, .int .u64 0, .int .u64 0, .int .u64 0, .int .u64 0, .int .u64 0, .int .u64 0, .int .u64 0, .int .u64 0, .int .u64 0, .int .u64 0, .int .u64 0, .int .u64 0, .int .u64 0, .int .u64 0, .int .u64 0, .int .u64 0] 97) = w1 at *
  clear hsz
  go_loopw [18] (fun iv wr => ∃ (i : Nat) (R : Mat), i ≤ n ∧ iv = .int .i64 i ∧ RelAt wr (w.heap.size + 1) 97 R ∧ RelAt wr w.heap.size 97 noR ∧ Hid (Rep R (pairsL LL i)) ∧ Hid ((LL.take i).all (okRow n) = true) ∧ Below w.heap.size w wr) (fun iv _ => n - (intOf iv).toNat)
  case atStart => exact ⟨0, noR, by omega, rfl, h1, h0, Lib.hid rep_none, Lib.hid rfl, hb⟩
  case round =>
    clear h1 h0 hb
    obtain ⟨i, R, hi, rfl, h1, h0, HP, HA, hb⟩ := hrel
    by_cases hlt : i < n
    · have hii : (i : Int) < (n : Int) := by omega
      have hil : i < LL.length := by have := HNE.out; omega
      have hli : (i : Int) < (LL.length : Int) := by omega
      obtain ⟨g, o, u, hao, c1, hI⟩ := (HL.out _ hb).at hil
      cases hao
      have HYES := Lib.hid (fun hy : okRow n LL[i] = true => show (LL.take (i + 1)).all (okRow n) = true by rw [List.take_succ_eq_append_getElem hil, List.all_append, HA.out]; simp [hy])
      have HNO := Lib.hid (fun hy : okRow n LL[i] = false => show okL n LL = false by rw [HR.out, List.all_eq_false]; exact ⟨_, List.getElem_mem hil, by rw [hy]; decide⟩)
      have HPS : Hid (pairsL LL (i + 1) = insP (pairsL LL i) (i : Int) LL[i]) := Lib.hid (by
        show insP (pairsL LL i) (i : Int) (LL.getD i []) = _
        rw [List.getD_eq_getElem?_getD, List.getElem?_eq_getElem hil]; rfl)
      clear HA
      generalize LL[i] = l at *
      obtain ⟨ro, rcap, rfl, hlm⟩ := hI.form
      have HI := Lib.hid (fun wx (hx : Below wr.heap.size wr wx) => hI.below hx)
      have hbr := Below.refl wr.heap.size wr
      generalize pairsL LL i = P at *
      clear hI
      go_wp2_with fail
      go_loopw [25] (fun kv wx => ∃ (k : Nat) (R : Mat), k ≤ l.length ∧ kv = .int .i64 k ∧ RelAt wx (w.heap.size + 1) 97 R ∧ RelAt wx w.heap.size 97 noR ∧ Hid (Rep R (insP P (i : Int) (l.take k))) ∧ Hid (okRow n (l.take k) = true) ∧ Below w.heap.size w wx ∧ Ints wx (.slice ro l.length rcap) l) (fun kv _ => l.length - (intOf kv).toNat)
      case atStart => exact ⟨0, R, by omega, rfl, h1, h0, HP, Lib.hid rfl, hb, HI.out _ hbr⟩
      case round =>
        clear h1 h0 hb HP c1 HI hbr
        obtain ⟨k, R, hk, rfl, h1, h0, HP, HA, hb, hI⟩ := hrel
        by_cases hlk : k < l.length
        · have hkk : (k : Int) < (l.length : Int) := by omega
          obtain ⟨g2, o2, hao2, e1⟩ := hI.at hlk
          cases hao2
          have HS := Lib.hid (fun (h0 : 0 ≤ l[k]) (h1 : l[k] < (n : Int)) => show okRow n (l.take (k + 1)) = true by
            have := HA.out
            unfold okRow at *
            rw [List.take_succ_eq_append_getElem hlk, List.all_append, this]
            simp [h0, h1])
          have HN := Lib.hid (fun (hb : ¬ (0 ≤ l[k] ∧ l[k] < (n : Int))) => HNO.out (by
            unfold okRow
            rw [List.all_eq_false]
            refine ⟨_, List.getElem_mem hlk, ?_⟩
            simp only [Bool.and_eq_true, decide_eq_true_eq]
            exact hb))
          have HI2 := Lib.hid (insP_succ P (i : Int) l k hlk)
          generalize l[k] = a at *
          have hIg := Lib.hid hI
          by_cases ha0 : a < 0
          · have HV : Hid (okL n LL = false) := Lib.hid (HN.out (by omega))
            clear HS HN HI2 HA HP hI hIg
            have hz0 := HZ0.out
            go_wp2_with (first | (with_reducible refine wpList_store_rel h0 noR rfl _ _ rfl rfl rfl ?_))
            have h3 := h0.setRow noR
            exact bodyPost_ret (results_rel2 rfl _ _ _ _ rfl h3) rfl ⟨⟨noR, by rw [HV.out]; rfl, fun h => by rw [HV.out] at h; cases h⟩, below_setRow hb (by omega) _⟩
          by_cases han : (n : Int) ≤ a
          · have HV : Hid (okL n LL = false) := Lib.hid (HN.out (by omega))
            clear HS HN HI2 HA HP hI hIg
            have hz0 := HZ0.out
            go_wp2_with (first | (with_reducible refine wpList_store_rel h0 noR rfl _ _ rfl rfl rfl ?_))
            have h3 := h0.setRow noR
            exact bodyPost_ret (results_rel2 rfl _ _ _ _ rfl h3) rfl ⟨⟨noR, by rw [HV.out]; rfl, fun h => by rw [HV.out] at h; cases h⟩, below_setRow hb (by omega) _⟩
          have HA2 := Lib.hid (HS.out (by omega) (by omega))
          have HP2 : Hid (Rep (addM R a (i : Int)) (insP P (i : Int) (l.take (k + 1)))) := Lib.hid (by rw [HI2.out]; exact rep_put HP.out (by omega) (by omega))
          have CA := Lib.hid (add_any R _ a (i : Int) _ h1)
          have hni : ¬ (n : Int) ≤ a := han
          clear HS HN HI2 HA HP hI
          go_wp2_with fail
          refine (CA.out).mono ?_
          rintro e w7 ⟨rfl, h17, hg7⟩
          have h07 : RelAt w7 w.heap.size 97 noR := by
            have := hg7.block w.heap.size h0.lt (by simp)
            unfold RelAt at *
            rw [this]
            exact h0
          have hb7 : Below w.heap.size w w7 := hb.grown hg7 hb.size (by simp)
          have hI7 : Ints w7 (.slice (some ⟨g2, o2, none⟩) l.length rcap) l := hIg.out.relApart h1 hg7
          clear CA h1 h0 hb hg7 e1 hIg
          go_wp2_with fail
          go_roundw
          case rel => exact ⟨k + 1, _, by omega, by go_num, h17, h07, HP2, HA2, hb7, hI7⟩
          case measure => simp [intOf]; omega
        · have hkl : k = l.length := by omega
          subst hkl
          have HA2 := Lib.hid (HYES.out (by have := HA.out; rwa [List.take_length] at this))
          have HP2 : Hid (Rep R (pairsL LL (i + 1))) := Lib.hid (by have := HP.out; rw [List.take_length] at this; rw [HPS.out]; exact this)
          clear HP HA HYES HNO HPS hI
          go_wp2_with fail
          go_roundw
          case rel => exact ⟨i + 1, R, by omega, by go_num, h1, h0, HP2, HA2, hb⟩
          case measure => simp [intOf]; omega
    · have hin : i = n := by omega
      subst hin
      have HV : Hid (okL i LL = true) := Lib.hid (by have := HA.out; rw [← HNE.out, List.take_length] at this; rw [HR.out]; rw [← HNE.out]; exact this)
      have hli : ¬ (i : Int) < (LL.length : Int) := by omega
      clear HA HR
      go_wp2_with (first
        | (with_reducible refine wpList_load_rel h1 rfl _ rfl rfl ?_)
        | (with_reducible refine wpList_store_rel h0 R rfl _ _ rfl rfl rfl ?_))
      have h3 := h0.setRow R
      exact bodyPost_ret (results_rel2 rfl _ _ _ _ rfl h3) rfl ⟨⟨R, by rw [HV.out]; rfl, fun _ => HP.out⟩, below_setRow hb (by omega) _⟩
end Go.Proofs.YtecpeegbfeijaaaGreatDoor

namespace Go.Proofs.YtecpeegbfeijaaaGreatDoor
set_option maxRecDepth 100000
open Go.RowKit

theorem least_some (h : List TxnV) (x : Nat) (l : List Int) : ∃ R, LeastIs h x l R :=
  ⟨fun i j => @decide (Must (startM h (x : Int) (chainR l)) (chainR l) (trB x) (pfB x) i j) (Classical.propDecidable _), fun i j _ _ => by simp⟩
/-- What In hands back. -/
def inR (h : List TxnV) (lv : Int) (l : List Int) (R : Mat) : Mat := if holdsB h lv l R = true then R else noR
set_option maxRecDepth 100000 in
set_option maxHeartbeats 16000000 in
theorem bin_any (lv : Int) (va : Value) (l : List Int) (h : List TxnV) (B b : Nat) (w : World) (hO : OrdIs w B b h) (hc : checkI h = 0) (ht : Tab w) (hK : Kinds w) (hl : Ints w va l) :
    Calls Tryz.prog 68 #[.pointer (some ⟨B, 0, none⟩), .int .i64 lv, va] w fun e w' => (∃ R, LeastIs h (askN lv) l R ∧ e = .returned (.tuple #[.agg (rowsA (inR h lv l R)), .bool (holdsB h lv l R)])) ∧ Below w.heap.size w w' := by
  have hg := ht.pos
  have HT : Hid (∀ wx, Below w.heap.size w wx → Tab wx ∧ Kinds wx) := Lib.hid (fun wx hb => ⟨ht.below hb hg, hK.below hb⟩)
  have HO := Lib.hid (fun wx (hx : Below w.heap.size w wx) => hO.below hx)
  have HL := Lib.hid (fun wx (hx : Below w.heap.size w wx) => hl.below hx)
  have HC := Lib.hid hc
  have CA := Lib.hid (fun wx (hx : Below w.heap.size w wx) => arow_any (h.length : Int) _ l wx (HL.out wx hx))
  have CK := Lib.hid (fun wx (hx : Below w.heap.size w wx) => lasks_any lv wx (HT.out wx hx).2)
  have CL := Lib.hid (fun wx (hx : Below w.heap.size w wx) => lof_any ((askN lv : Nat) : Int) _ l h B b wx (HO.out wx hx) HC.out (HT.out wx hx).1 (HL.out wx hx))
  have CH := Lib.hid (fun V wx (hx : Below w.heap.size w wx) => aholds_any lv _ l V h B b wx (HO.out wx hx) HC.out (HT.out wx hx).1 (HT.out wx hx).2 (HL.out wx hx))
  obtain ⟨ao, cap, rfl, hal⟩ := hl.form
  have hb0 := box_below w (.cells #[.int .u64 0, .int .u64 0, .int .u64 0, .int .u64 0, .int .u64 0, .int .u64 0, .int .u64 0, .int .u64 0, .int .u64 0, .int .u64 0, .int .u64 0, .int .u64 0, .int .u64 0, .int .u64 0, .int .u64 0, .int .u64 0, .int .u64 0, .int .u64 0, .int .u64 0, .int .u64 0, .int .u64 0, .int .u64 0, .int .u64 0, .int .u64 0, .int .u64 0, .int .u64 0, .int .u64 0, .int .u64 0, .int .u64 0, .int .u64 0, .int .u64 0, .int .u64 0, .int .u64 0, .int .u64 0, .int .u64 0, .int .u64 0, .int .u64 0, .int .u64 0, .int .u64 0, .int .u64 0, .int .u64 0, .int .u64 0, .int .u64 0, .int .u64 0, .int .u64 0, .int .u64 0, .int .u64 0, .int .u64 0, .int .u64 0, .int .u64 0, .int .u64 0, .int .u64 0, .int .u64 0, .int .u64 0, .int .u64 0, .int .u64 0, .int .u64 0, .int .u64 0, .int .u64 0, .int .u64 0, .int .u64 0, .int .u64 0, .int .u64 0, .int .u64 0] 97)
  have z0 := zero_block w
  have n0 := (HO.out _ hb0).blk.cN
  have hs0 : (w.alloc (.cells #[.int .u64 0, .int .u64 0, .int .u64 0, .int .u64 0, .int .u64 0, .int .u64 0, .int .u64 0, .int .u64 0, .int .u64 0, .int .u64 0, .int .u64 0, .int .u64 0, .int .u64 0, .int .u64 0, .int .u64 0, .int .u64 0, .int .u64 0, .int .u64 0, .int .u64 0, .int .u64 0, .int .u64 0, .int .u64 0, .int .u64 0, .int .u64 0, .int .u64 0, .int .u64 0, .int .u64 0, .int .u64 0, .int .u64 0, .int .u64 0, .int .u64 0, .int .u64 0, .int .u64 0, .int .u64 0, .int .u64 0, .int .u64 0, .int .u64 0, .int .u64 0, .int .u64 0, .int .u64 0, .int .u64 0, .int .u64 0, .int .u64 0, .int .u64 0, .int .u64 0, .int .u64 0, .int .u64 0, .int .u64 0, .int .u64 0, .int .u64 0, .int .u64 0, .int .u64 0, .int .u64 0, .int .u64 0, .int .u64 0, .int .u64 0, .int .u64 0, .int .u64 0, .int .u64 0, .int .u64 0, .int .u64 0, .int .u64 0, .int .u64 0, .int .u64 0] 97)).heap.size = w.heap.size + 1 := by simp
  clear hO hc ht hK hl
  go_enter Tryz.func68, Tryz.ntmps68
  go_upto_region 1 with fail
  generalize w.alloc (.cells #[.int .u64 0, .int .u64 0, .int .u64 0, .int .u64 0, .int .u64 0, .int .u64 0, .int .u64 0, .int .u64 0, .int .u64 0, .int .u64 0, .int .u64 0, .int .u64 0, .int .u64 0, .int .u64 0, .int .u64 0, .int .u64 0, .int .u64 0, .int .u64 0, .int .u64 0, .int .u64 0, .int .u64 0, .int .u64 0, .int .u64 0, .int .u64 0, .int .u64 0, .int .u64 0, .int .u64 0, .int .u64 0, .int .u64 0, .int .u64 0, .int .u64 0, .int .u64 0, .int .u64 0, .int .u64 0, .int .u64 0, .int .u64 0, .int .u64 0, .int .u64 0, .int .u64 0, .int .u64 0, .int .u64 0, .int .u64 0, .int .u64 0, .int .u64 0, .int .u64 0, .int .u64 0, .int .u64 0, .int .u64 0, .int .u64 0, .int .u64 0, .int .u64 0, .int .u64 0, .int .u64 0, .int .u64 0, .int .u64 0, .int .u64 0, .int .u64 0, .int .u64 0, .int .u64 0, .int .u64 0, .int .u64 0, .int .u64 0, .int .u64 0, .int .u64 0] 97) = w1 at *
  cases hrow : rowOkA (h.length : Int) l with
  | false =>
    obtain ⟨R, hR⟩ := least_some h (askN lv) l
    have hF : holdsB h lv l R = false := by unfold holdsB rightM; rw [hrow]; simp
    have HV : Hid (rowsA noR = rowsA (inR h lv l R) ∧ false = holdsB h lv l R) := Lib.hid ⟨by unfold inR; rw [hF]; rfl, hF.symm⟩
    have HR := Lib.hid hR
    rw [hrow] at CA
    clear CK CL CH hF hR hrow
    go_wp2_with fail
    refine (CA.out _ hb0).mono ?_
    rintro e wq ⟨rfl, rfl⟩
    go_wp2_with (with_reducible refine wpList_store_rel z0 noR rfl _ _ rfl rfl rfl ?_)
    have z1 := z0.setRow noR
    exact bodyPost_ret (results_rel2 rfl _ _ _ _ rfl z1) rfl ⟨⟨R, HR.out, by rw [← HV.out.1, ← HV.out.2]; rfl⟩, below_setRow hb0 (Nat.le_refl _) _⟩
  | true =>
    rw [hrow] at CA
    clear hrow
    go_wp2_with fail
    refine (CA.out _ hb0).mono ?_
    rintro e wq ⟨rfl, rfl⟩
    go_wp2_with fail
    refine (CK.out _ hb0).mono ?_
    rintro e wq ⟨rfl, rfl⟩
    go_wp2_with fail
    refine (CL.out _ hb0).mono ?_
    rintro e w2 ⟨⟨R, rfl, hR⟩, h2⟩
    have hb2 := below_then hb0 h2
    have z2 := z0.below h2 z0.lt
    have r2 := zero_block w2
    have hsz := h2.size
    have z2 := z2.alloc (.cells #[.int .u64 0, .int .u64 0, .int .u64 0, .int .u64 0, .int .u64 0, .int .u64 0, .int .u64 0, .int .u64 0, .int .u64 0, .int .u64 0, .int .u64 0, .int .u64 0, .int .u64 0, .int .u64 0, .int .u64 0, .int .u64 0, .int .u64 0, .int .u64 0, .int .u64 0, .int .u64 0, .int .u64 0, .int .u64 0, .int .u64 0, .int .u64 0, .int .u64 0, .int .u64 0, .int .u64 0, .int .u64 0, .int .u64 0, .int .u64 0, .int .u64 0, .int .u64 0, .int .u64 0, .int .u64 0, .int .u64 0, .int .u64 0, .int .u64 0, .int .u64 0, .int .u64 0, .int .u64 0, .int .u64 0, .int .u64 0, .int .u64 0, .int .u64 0, .int .u64 0, .int .u64 0, .int .u64 0, .int .u64 0, .int .u64 0, .int .u64 0, .int .u64 0, .int .u64 0, .int .u64 0, .int .u64 0, .int .u64 0, .int .u64 0, .int .u64 0, .int .u64 0, .int .u64 0, .int .u64 0, .int .u64 0, .int .u64 0, .int .u64 0, .int .u64 0] 97)
    have hb3 := hb2.alloc hb2.size (.cells #[.int .u64 0, .int .u64 0, .int .u64 0, .int .u64 0, .int .u64 0, .int .u64 0, .int .u64 0, .int .u64 0, .int .u64 0, .int .u64 0, .int .u64 0, .int .u64 0, .int .u64 0, .int .u64 0, .int .u64 0, .int .u64 0, .int .u64 0, .int .u64 0, .int .u64 0, .int .u64 0, .int .u64 0, .int .u64 0, .int .u64 0, .int .u64 0, .int .u64 0, .int .u64 0, .int .u64 0, .int .u64 0, .int .u64 0, .int .u64 0, .int .u64 0, .int .u64 0, .int .u64 0, .int .u64 0, .int .u64 0, .int .u64 0, .int .u64 0, .int .u64 0, .int .u64 0, .int .u64 0, .int .u64 0, .int .u64 0, .int .u64 0, .int .u64 0, .int .u64 0, .int .u64 0, .int .u64 0, .int .u64 0, .int .u64 0, .int .u64 0, .int .u64 0, .int .u64 0, .int .u64 0, .int .u64 0, .int .u64 0, .int .u64 0, .int .u64 0, .int .u64 0, .int .u64 0, .int .u64 0, .int .u64 0, .int .u64 0, .int .u64 0, .int .u64 0] 97)
    have hne : w.heap.size < w2.heap.size := by have := z0.lt; omega
    clear CA CK CL hb0 h2 hb2 z0 n0 hs0
    go_upto_region 4 with (with_reducible refine wpList_store_rel r2 R rfl _ _ rfl rfl rfl ?_)
    have r3 := r2.setRow R
    have z3 := z2.far (by omega : w.heap.size ≠ w2.heap.size) (rowsA R)
    have hb4 := below_setRow hb3 (Nat.le_of_lt hne) (rowsA R)
    generalize World.setRow _ _ _ = w3 at *
    generalize w2.heap.size = m at *
    clear r2 z2 hb3 hsz
    have HRL : Hid (LeastIs h (askN lv) l R) := Lib.hid hR
    clear hR
    cases hh : holdsB h lv l R with
    | false =>
      have HV : Hid (rowsA noR = rowsA (inR h lv l R)) := Lib.hid (by unfold inR; rw [hh]; rfl)
      have CHH := Lib.hid (CH.out R _ hb4)
      rw [hh] at CHH
      have HHH := Lib.hid hh
      clear hh CH
      go_wp2_with (with_reducible refine wpList_load_rel r3 rfl _ rfl rfl ?_)
      refine (CHH.out).mono ?_
      rintro e w4 ⟨rfl, h4⟩
      have z4 := z3.below h4 z3.lt
      have hb5 := below_then hb4 h4
      clear r3 z3 hb4 CHH h4
      go_wp2_with (with_reducible refine wpList_store_rel z4 noR rfl _ _ rfl rfl rfl ?_)
      have z5 := z4.setRow noR
      exact bodyPost_ret (results_rel2 rfl _ _ _ _ rfl z5) rfl ⟨⟨R, HRL.out, by rw [← HV.out, HHH.out]; rfl⟩, below_setRow hb5 (Nat.le_refl _) _⟩
    | true =>
      have HV : Hid (rowsA R = rowsA (inR h lv l R)) := Lib.hid (by unfold inR; rw [hh]; rfl)
      have CHH := Lib.hid (CH.out R _ hb4)
      rw [hh] at CHH
      have HHH := Lib.hid hh
      clear hh CH
      go_wp2_with (with_reducible refine wpList_load_rel r3 rfl _ rfl rfl ?_)
      refine (CHH.out).mono ?_
      rintro e w4 ⟨rfl, h4⟩
      have z4 := z3.below h4 z3.lt
      have r4 := r3.below h4 r3.lt
      have hb5 := below_then hb4 h4
      clear r3 z3 hb4 CHH h4
      go_wp2_with (first
        | (with_reducible refine wpList_load_rel r4 rfl _ rfl rfl ?_)
        | (with_reducible refine wpList_store_rel z4 R rfl _ _ rfl rfl rfl ?_))
      have z5 := z4.setRow R
      exact bodyPost_ret (results_rel2 rfl _ _ _ _ rfl z5) rfl ⟨⟨R, HRL.out, by rw [← HV.out, HHH.out]; rfl⟩, below_setRow hb5 (Nat.le_refl _) _⟩
end Go.Proofs.YtecpeegbfeijaaaGreatDoor

namespace Go.Proofs.YtecpeegbfeijaaaGreatDoor
set_option maxRecDepth 100000
open Go.RowKit Go.Shelf
attribute [local go_sem] Oper.semAt_some

/-- Is a level kept in an order: may all come, one behind the other? -/
def keptL (h : List TxnV) (lv : Int) (row : List Nat) : Bool := isLv lv && (soundTo h h.length && allT h (clI ((askN lv : Nat) : Int)) [] row)
theorem kept_holds {h : List TxnV} (hc : checkI h = 0) (lv : Int) {row : List Nat} (hp : row.Perm (List.range h.length)) {R : Mat} (hR : LeastIs h (askN lv) (row.map Int.ofNat) R) : holdsB h lv (row.map Int.ofNat) R = keptL h lv row := by
  cases hlv : isLv lv with
  | false => unfold holdsB keptL; rw [hlv]; rfl
  | true =>
    have hC : clI ((askN lv : Nat) : Int) < 9223372036854775808 := by have := clI_lt ((askN lv : Nat) : Int); omega
    have hnd : row.Nodup := (List.Perm.nodup_iff hp).2 List.nodup_range
    have hlt : ∀ k ∈ row, k < h.length := fun k hk => List.mem_range.1 (hp.mem_iff.1 hk)
    have h1 := (good_holds hc hlv (r := row.reverse) (R := R) (by rw [List.reverse_reverse]; exact hp) (by rw [List.reverse_reverse]; exact hR)).1
    rw [List.reverse_reverse] at h1
    have h2 := allT_iff hc hC row [] (by rw [List.append_nil]; exact (List.reverse_perm row).nodup_iff.2 hnd) (fun a ha => hlt a (by simpa using ha)) (fun k hk => by cases hk)
    rw [List.append_nil] at h2
    unfold keptL
    rw [Bool.eq_iff_iff, h1, hlv, Bool.true_and, Bool.and_eq_true, h2]
/-- An order of all is all numbers, each once. -/
theorem perm_range {n : Nat} {row : List Nat} (hnd : row.Nodup) (hlt : ∀ i ∈ row, i < n) (hl : row.length = n) : row.Perm (List.range n) := by
  have hmem : ∀ j, j < n → j ∈ row := fun j hj => by
    by_cases h : j ∈ row
    · exact h
    · have := nodup_len n (j :: row) (List.nodup_cons.2 ⟨h, hnd⟩) (fun k hk => by
        rcases List.mem_cons.1 hk with rfl | hk
        · exact hj
        · exact hlt k hk)
      simp at this; omega
  rw [List.perm_iff_count]
  intro j
  rw [hnd.count, List.nodup_range.count]
  simp only [List.mem_range]
  by_cases h : j < n
  · rw [if_pos (hmem j h), if_pos h]
  · rw [if_neg (fun q => h (hlt j q)), if_neg h]
theorem orders_perm {n : Nat} {row : List Nat} (h : row ∈ ordersN n) : row.Perm (List.range n) := by
  obtain ⟨a, b, c, _⟩ := mem_exts h
  exact perm_range (a List.nodup_nil) (b (fun i hi => by cases hi)) (by simpa using c)
theorem mem_of_prefix {α : Type} {pre : List α} {r : α} {L : List α} (h : (pre ++ [r]) <+: L) : r ∈ L := h.subset (by simp)

/-- A relation as a whole is stored, or loaded, in a round's walk. -/
theorem wpListIn_store_rel {F : Fence} {n : Nat} {ops : Array Oper} {rest : List Oper} {o : Oper} {a : Act} {w : World} {Q : Exit → Act → World → Prop} {g : Nat} {S : Mat} (h : RelAt w g 97 S) (R : Mat) (hgd : o.guard = none) (x y : Operand) (ho : o.op = .store 97 x y)
    (hx : a.eval x = .pointer (some ⟨g, 0, none⟩)) (hy : a.eval y = .agg (rowsA R)) (hn : wpListIn F n Tryz.prog ops Q rest (a.put o.dst undef) (w.setRow g (rowsA R))) : wpListIn F n Tryz.prog ops Q (o :: rest) a w := by
  refine wpListIn_plain hgd fun K hK => ?_
  unfold Oper.wpIn
  refine ⟨fun f hf => by simp [Oper.about, ho] at hf, ?_⟩
  rw [Oper.semAt_eq _ _ _ (by rw [ho]; intro c hc; cases hc)]
  unfold execOp
  simp only [ho, hx, hy, Instr.storeAt, Instr.sureAddr, Sem.run_bind, Sem.run_pure, Result.andThen_ok, run_storeVar_row w g _ 97 _ (rowsA R) h (infoRel' _) (by rw [rowsA_size, rowsA_size]) (rows_one _)]
  exact hK _ _ hn
theorem wpListIn_load_rel {F : Fence} {n : Nat} {ops : Array Oper} {rest : List Oper} {o : Oper} {a : Act} {w : World} {Q : Exit → Act → World → Prop} {g : Nat} {R : Mat} (h : RelAt w g 97 R) (hgd : o.guard = none) (x : Operand) (ho : o.op = .load 97 x)
    (hx : a.eval x = .pointer (some ⟨g, 0, none⟩)) (hn : wpListIn F n Tryz.prog ops Q rest (a.put o.dst (.agg (rowsA R))) w) : wpListIn F n Tryz.prog ops Q (o :: rest) a w := by
  refine wpListIn_plain hgd fun K hK => ?_
  unfold Oper.wpIn
  refine ⟨fun f hf => by simp [Oper.about, ho] at hf, ?_⟩
  rw [Oper.semAt_eq _ _ _ (by rw [ho]; intro c hc; cases hc)]
  unfold execOp
  simp only [ho, hx, Instr.loadAt, Instr.sureAddr, Sem.run_bind, Sem.run_pure, Result.andThen_ok, run_loadVar_row w g _ 97 (rowsA R) _ _ h Tryz.underlying97 rfl (infoRel' _)]
  exact hK _ _ hn

theorem ints_nil (W : World) : Ints W (.slice none 0 0) [] := ⟨rfl, none, 0, rfl, ⟨Nat.le_refl _, by decide⟩, fun _ => ⟨rfl, rfl⟩, fun h => absurd h (Nat.lt_irrefl _)⟩
set_option maxHeartbeats 1000000 in
theorem orders_any (many : Int) (w : World) :
    Calls Tryz.prog 67 #[.int .i64 many] w fun e w' => e = .returned (.func (.func 118) #[] #[.pointer (some ⟨w.heap.size, 0, none⟩)]) ∧ w' = w.alloc (.cells #[.int .i64 many] 3) := by
  go_enter Tryz.func67, Tryz.ntmps67
  go_wp2_with fail
  go_ret
  exact ⟨rfl, rfl⟩
set_option maxHeartbeats 2000000 in
/-- What orders hands back hands over all orders of so many numbers. -/
theorem orders_seq (n many Bn : Nat) (w : World) (hm : many ≤ 64) (hB : Bn < w.heap.size) (hc : w.cell? ⟨Bn, 0, none⟩ = some (.int .i64 (many : Int))) :
    SeqRows Fence.wide n Tryz.prog 118 #[.pointer (some ⟨Bn, 0, none⟩)] (ordersN many) w := by
  intro l J Jx W hW hJ hY h0
  have hcell := (hW.cell (p := ⟨Bn, 0, none⟩) hB).trans hc
  have HI := Lib.hid (further_any l W.heap.size many (ordersN many) J Jx hJ hm (fun m pre v r A a b c => yield_depth rfl m (hY pre v r A a b c)) many (.slice none 0 0) [] [] W ⟨ints_nil W, fun g hg => by cases hg⟩ (by simp) (by rw [List.nil_append]; exact List.prefix_rfl) (Nat.le_refl _) h0)
  refine (callsIn_wide (n := n)).2 ?_
  clear hY hJ h0 hc
  show Calls Tryz.prog 118 #[.func (.yield l) #[] #[], .pointer (some ⟨Bn, 0, none⟩)] W _
  go_enter Tryz.func118, Tryz.ntmps118
  go_wp2_with (go_at_call 119; refine HI.out.mono ?_; rintro e B (⟨rfl, hj2, hk2⟩ | ⟨rfl, q, hq, hx2⟩))
  · go_end0
    exact ⟨⟨_, rfl⟩, .inl hj2⟩
  · go_end0
    exact ⟨⟨_, rfl⟩, .inr ⟨q, hq, hx2⟩⟩
end Go.Proofs.YtecpeegbfeijaaaGreatDoor

namespace Go.Proofs.YtecpeegbfeijaaaGreatDoor
set_option maxRecDepth 100000
open Go.RowKit

/-- What a read of a history that may be reads: nothing of others, or what one wrote, and whether that is the last. -/
theorem read_of {h : List TxnV} (hc : checkI h = 0) {k : Nat} (hk : k < h.length) {o : OpV} (ho : o ∈ refReads h[k].l) :
    (o.val = 0 ∧ badFr (wrTo h h.length) (k : Int) o = false) ∨ (o.val ≠ 0 ∧ ∃ n : Nat, ∃ hn : n < h.length, wrI o.key o.val h = (n : Int) ∧ badFr (wrTo h h.length) (k : Int) o = (decide ((n : Int) = (k : Int)) || !(vOf h[n].l o.key == o.val))) := by
  obtain ⟨h1, h2⟩ := refReads_in ho
  rcases reads_F (may_of hc) hk h1 h2 with ⟨h0, hn⟩ | ⟨h0, u, hu, hku, hw⟩
  · refine .inl ⟨h0, ?_⟩
    unfold badFr
    rw [h0, hn]
  · refine .inr ⟨h0, ?_⟩
    obtain ⟨p, hp, hpv, hpk⟩ := real_wr h h.length (Nat.le_refl _) o.val u hu
    obtain ⟨t, ht, hpt, hpw⟩ := wrs_mem.1 hp
    obtain ⟨n, hn, rfl⟩ := List.getElem_of_mem ht
    have h3 := may_wr (may_of hc) hn hpt hpw
    rw [hpv, hu] at h3
    have h4 := Option.some.inj h3
    refine ⟨n, hn, ?_, ?_⟩
    · rw [hw, h4]
    · unfold badFr
      rw [hu, h4, hpk, hku]
set_option maxHeartbeats 8000000 in
theorem rsound_any (va : Value) (h : List TxnV) (hc : checkI h = 0) (w : World) (hT : Txns w va h) :
    Calls Tryz.prog 35 #[va] w fun e w' => e = .returned (.bool (soundTo h h.length)) ∧ Below w.heap.size w w' := by
  obtain ⟨ao, cap, rfl, hal⟩ := hT.form
  have HT := Lib.hid (fun wx (hx : Below w.heap.size w wx) => hT.below hx)
  have HC := Lib.hid hc
  have HQ : Hid (soundTo h h.length = (List.range h.length).all (soundOf h)) := Lib.hid rfl
  clear hT hc
  generalize soundTo h h.length = q at *
  go_enter Tryz.func35, Tryz.ntmps35
  go_wp2_with fail
  go_loopw [3] (fun i wr => ∃ k : Nat, k ≤ h.length ∧ i = .int .i64 k ∧ (List.range k).all (soundOf h) = true ∧ Below w.heap.size w wr) (fun i _ => h.length - (intOf i).toNat)
  case atStart => exact ⟨0, by omega, rfl, rfl, Below.refl _ _⟩
  case round =>
    obtain ⟨k, hk, rfl, hall, hb⟩ := hrel
    by_cases hlt : k < h.length
    · have hki : (k : Int) < (h.length : Int) := by omega
      have HN := Lib.hid (show (List.range (k + 1)).all (soundOf h) = soundOf h k by rw [List.range_succ, List.all_append, hall]; simp)
      have HF : Hid (soundOf h k = false → false = q) := Lib.hid (fun e => by rw [HQ.out]; symm; exact List.all_eq_false.2 ⟨k, List.mem_range.2 hlt, by simp [e]⟩)
      have HS : Hid (soundOf h k = (!(refReads h[k].l).any (badFr (wrTo h h.length) (k : Int)) && steadyL h[k].l)) := Lib.hid (by unfold soundOf; rw [opsAt_eq hlt])
      have HR := Lib.hid (fun o (ho : o ∈ refReads h[k].l) => read_of HC.out hlt ho)
      have C1 := Lib.hid (fun wx (hx : Below w.heap.size w wx) => rsteady_any h[k].v h[k].l wx ((HT.out _ hx).ops hlt))
      have C2 := Lib.hid (fun wx (hx : Below w.heap.size w wx) => rreads_any h[k].v h[k].l wx ((HT.out _ hx).ops hlt))
      have HAT := Lib.hid (fun wx (hx : Below w.heap.size w wx) => (HT.out _ hx).at hlt)
      generalize soundOf h k = sk at *
      generalize refReads h[k].l = L at *
      generalize steadyL h[k].l = st at *
      generalize h[k].v = vk at *
      obtain ⟨g, o, hao, c0, c1, c2, c3⟩ := HAT.out _ hb
      cases hao
      clear c0 c1 c2
      go_wp2_with fail
      refine (C1.out _ hb).mono ?_
      rintro e w1 ⟨rfl, hb1⟩
      have hb2 := below_then hb hb1
      clear c3 hb hb1 C1
      cases st
      · have HE : Hid (false = q) := Lib.hid (HF.out (by rw [HS.out, Bool.and_false]))
        clear HF HS HN HR C2
        go_wp2_with fail
        go_ret
        exact ⟨ret_b HE.out, hb2⟩
      · obtain ⟨_, _, hao, _, _, _, c3⟩ := HAT.out _ hb2
        cases hao
        go_wp2_with fail
        refine (C2.out _ hb2).mono ?_
        rintro e w3 ⟨v3, rfl, hO, hb3⟩
        have hb4 := below_then hb2 hb3
        have hL := hO.ops
        obtain ⟨a3, cap3, rfl, _⟩ := hL.form
        clear C2 c3 hO hb2 hb3
        go_wp2_with fail
        go_loopw [5] (fun j wx => ∃ n : Nat, n ≤ L.length ∧ j = .int .i64 n ∧ (L.take n).any (badFr (wrTo h h.length) (k : Int)) = false ∧ Below w.heap.size w wx ∧ Below w3.heap.size w3 wx) (fun j _ => L.length - (intOf j).toNat)
        case atStart => exact ⟨0, by omega, rfl, rfl, hb4, Below.refl _ _⟩
        case round =>
          obtain ⟨n, hn, rfl, hany, hbx, hb5⟩ := hrel
          by_cases hltn : n < L.length
          · have hni : (n : Int) < (L.length : Int) := by omega
            obtain ⟨g1, o1, hao, d0, d1, d2⟩ := (hL.below hb5).at hltn
            cases hao
            have HX := Lib.hid (anyf_take (f := badFr (wrTo h h.length) (k : Int)) hltn hany)
            have HH := Lib.hid (fun e => anyf_hit (f := badFr (wrTo h h.length) (k : Int)) hltn e)
            have hr := HR.out _ (List.getElem_mem hltn)
            generalize badFr (wrTo h h.length) (k : Int) L[n] = bd at *
            generalize L[n].key = y at *
            generalize L[n].val = z at *
            rcases hr with ⟨hz, hbad⟩ | ⟨hz, m, hm, hwm, hbad⟩
            · have HB := Lib.hid (HX.out.trans hbad)
              subst hz
              clear HX HH hbad
              go_wp2_with fail
              go_roundw
              case rel => exact ⟨n + 1, by omega, by go_num, HB.out, hbx, hb5⟩
              case measure => simp [intOf]; omega
            · have CW := Lib.hid (fun wx (hx : Below w.heap.size w wx) => writer_any _ h y z wx (HT.out _ hx))
              rw [hwm] at CW
              have CL := Lib.hid (fun wx (hx : Below w.heap.size w wx) => rlast_any h[m].s h[m].b h[m].c h[m].v h[m].l y z wx ((HT.out _ hx).ops hm))
              have HAM := Lib.hid (fun wx (hx : Below w.heap.size w wx) => (HT.out _ hx).at hm)
              have hmi : (m : Int) < (h.length : Int) := by omega
              have hlo := block_lt d1
              simp only at hlo
              clear hwm
              go_wp2_with fail
              have kk := Below.refl wr.heap.size wr
              go_region_held3 (fun w' => w'.cell? ⟨g1, o1 + n * 3 + 1, none⟩ = some (.int .i64 y) ∧ w'.cell? ⟨g1, o1 + n * 3 + 2, none⟩ = some (.int .i64 z))
                (go_keep)
                (first
                  | (go_at_call 85; refine (CW.out _ (below_then hbx (by first | exact kk | exact kk.drew | exact below_drewN kk _))).mono ?_; rintro e wy ⟨rfl, hby⟩; have kk : Below wr.heap.size wr wy := (by first | exact below_then kk hby | exact below_then kk ⟨hby.os, hby.tape, hby.output, hby.size, hby.block⟩); have d1 := (kk.cell (p := ⟨g1, o1 + n * 3 + 1, none⟩) hlo).trans d1; have d2 := (kk.cell (p := ⟨g1, o1 + n * 3 + 2, none⟩) hlo).trans d2))
              have hb6 := below_then hbx kk
              have hb7 := below_then hb5 kk
              obtain ⟨g2, o2, hao, e0, e1, e2, e3⟩ := HAM.out _ hb6
              cases hao
              clear CW hby
              by_cases hmk : m = k
              · have HE : Hid (false = q) := Lib.hid (HF.out (by
                  have h1 := HH.out (by rw [hbad, decide_eq_true (by omega)]; rfl)
                  rw [HS.out, h1]; rfl))
                subst hmk
                clear HF HS HN HH HX HR HAT HAM CL hbad e0 e1 e2 e3
                go_wp2_with fail
                go_quiet (fail)
                go_wp2_with fail
                go_ret
                exact ⟨ret_b HE.out, by first | exact hb6 | exact below_drewN hb6 _⟩
              · have hmki : ¬ (m : Int) = (k : Int) := by omega
                have hbq : ((m : Int) == (k : Int)) = false := by simpa using hmki
                rw [decide_eq_false hmki, Bool.false_or] at hbad
                have hm0 := block_lt e0
                simp only at hm0
                have hlo2 := block_lt d1
                simp only at hlo2
                have d0' := d0
                clear kk d0'
                go_wp2_with fail
                have kk := Below.refl wy.heap.size wy
                go_region_held3 (fun w' => (w'.cell? ⟨g, o + m * 4, none⟩ = some (.int .i64 h[m].s) ∧ w'.cell? ⟨g, o + m * 4 + 1, none⟩ = some (.int .i64 h[m].b) ∧ w'.cell? ⟨g, o + m * 4 + 2, none⟩ = some (.int .i64 h[m].c) ∧ w'.cell? ⟨g, o + m * 4 + 3, none⟩ = some h[m].v) ∧ w'.cell? ⟨g1, o1 + n * 3 + 1, none⟩ = some (.int .i64 y) ∧ w'.cell? ⟨g1, o1 + n * 3 + 2, none⟩ = some (.int .i64 z))
                  (go_keep)
                  (first
                    | (go_at_call 86; refine (CL.out _ (below_then hb6 (by first | exact kk | exact kk.drew | exact below_drewN kk _))).mono ?_; rintro e wz ⟨rfl, hbz⟩; have kk : Below wy.heap.size wy wz := (by first | exact below_then kk hbz | exact below_then kk ⟨hbz.os, hbz.tape, hbz.output, hbz.size, hbz.block⟩); have d1 := (kk.cell (p := ⟨g1, o1 + n * 3 + 1, none⟩) hlo2).trans d1; have d2 := (kk.cell (p := ⟨g1, o1 + n * 3 + 2, none⟩) hlo2).trans d2; have e0 := (kk.cell (p := ⟨g, o + m * 4, none⟩) hm0).trans e0; have e1 := (kk.cell (p := ⟨g, o + m * 4 + 1, none⟩) hm0).trans e1; have e2 := (kk.cell (p := ⟨g, o + m * 4 + 2, none⟩) hm0).trans e2; have e3 := (kk.cell (p := ⟨g, o + m * 4 + 3, none⟩) hm0).trans e3))
                have hb8 := below_then hb6 kk
                have hb9 := below_then hb7 kk
                clear CL hbz d1 d2 e0 e1 e2 e3 HAM
                cases hv : (vOf h[m].l y == z)
                · have HE : Hid (false = q) := Lib.hid (HF.out (by
                    have h1 := HH.out (by rw [hbad, hv]; rfl)
                    rw [HS.out, h1]; rfl))
                  clear HF HS HN HH HX HR HAT hbad
                  go_wp2_with fail
                  go_ret
                  exact ⟨ret_b HE.out, hb8⟩
                · have HB := Lib.hid (HX.out.trans (hbad.trans (by rw [hv, Bool.not_true])))
                  clear HF HS HN HH HX HR HAT hbad
                  go_wp2_with fail
                  go_roundw
                  case rel => exact ⟨n + 1, by omega, by go_num, HB.out, hb8, hb9⟩
                  case measure => simp [intOf]; omega
          · have hn2 : n = L.length := by omega
            subst hn2
            rw [List.take_length] at hany
            have HE : Hid ((List.range (k + 1)).all (soundOf h) = true) := Lib.hid (by rw [HN.out, HS.out, hany]; rfl)
            clear HN HF HS HR HAT
            go_wp2_with fail
            go_roundw
            case rel => exact ⟨k + 1, by omega, by go_num, HE.out, hbx⟩
            case measure => simp [intOf]; omega
    · have hk2 : k = h.length := by omega
      subst hk2
      have HE : Hid (true = q) := Lib.hid (by rw [HQ.out]; exact hall.symm)
      go_wp2_with fail
      go_ret
      exact ⟨ret_b HE.out, hb⟩
end Go.Proofs.YtecpeegbfeijaaaGreatDoor
