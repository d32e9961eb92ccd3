/- Walks and plain facts that the proof of the statement BruteLeast uses, joined: AxhA PlaD PlaE PlaB AxhD AxhF PlaQ BruE LesC OrdAB AxhB AxhC BruJ. Conditions: each theorem's own. -/
import Derived.Laws.CopyOwn
import Derived.OneCell
import Derived.Lib.BufferWrite
import Derived.Deep.RegionHeld3
import Derived.Deep.CutRange
import Derived.Test.YtfancjmhdbaoeaaGreatDoorPBruteLeast1
import Derived.Test.YtfancjmhdbaoeaaGreatDoorPBruteLeast2
import Derived.Test.YtfancjmhdbaoeaaGreatDoorPBruteLeast3
import Derived.Test.YtfancjmhdbaoeaaGreatDoorPBruteLeast4
import Derived.Test.YtfancjmhdbaoeaaGreatDoorPBruteLeast7
namespace Go.Proofs.YtfancjmhdbaoeaaGreatDoor
set_option maxRecDepth 100000
open Go.RowKit

/-- The row has all numbers below n, each once. -/
def FullRow (n : Nat) (l : List Int) : Prop := l.Nodup ∧ ∀ a : Int, a ∈ l ↔ 0 ≤ a ∧ a < (n : Int)
theorem full_nodup : ∀ (n : Nat) (l : List Int), l.length = n → rowTo l n = true → l.Nodup
  | 0, l, hl, _ => by
    cases l with
    | nil => exact List.nodup_nil
    | cons a l => simp at hl
  | n + 1, l, hl, hr => by
    rw [rowTo_succ, Bool.and_eq_true, decide_eq_true_eq] at hr
    obtain ⟨h1, h2⟩ := hr
    have hle : (l.erase (n : Int)).length = n := by rw [List.length_erase_of_mem h2, hl]; rfl
    have hr2 : rowTo (l.erase (n : Int)) n = true := by
      unfold rowTo at h1 ⊢
      rw [List.all_eq_true] at h1 ⊢
      intro i hi
      have hin := List.mem_range.1 hi
      have h3 := h1 i hi
      rw [decide_eq_true_eq] at h3 ⊢
      exact (List.mem_erase_of_ne (by omega)).2 h3
    have ih := full_nodup n (l.erase (n : Int)) hle hr2
    have hlt := count_full n (l.erase (n : Int)) hle hr2
    have hp := List.perm_cons_erase h2
    rw [hp.nodup_iff, List.nodup_cons]
    exact ⟨fun hm => by have := hlt _ hm; omega, ih⟩
theorem full_of_row {n : Nat} {l : List Int} (h : rowRef12 n l = true) : FullRow n l := by
  unfold rowRef12 at h
  rw [Bool.and_eq_true, decide_eq_true_eq] at h
  obtain ⟨h1, h2⟩ := h
  refine ⟨full_nodup n l (by omega) h1, fun a => ⟨fun ha => count_full n l (by omega) h1 a ha, fun ha => ?_⟩⟩
  unfold rowTo at h1
  have := List.all_eq_true.1 h1 a.toNat (List.mem_range.2 (by omega))
  rw [decide_eq_true_eq] at this
  have e : ((a.toNat : Nat) : Int) = a := by omega
  rw [e] at this
  exact this
theorem placeF_at : ∀ (l : List Int) (k0 k : Nat) (hk : k < l.length), l.Nodup → placeF l l[k] k0 = ((k0 + k : Nat) : Int)
  | [], _, k, hk, _ => by simp at hk
  | a :: l, k0, 0, _, _ => by unfold placeF; rw [if_pos (by rfl)]; rfl
  | a :: l, k0, k + 1, hk, hn => by
    rw [List.nodup_cons] at hn
    have hk2 : k < l.length := by simpa using hk
    have hne : ¬ a = (a :: l)[k + 1] := fun e => hn.1 (by rw [e]; exact List.getElem_mem hk2)
    unfold placeF
    rw [if_neg hne]
    have := placeF_at l (k0 + 1) k hk2 hn.2
    rw [show k0 + (k + 1) = k0 + 1 + k by omega]
    exact this
theorem placeI_at {l : List Int} (hn : l.Nodup) {k : Nat} (hk : k < l.length) : placeI l l[k] = (k : Int) := by
  unfold placeI
  rw [placeF_at l 0 k hk hn, Nat.zero_add]
theorem placeI_nn {l : List Int} {a : Int} : 0 ≤ placeI l a ↔ a ∈ l := by
  have h := placeF_neg a l 0
  have h2 : placeI l a < 0 ↔ a ∉ l := h
  constructor
  · intro h3
    exact Decidable.byContradiction fun h4 => by have := h2.2 h4; omega
  · intro h3
    exact Decidable.byContradiction fun h4 => h2.1 (by omega) h3
theorem ahR_iff {l : List Int} (hn : l.Nodup) {a b : Int} (ha : a ∈ l) (hb : b ∈ l) : ahR l a b = true ↔ Ahead l a b := by
  obtain ⟨i, hi, rfl⟩ := List.mem_iff_getElem.1 ha
  obtain ⟨j, hj, rfl⟩ := List.mem_iff_getElem.1 hb
  unfold ahR
  rw [placeI_at hn hi, placeI_at hn hj, decide_eq_true_eq, ahead_at]
  constructor
  · intro hij
    refine ⟨i, hi, by rw [List.getD_eq_getElem?_getD, List.getElem?_eq_getElem hi]; rfl, ?_⟩
    refine List.mem_iff_getElem.2 ⟨j - (i + 1), by rw [List.length_drop]; omega, ?_⟩
    rw [List.getElem_drop]
    congr 1
    omega
  · rintro ⟨p, hp, h1, h2⟩
    rw [List.getD_eq_getElem?_getD, List.getElem?_eq_getElem hp, Option.getD_some] at h1
    obtain ⟨q, hq, h3⟩ := List.mem_iff_getElem.1 h2
    rw [List.length_drop] at hq
    rw [List.getElem_drop] at h3
    have e1 : p = i := (List.getElem_inj hn).1 h1
    have e2 : p + 1 + q = j := (List.getElem_inj hn).1 h3
    omega
theorem chain_mem {l : List Int} {i j : Nat} (h : chainR l i j = true) : (i : Int) ∈ l ∧ (j : Int) ∈ l := (( chainR_iff i j l).1 h).mem
theorem chain_ahd {n : Nat} {l : List Int} (hf : FullRow n l) (i j : Nat) : chainR l i j = true ↔ ahdR l n i j = true := by
  rw [ahdR_iff]
  constructor
  · intro h
    obtain ⟨h1, h2⟩ := chain_mem h
    have h3 := (hf.2 _).1 h1
    have h4 := (hf.2 _).1 h2
    exact ⟨by omega, by omega, (ahR_iff hf.1 h1 h2).2 ((chainR_iff i j l).1 h)⟩
  · rintro ⟨h1, h2, h3⟩
    have m1 : (i : Int) ∈ l := (hf.2 _).2 (by omega)
    have m2 : (j : Int) ∈ l := (hf.2 _).2 (by omega)
    exact (chainR_iff i j l).2 ((ahR_iff hf.1 m1 m2).1 h3)
theorem chain_irr {n : Nat} {l : List Int} (hf : FullRow n l) (i : Nat) : chainR l i i = false := by
  cases h : chainR l i i with
  | false => rfl
  | true => exact absurd ((chainR_iff i i l).1 h) (ahead_irr hf.1 _)
theorem hasT_bits : ∀ k : Fin 64, hasT k.val 1 = k.val.testBit 0 ∧ hasT k.val 2 = k.val.testBit 1 ∧ hasT k.val 4 = k.val.testBit 2 ∧ hasT k.val 8 = k.val.testBit 3 ∧ hasT k.val 16 = k.val.testBit 4 ∧ hasT k.val 32 = k.val.testBit 5 := by decide +kernel
theorem hasP_rep {V : Mat} {m : List Pr} (h : Rep V m) {i j : Nat} (hi : i < 64) (hj : j < 64) : hasP m (i : Int) (j : Int) = V i j := by
  rw [Bool.eq_iff_iff, hasP_iff, ← hasR_rep h, hasR_nat V i j hi hj]
theorem wrt_bit {h : List TxnV} (hc : checkI h = 0) {j : Nat} (hj : j < h.length) (y : Int) : (wrtN h y).testBit j = wrsR h j y := by
  have h64 := (check_zero hc).1
  unfold wrtN
  rw [testBit_mkS, decide_eq_true (show j < 64 by omega), decide_eq_true hj, Bool.true_and, Bool.true_and, Bool.eq_iff_iff, decide_eq_true_eq, keysOf_iff hc hj]
/-- Of those that one sees and that write to a key the last one in a row, as the reference says it. -/
def lstR (h : List TxnV) (m : List Pr) (i key : Int) (l : List Int) : Int := l.foldl (fun out a => if (hasP m a i && wrsR h a.toNat key) = true then a else out) (-1)
theorem lstR_snoc (h : List TxnV) (m : List Pr) (i key : Int) (l : List Int) (a : Int) : lstR h m i key (l ++ [a]) = if (hasP m a i && wrsR h a.toNat key) = true then a else lstR h m i key l := by
  unfold lstR; rw [List.foldl_append]; rfl
theorem lstR_take (h : List TxnV) (m : List Pr) (i key : Int) (l : List Int) (k : Nat) (hk : k < l.length) : lstR h m i key (l.take (k + 1)) = if (hasP m l[k] i && wrsR h l[k].toNat key) = true then l[k] else lstR h m i key (l.take k) := by
  rw [List.take_succ_eq_append_getElem hk, lstR_snoc]
theorem lstR_same {h : List TxnV} {V : Mat} {m : List Pr} (hc : checkI h = 0) (hR : Rep V m) {i : Nat} (hi : i < 64) (y : Int) : ∀ r : List Int, (∀ a ∈ r, 0 ≤ a ∧ a < (h.length : Int)) → lstR h m (i : Int) y r.reverse = lastI r.reverse (seeTo V (i : Int) 64 &&& wrtN h y)
  | [], _ => rfl
  | a :: r, ha => by
    have h64 := (check_zero hc).1
    have ih := lstR_same hc hR hi y r (fun b hb => ha b (List.mem_cons_of_mem _ hb))
    have h1 := ha a List.mem_cons_self
    obtain ⟨j, rfl⟩ := Int.eq_ofNat_of_zero_le h1.1
    have hj : j < h.length := by omega
    rw [List.reverse_cons, lastI_snoc, lstR_snoc, ih, hasB_nat (show j < 64 by omega), seen_bit hi (show j < 64 by omega), hasP_rep hR (show j < 64 by omega) hi, wrt_bit hc hj, Int.toNat_natCast]
/-- Is one of what is seen right, and are all; as the reference says it. -/
def pairOkR (l : List Int) (p : Pr) : Bool := decide (0 ≤ placeI l p.1) && (decide (0 ≤ placeI l p.2) && decide (placeI l p.1 < placeI l p.2))
def rdOkR (h : List TxnV) (l : List Int) (m : List Pr) (i : Nat) (r : Int × Int) : Bool := decide (lstR h m (i : Int) r.1 l = r.2)
def rightR (h : List TxnV) (l : List Int) (m : List Pr) : Bool := rowRef12 h.length l && (m.all (pairOkR l) && (List.range h.length).all fun i => (rdR h (i : Int) (refReads (opsAt h i))).all (rdOkR h l m i))
theorem all_congr {α : Type} {p q : α → Bool} : ∀ (l : List α), (∀ a ∈ l, p a = q a) → l.all p = l.all q
  | [], _ => rfl
  | a :: l, h => by rw [List.all_cons, List.all_cons, h a List.mem_cons_self, all_congr l (fun b hb => h b (List.mem_cons_of_mem _ hb))]
theorem right_same {h : List TxnV} {V : Mat} {m : List Pr} (hc : checkI h = 0) (hR : Rep V m) (l : List Int) : rightM h l V = rightR h l m := by
  have h64 := (check_zero hc).1
  unfold rightM rightR
  rw [row_same h.length h64 l]
  cases hrow : rowRef12 h.length l with
  | false => rfl
  | true =>
    have hf := full_of_row hrow
    rw [Bool.true_and, Bool.true_and]
    have e1 : inM V (chainR l) = m.all (pairOkR l) := by
      rw [Bool.eq_iff_iff, inM_iff, List.all_eq_true]
      constructor
      · rintro H ⟨a, b⟩ hp
        obtain ⟨i, j, hi, hj, rfl, rfl, hv⟩ := (hR.2 _ _).1 hp
        have hch := H i j hi hj hv
        obtain ⟨m1, m2⟩ := chain_mem hch
        have h3 := (ahR_iff hf.1 m1 m2).2 ((chainR_iff i j l).1 hch)
        unfold ahR at h3
        unfold pairOkR
        simp only
        rw [decide_eq_true (placeI_nn.2 m1), decide_eq_true (placeI_nn.2 m2), h3]; rfl
      · intro H i j hi hj hv
        have := H _ ((hR.2 _ _).2 ⟨i, j, hi, hj, rfl, rfl, hv⟩)
        unfold pairOkR at this
        simp only [Bool.and_eq_true, decide_eq_true_eq] at this
        have m1 := placeI_nn.1 this.1
        have m2 := placeI_nn.1 this.2.1
        exact (chainR_iff i j l).2 ((ahR_iff hf.1 m1 m2).1 (by unfold ahR; exact decide_eq_true this.2.2))
    rw [e1]
    congr 1
    unfold rightTo
    refine all_congr _ fun i hi => ?_
    have hin := List.mem_range.1 hi
    rw [reads_same hc hin, opsAt_eq hin]
    refine all_congr _ fun r _ => ?_
    unfold readOk rdOkR
    have := lstR_same hc hR (show i < 64 by omega) r.1 l.reverse (fun a ha => (hf.2 a).1 (List.mem_reverse.1 ha))
    rw [List.reverse_reverse] at this
    rw [this]
/-- Is a thing that is asked not kept by two, is all kept, as the reference says it. -/
def brkR (h : List TxnV) (x : Nat) (l : List Int) (m : List Pr) (i k : Nat) : Bool := !(decide (i = k)) && (!(hasP m (i : Int) (k : Int)) && ((((hasT x 1 && sesP h i k) || (hasT x 32 && timP h i k)) || (ahR l (i : Int) (k : Int) && (hasT x 16 || (hasT x 8 && rivR h i k)))) || folR m x l (i : Int) (k : Int) h.length))
def keepsR (h : List TxnV) (x : Nat) (l : List Int) (m : List Pr) : Bool := (List.range h.length).all fun i => (List.range h.length).all fun k => !(brkR h x l m i k)
theorem keepsR_iff {h : List TxnV} {x : Nat} {l : List Int} {m : List Pr} : keepsR h x l m = true ↔ ∀ i k : Nat, i < h.length → k < h.length → brkR h x l m i k = false := by
  unfold keepsR
  rw [List.all_eq_true]
  constructor
  · intro H i k hi hk
    have := List.all_eq_true.1 (H i (List.mem_range.2 hi)) k (List.mem_range.2 hk)
    simpa using this
  · intro H i hi
    rw [List.all_eq_true]
    intro k hk
    rw [H i k (List.mem_range.1 hi) (List.mem_range.1 hk)]; rfl
theorem kept_lt {h : List TxnV} {l : List Int} {V : Mat} (hc : checkI h = 0) (hf : FullRow h.length l) (hV : inM V (chainR l) = true) {b : Nat} {i j : Nat} (hi : i < 64) (hj : j < 64) (hm : keptM h (chainR l) V b i j = true) : i < h.length ∧ j < h.length ∧ i ≠ j := by
  have hV := (inM_iff _ _).1 hV
  have hch : ∀ i j, chainR l i j = true → i < h.length ∧ j < h.length ∧ i ≠ j := fun i j hc2 => by
    obtain ⟨m1, m2⟩ := chain_mem hc2
    have h3 := (hf.2 _).1 m1
    have h4 := (hf.2 _).1 m2
    refine ⟨by omega, by omega, ?_⟩
    rintro rfl
    rw [chain_irr hf] at hc2; cases hc2
  have h7 : b = 0 ∨ b = 1 ∨ b = 2 ∨ b = 3 ∨ b = 4 ∨ 5 ≤ b := by omega
  rcases h7 with rfl | rfl | rfl | rfl | rfl | hb
  · obtain ⟨h1, h2, h3⟩ := (prsTo_iff (sesP h) h.length i j hi hj h.length).1 hm
    unfold sesP at h3
    rw [Bool.and_eq_true, decide_eq_true_eq] at h3
    exact ⟨h1, h2, by omega⟩
  · obtain ⟨q, hq, a1, a2⟩ := (thenR_iff V V i j).1 hm
    exact hch i j (chain_trans hf.1 (hV i q hi hq a1) (hV q j hq hj a2))
  · obtain ⟨q, hq, a1, a2⟩ := (thenR_iff _ V i j).1 hm
    exact hch i j (chain_trans hf.1 a1 (hV q j hq hj a2))
  · exact hch i j (rivM_in h _ i j hm)
  · exact hch i j hm
  · have hm2 : timM h i j = true := by
      have e : keptM h (chainR l) V b = timM h := by
        match b, hb with
        | b + 5, _ => rfl
      rw [e] at hm; exact hm
    obtain ⟨h1, h2, h3⟩ := (prsTo_iff (timP h) h.length i j hi hj h.length).1 hm2
    refine ⟨h1, h2, ?_⟩
    rintro rfl
    unfold timP at h3
    rw [decide_eq_true_eq, cAt_eq h1, bAt_eq h1] at h3
    have := bc_of hc h1
    omega
theorem rivM_at {h : List TxnV} {l : List Int} {i k : Nat} (hi : i < h.length) (hk : k < h.length) (hne : i ≠ k) : rivM h (chainR l) i k = (chainR l i k && rivR h i k) := by
  unfold rivM rivB
  rw [decide_eq_true hi, decide_eq_true hk, decide_eq_true hne, Bool.true_and, Bool.true_and, Bool.true_and]
theorem keeps_same {h : List TxnV} {V : Mat} {m : List Pr} {l : List Int} {x : Nat} (hc : checkI h = 0) (hR : Rep V m) (hf : FullRow h.length l) (hV : inM V (chainR l) = true) (hx : x < 64) : keepsR h x l m = decide (lackN x (keptN h l V) = 0) := by
  have h64 := (check_zero hc).1
  obtain ⟨t1, t2, t4, t8, t16, t32⟩ := hasT_bits ⟨x, hx⟩
  simp only at t1 t2 t4 t8 t16 t32
  rw [Bool.eq_iff_iff, keepsR_iff, decide_eq_true_eq, lack_iff]
  have hV2 := (inM_iff _ _).1 hV
  have ah : ∀ i j : Nat, i < h.length → j < h.length → (ahR l (i : Int) (j : Int) = true ↔ chainR l i j = true) := fun i j hi hj => by
    rw [chain_ahd hf, ahdR_iff]; exact ⟨fun h => ⟨hi, hj, h⟩, fun h => h.2.2⟩
  have fo : ∀ i k : Nat, i < h.length → k < h.length → (folR m x l (i : Int) (k : Int) h.length = true ↔ (x.testBit 1 = true ∧ thenR V V i k = true) ∨ (x.testBit 2 = true ∧ thenR (chainR l) V i k = true)) := fun i k hi hk => by
    rw [folR_iff, t2, t4]
    constructor
    · rintro ⟨j, hj, h1, h2⟩
      have v1 : V j k = true := by rw [← hasP_rep hR (show j < 64 by omega) (show k < 64 by omega)]; exact hasP_iff.2 h1
      rcases h2 with ⟨h2, h3⟩ | ⟨h2, h3⟩
      · have v2 : V i j = true := by rw [← hasP_rep hR (show i < 64 by omega) (show j < 64 by omega)]; exact hasP_iff.2 h3
        exact .inl ⟨h2, (thenR_iff _ _ _ _).2 ⟨j, by omega, v2, v1⟩⟩
      · exact .inr ⟨h2, (thenR_iff _ _ _ _).2 ⟨j, by omega, (ah i j hi hj).1 h3, v1⟩⟩
    · rintro (⟨h1, h2⟩ | ⟨h1, h2⟩)
      · obtain ⟨j, hj, a1, a2⟩ := (thenR_iff _ _ _ _).1 h2
        have hjn : j < h.length := by
          obtain ⟨m1, m2⟩ := chain_mem (hV2 j k hj (by omega) a2)
          have := (hf.2 _).1 m1; omega
        exact ⟨j, hjn, hasP_iff.1 (by rw [hasP_rep hR hj (by omega)]; exact a2), .inl ⟨h1, hasP_iff.1 (by rw [hasP_rep hR (by omega) hj]; exact a1)⟩⟩
      · obtain ⟨j, hj, a1, a2⟩ := (thenR_iff _ _ _ _).1 h2
        have hjn : j < h.length := by
          obtain ⟨m1, m2⟩ := chain_mem (hV2 j k hj (by omega) a2)
          have := (hf.2 _).1 m1; omega
        exact ⟨j, hjn, hasP_iff.1 (by rw [hasP_rep hR hj (by omega)]; exact a2), .inr ⟨h1, (ah i j hi hjn).2 a1⟩⟩
  constructor
  · intro H b hb
    have hb6 : b < 6 := by
      apply Decidable.byContradiction
      intro hge
      have hp : (64 : Nat) ≤ 2 ^ b := by
        have := Nat.pow_le_pow_right (n := 2) (by omega) (show 6 ≤ b by omega)
        omega
      rw [Nat.testBit_lt_two_pow (by omega)] at hb
      cases hb
    rw [kept_bit h l V hb6, inM_iff]
    intro i j hi hj hm
    obtain ⟨hin, hjn, hne⟩ := kept_lt hc hf hV hi hj hm
    have hbr := H i j hin hjn
    cases hv : V i j with
    | true => rfl
    | false =>
      exfalso
      have hp : hasP m (i : Int) (j : Int) = false := by rw [hasP_rep hR hi hj]; exact hv
      have yes : brkR h x l m i j = true := by
        unfold brkR
        rw [decide_eq_false hne, hp]
        simp only [Bool.not_false, Bool.true_and, Bool.or_eq_true, Bool.and_eq_true]
        have h7 : b = 0 ∨ b = 1 ∨ b = 2 ∨ b = 3 ∨ b = 4 ∨ b = 5 := by omega
        rcases h7 with rfl | rfl | rfl | rfl | rfl | rfl
        · exact .inl (.inl (.inl ⟨by rw [t1]; exact hb, ((prsTo_iff (sesP h) h.length i j hi hj h.length).1 hm).2.2⟩))
        · exact .inr ((fo i j hin hjn).2 (.inl ⟨hb, hm⟩))
        · exact .inr ((fo i j hin hjn).2 (.inr ⟨hb, hm⟩))
        · have hm2 : rivM h (chainR l) i j = true := hm
          rw [rivM_at hin hjn hne, Bool.and_eq_true] at hm2
          exact .inl (.inr ⟨(ah i j hin hjn).2 hm2.1, .inr ⟨by rw [t8]; exact hb, hm2.2⟩⟩)
        · exact .inl (.inr ⟨(ah i j hin hjn).2 hm, .inl (by rw [t16]; exact hb)⟩)
        · exact .inl (.inl (.inr ⟨by rw [t32]; exact hb, ((prsTo_iff (timP h) h.length i j hi hj h.length).1 hm).2.2⟩))
      rw [yes] at hbr; cases hbr
  · intro H i k hi hk
    have K : ∀ b, b < 6 → x.testBit b = true → keptM h (chainR l) V b i k = true → V i k = true := fun b hb6 hb hm => (inM_iff _ _).1 ((kept_bit h l V hb6).symm.trans (H b hb)) i k (by omega) (by omega) hm
    cases hbr : brkR h x l m i k with
    | false => rfl
    | true =>
      exfalso
      unfold brkR at hbr
      rw [hasP_rep hR (show i < 64 by omega) (show k < 64 by omega)] at hbr
      simp only [Bool.and_eq_true, Bool.or_eq_true, Bool.not_eq_true', decide_eq_false_iff_not] at hbr
      obtain ⟨hne, hv, hq⟩ := hbr
      have yes : V i k = true := by
        rcases hq with ((⟨h1, h2⟩ | ⟨h1, h2⟩) | ⟨h1, h2⟩) | h1
        · exact K 0 (by omega) (by rw [← t1]; exact h1) ((prsTo_iff (sesP h) h.length i k (by omega) (by omega) h.length).2 ⟨hi, hk, h2⟩)
        · exact K 5 (by omega) (by rw [← t32]; exact h1) ((prsTo_iff (timP h) h.length i k (by omega) (by omega) h.length).2 ⟨hi, hk, h2⟩)
        · have hch := (ah i k hi hk).1 h1
          rcases h2 with h2 | ⟨h2, h3⟩
          · exact K 4 (by omega) (by rw [← t16]; exact h2) hch
          · refine K 3 (by omega) (by rw [← t8]; exact h2) ?_
            show rivM h (chainR l) i k = true
            rw [rivM_at hi hk hne, hch, h3]; rfl
        · rcases (fo i k hi hk).1 h1 with ⟨h1, h2⟩ | ⟨h1, h2⟩
          · exact K 1 (by omega) h1 h2
          · exact K 2 (by omega) h1 h2
      rw [yes] at hv; cases hv
/-- Does a history keep what a level asks, as the reference says it? -/
def holdsR (h : List TxnV) (lv : Int) (l : List Int) (m : List Pr) : Bool := isLv lv && (soundTo h h.length && (rightR h l m && keepsR h (askN lv) l m))
theorem holds_same {h : List TxnV} {V : Mat} {m : List Pr} (hc : checkI h = 0) (hR : Rep V m) (lv : Int) (l : List Int) : holdsB h lv l V = holdsR h lv l m := by
  unfold holdsB holdsR
  rw [right_same hc hR l]
  cases hr : rightR h l m with
  | false => simp
  | true =>
    have hr2 := hr
    rw [← right_same hc hR l] at hr2
    unfold rightM at hr2
    rw [Bool.and_eq_true, Bool.and_eq_true] at hr2
    have h64 := (check_zero hc).1
    have hf := full_of_row ((row_same h.length h64 l).symm.trans hr2.1)
    rw [keeps_same hc hR hf hr2.2.1 (askN_lt lv)]
end Go.Proofs.YtfancjmhdbaoeaaGreatDoor

namespace Go.Proofs.YtfancjmhdbaoeaaGreatDoor
set_option maxRecDepth 100000
open Go.RowKit

theorem rivR_symm (h : List TxnV) (i k : Nat) : rivR h i k = rivR h k i := by
  unfold rivR
  congr 1
  funext n
  rw [Bool.and_comm]
theorem rivB_symm (h : List TxnV) (i k : Nat) : rivB h i k = rivB h k i := by
  unfold rivB
  rw [rivR_symm h i k, Bool.eq_iff_iff]
  simp only [Bool.and_eq_true, decide_eq_true_eq]
  exact ⟨fun ⟨a, b, c, d⟩ => ⟨b, a, fun e => c e.symm, d⟩, fun ⟨a, b, c, d⟩ => ⟨b, a, fun e => c e.symm, d⟩⟩
theorem baseN_bit {h : List TxnV} {C i j : Nat} (hi : i < 64) : (baseN h C i).testBit j = true ↔ j < 64 ∧ baseM h (C : Int) j i = true := by
  unfold baseN
  rw [seeTo_bit _ _ _ _ (Nat.le_refl 64), Bool.and_eq_true, decide_eq_true_eq]
  exact ⟨fun ⟨a, b⟩ => ⟨a, by rwa [hasR_nat _ _ _ a hi] at b⟩, fun ⟨a, b⟩ => ⟨a, by rw [hasR_nat _ _ _ a hi]; exact b⟩⟩
theorem rivN_bit {h : List TxnV} {i j : Nat} : (rivN h i).testBit j = true ↔ j < 64 ∧ rivB h i j = true := by
  unfold rivN
  rw [testBit_mkS, Bool.and_eq_true, decide_eq_true_eq]
theorem baseM_lt {h : List TxnV} {C j k : Nat} (hC : C < 9223372036854775808) (hj : j < 64) (hk : k < 64) (hb : baseM h (C : Int) j k = true) : j < h.length ∧ k < h.length := by
  rw [baseM_iff h C hC] at hb
  rcases hb with hb | ⟨_, hb⟩ | ⟨_, hb⟩
  · exact ⟨((prsTo_iff _ _ j k hj hk _).1 hb).1, ((prsTo_iff _ _ j k hj hk _).1 hb).2.1⟩
  · exact ⟨((prsTo_iff _ _ j k hj hk _).1 hb).1, ((prsTo_iff _ _ j k hj hk _).1 hb).2.1⟩
  · exact ⟨((prsTo_iff _ _ j k hj hk _).1 hb).1, ((prsTo_iff _ _ j k hj hk _).1 hb).2.1⟩
/-- What is seen, as a relation. -/
def seesR (h : List TxnV) (C : Nat) (r : List Nat) : Mat := fun j k => (plSee h C r k).testBit j
section
variable {h : List TxnV} {C : Nat}
theorem RowG.drop : ∀ {p r : List Nat}, RowG h C (p ++ r) → RowG h C r
  | [], _, g => g
  | _ :: p, _, g => RowG.drop (p := p) g.tail
theorem aheadL_drop : ∀ {p r : List Nat}, (p ++ r).Nodup → ∀ {k : Nat}, k ∈ r → aheadL (p ++ r) k = aheadL r k
  | [], _, _, _, _ => rfl
  | i :: p, r, hn, k, hk => by
    obtain ⟨hi, hn'⟩ := List.nodup_cons.1 (show (i :: (p ++ r)).Nodup from hn)
    show aheadL (i :: (p ++ r)) k = _
    rw [aheadL_tail (fun e => hi (by rw [← e]; exact List.mem_append_right _ hk)), aheadL_drop hn' hk]
theorem sees_sound {r : List Nat} (g : RowG h C r) (hC : C < 9223372036854775808) : ∀ (r' p : List Nat), p ++ r' = r → ∀ j k, (plSee h C r' k).testBit j = true → Must (startM h (C : Int) (chainR (r.reverse.map Int.ofNat))) (chainR (r.reverse.map Int.ofNat)) (trB C) (pfB C) j k
  | [], _, _, j, k, hj => by unfold plSee at hj; simp at hj
  | i :: r', p, he, j, k, hj => by
    have ih := sees_sound g hC r' (p ++ [i]) (by rw [List.append_assoc]; exact he)
    by_cases e : k = i
    · subst e
      have g2 : RowG h C (k :: r') := RowG.drop (p := p) (by rw [he]; exact g)
      have hk64 := g2.lt k (List.mem_cons_self ..)
      have hA : ∀ m, m ∈ k :: r' → aheadL r m = aheadL (k :: r') m := fun m hm => by
        rw [← he]; exact aheadL_drop (by rw [he]; exact g.nd) hm
      have hkn := (List.nodup_cons.1 g2.nd).1
      have hpl : ∀ j, (plS r').testBit j = true → chainR (r.reverse.map Int.ofNat) j k = true := fun j hj => by
        rw [ahead_chain g.nd g.lt, hA k (List.mem_cons_self ..), aheadL, if_pos rfl]; exact hj
      rw [plSee, if_pos rfl] at hj
      refine wld4_least (Y := fun j => Must (startM h (C : Int) (chainR (r.reverse.map Int.ofNat))) (chainR (r.reverse.map Int.ofNat)) (trB C) (pfB C) j k) ?_ ?_ ?_ ?_ ?_ hj
      · intro j hj
        exact .base ((startM_iff h C hC _ j k).2 (.inl ((baseN_bit hk64).1 hj).2))
      · intro hc j hj
        exact .base ((startM_iff h C hC _ j k).2 (.inr (.inr ⟨hc, hpl j hj⟩)))
      · intro hc j hr hj
        refine .base ((startM_iff h C hC _ j k).2 (.inr (.inl ⟨hc, ?_⟩)))
        unfold rivM
        rw [hpl j hj, rivB_symm, (rivN_bit.1 hr).2]; rfl
      · intro hc m j hm hY hj
        exact .trans (by rw [trB_bit C hC]; exact hc) hm (ih j m hj) hY
      · intro hc m j hm hY hj
        refine .pre (by rw [pfB_bit C hC]; exact hc) hm ?_ hY
        have hm' : m ∈ r' := by
          by_cases q : m ∈ r'
          · exact q
          · rw [aheadL_out q] at hj; simp at hj
        have hne : m ≠ k := fun e => hkn (by rw [← e]; exact hm')
        rw [ahead_chain g.nd g.lt, hA m (List.mem_cons_of_mem _ hm'), aheadL_tail hne]; exact hj
    · rw [plSee_tail e] at hj
      exact ih j k hj
theorem sees_least {r : List Nat} (g : RowG h C r) (hC : C < 9223372036854775808) (hall : ∀ k, k < h.length → k ∈ r) : LeastIs h C (r.reverse.map Int.ofNat) (seesR h C r) := by
  intro j k hj hk
  refine ⟨fun hs => sees_sound g hC r [] rfl j k hs, fun hm => ?_⟩
  obtain ⟨c1, c2⟩ := sees_closed g
  refine must_in (V := fun j k => (plSee h C r k).testBit j = true) ?_ ?_ ?_ hm hj hk
  · intro j k hj hk hs
    rw [startM_iff h C hC] at hs
    rcases hs with hs | ⟨hc, hs⟩ | ⟨hc, hs⟩
    · have hkr := hall k (baseM_lt hC hj hk hs).2
      rw [sees_fix g k hkr]
      exact wld4_base ((baseN_bit hk).2 ⟨hj, hs⟩)
    · unfold rivM at hs
      rw [Bool.and_eq_true, ahead_chain g.nd g.lt] at hs
      have hkr : k ∈ r := by
        by_cases q : k ∈ r
        · exact q
        · rw [aheadL_out q] at hs; simp at hs
      rw [sees_fix g k hkr]
      exact wld4_riv hc (rivN_bit.2 ⟨hj, by rw [rivB_symm]; exact hs.2⟩) hs.1
    · rw [ahead_chain g.nd g.lt] at hs
      have hkr : k ∈ r := by
        by_cases q : k ∈ r
        · exact q
        · rw [aheadL_out q] at hs; simp at hs
      rw [sees_fix g k hkr]
      exact wld4_all hc hs
  · intro ht i m j _ _ _ h1 h2
    rw [trB_bit C hC] at ht
    exact c1 ht j m i h2 h1
  · intro hp i m j _ _ _ h1 h2
    rw [pfB_bit C hC] at hp
    rw [ahead_chain g.nd g.lt] at h1
    exact c2 hp j m i h2 h1
end
/-- What one reads of others: nothing, or what another one wrote. -/
theorem read_from {h : List TxnV} (hc : checkI h = 0) {k : Nat} (hk : k < h.length) {x : Int × Int} (hx : x ∈ readsOf h k) : x.2 = -1 ∨ ∃ n : Nat, n < h.length ∧ x.2 = (n : Int) ∧ n ≠ k ∧ (wrtN h x.1).testBit n = true := by
  rw [reads_same hc hk] at hx
  unfold rdR at hx
  obtain ⟨o, ho, rfl⟩ := List.mem_map.1 hx
  obtain ⟨ho1, ho2⟩ := List.mem_filter.1 ho
  obtain ⟨h1, h2⟩ := refReads_in ho1
  rcases reads_F (may_of hc) hk h1 h2 with ⟨h0, hn⟩ | ⟨h0, u, hu, hku, hw⟩
  · left; unfold fromR; rw [if_pos h0]
  · right
    obtain ⟨p, hp, hpv, hpk⟩ := real_wr h h.length (Nat.le_refl _) o.val u hu
    obtain ⟨t, ht, hpt, hpw⟩ := wrs_mem.1 hp
    obtain ⟨n, hn, rfl⟩ := List.getElem_of_mem ht
    have h3 := may_wr (may_of hc) hn hpt hpw
    rw [hpv, hu] at h3
    have h4 := Option.some.inj h3
    have hui : u.i = (n : Int) := by rw [h4]
    have hfr : fromR h o = (n : Int) := by unfold fromR; rw [if_neg h0, hw, hui]
    refine ⟨n, hn, hfr, ?_, ?_⟩
    · rintro rfl
      rw [hfr] at ho2
      simp at ho2
    · have h64 := (check_zero hc).1
      show (wrtN h o.key).testBit n = true
      unfold wrtN
      rw [testBit_mkS, decide_eq_true (show n < 64 by omega), decide_eq_true hn, Bool.true_and, Bool.true_and, decide_eq_true_eq, opsAt_eq hn]
      unfold keysOf
      rw [← hku, ← hpk]
      obtain ⟨a, b⟩ := (check_zero hc).2.2.2 _ (List.getElem_mem hn) p hpt
      obtain ⟨q, hq⟩ := Option.isSome_iff_exists.1 (lastW_some h[n].l hpw h[n].l.length (Nat.le_refl _) (by rw [List.take_length]; exact hpt))
      rw [List.take_length] at hq
      refine List.mem_map.2 ⟨q, upTo_mem.2 ⟨p.key.toNat, by omega, ?_⟩, (lastW_key hq).1⟩
      unfold wrK
      rw [Int.toNat_of_nonneg a]; exact hq
theorem from_base {h : List TxnV} {C : Nat} (hC : C < 9223372036854775808) (h64 : h.length ≤ 64) {k n : Nat} (hk : k < h.length) (hn : n < h.length) {x : Int × Int} (hx : x ∈ readsOf h k) (he : x.2 = (n : Int)) : (baseN h C k).testBit n = true := by
  rw [baseN_bit (by omega)]
  refine ⟨by omega, (baseM_iff h C hC n k).2 (.inl ?_)⟩
  refine (prsTo_iff (froP h) h.length n k (by omega) (by omega) h.length).2 ⟨hn, hk, ?_⟩
  unfold froP
  rw [List.any_eq_true]
  exact ⟨x, hx, by rw [he]; simp⟩
theorem readsP_congr {h : List TxnV} {aF aG : Nat → Nat} {s k : Nat} (hc : ∀ x ∈ readsOf h k, 0 ≤ x.2 → aF x.2.toNat = aG x.2.toNat) : readsP h aF s k = readsP h aG s k := by
  unfold readsP
  refine all_congr _ fun x hx => ?_
  unfold readP readW
  by_cases h0 : 0 ≤ x.2
  · rw [if_pos h0, if_pos h0, hc x hx h0]
  · rw [if_neg h0, if_neg h0]
/-- Each one of a row may come where it does. -/
def goodR (h : List TxnV) (C : Nat) (r : List Nat) : Prop := ∀ k ∈ r, (∀ j, (baseN h C k).testBit j = true → (aheadL r k).testBit j = true) ∧ readsP h (aheadL r) (plSee h C r k) k = true
section
variable {h : List TxnV} {C : Nat}
theorem reads_tail (hc : checkI h = 0) (hC : C < 9223372036854775808) {i k : Nat} {r : List Nat} (hi : i ∉ r) (hlt : ∀ a ∈ r, a < h.length) (hk : k < h.length) (hb : ∀ j, (baseN h C k).testBit j = true → (plS r).testBit j = true) (s : Nat) :
    readsP h (aheadL (i :: r)) s k = readsP h (aheadL r) s k := by
  have h64 := (check_zero hc).1
  refine readsP_congr fun x hx h0 => ?_
  rcases read_from hc hk hx with e | ⟨n, hn, e, _, _⟩
  · omega
  · have := plS_mem (fun a ha => by have := hlt a ha; omega) (hb n (from_base hC h64 hk hn hx e))
    rw [e, Int.toNat_natCast]
    exact aheadL_tail (fun q => hi (by rw [← q]; exact this))
theorem inB_bits {s t : Nat} (hs : IsSet s) : inB s t = true ↔ ∀ j, s.testBit j = true → t.testBit j = true := by
  rw [inB_iff hs]
  exact ⟨fun q j hj => q j (by by_cases e : j < 64; exact e; rw [hs.high (by omega)] at hj; cases hj) hj, fun q j _ hj => q j hj⟩
theorem good_cons (hc : checkI h = 0) (hC : C < 9223372036854775808) {i : Nat} {r : List Nat} (hi : i ∉ r) (hin : i < h.length) (hlt : ∀ a ∈ r, a < h.length) : goodR h C (i :: r) ↔ goodR h C r ∧ tryP h C r i = true := by
  have h64 := (check_zero hc).1
  have hlt64 : ∀ a ∈ r, a < 64 := fun a ha => by have := hlt a ha; omega
  have key : ∀ k ∈ r, k ≠ i := fun k hk e => hi (by rw [← e]; exact hk)
  constructor
  · intro g
    constructor
    · intro k hk
      obtain ⟨g1, g2⟩ := g k (List.mem_cons_of_mem _ hk)
      rw [aheadL_tail (key k hk)] at g1
      refine ⟨g1, ?_⟩
      rw [plSee_tail (key k hk), reads_tail hc hC hi hlt (hlt k hk) (fun j hj => ahead_in hlt64 (g1 j hj))] at g2
      exact g2
    · obtain ⟨g1, g2⟩ := g i (List.mem_cons_self ..)
      rw [aheadL, if_pos rfl] at g1
      rw [plSee, if_pos rfl, reads_tail hc hC hi hlt hin g1] at g2
      unfold tryP nextN
      rw [decide_eq_true hin, decide_eq_false hi, (inB_bits (baseN_set h C i)).2 g1, g2]; rfl
  · rintro ⟨g, ht⟩
    unfold tryP at ht
    simp only [Bool.and_eq_true] at ht
    obtain ⟨_, _, g1, g2⟩ := ht
    have g1 := (inB_bits (baseN_set h C i)).1 g1
    intro k hk
    by_cases e : k = i
    · subst e
      rw [aheadL, if_pos rfl]
      refine ⟨g1, ?_⟩
      rw [plSee, if_pos rfl, reads_tail hc hC hi hlt hin g1]
      exact g2
    · have hkr : k ∈ r := by rcases List.mem_cons.1 hk with q | q; exact (e q).elim; exact q
      obtain ⟨q1, q2⟩ := g k hkr
      rw [aheadL_tail e]
      refine ⟨q1, ?_⟩
      rw [plSee_tail e, reads_tail hc hC hi hlt (hlt k hkr) (fun j hj => ahead_in hlt64 (q1 j hj))]
      exact q2
/-- May all come, one behind the other? -/
def allT (h : List TxnV) (C : Nat) : List Nat → List Nat → Bool
  | _, [] => true
  | r, i :: l => tryP h C r i && allT h C (i :: r) l
theorem good_drop (hc : checkI h = 0) (hC : C < 9223372036854775808) : ∀ {p r : List Nat}, (p ++ r).Nodup → (∀ a ∈ p ++ r, a < h.length) → goodR h C (p ++ r) → goodR h C r
  | [], _, _, _, g => g
  | i :: p, r, hn, hlt, g => by
    obtain ⟨hi, hn'⟩ := List.nodup_cons.1 (show (i :: (p ++ r)).Nodup from hn)
    have hlt' : ∀ a ∈ p ++ r, a < h.length := fun a ha => hlt a (List.mem_cons_of_mem _ ha)
    exact good_drop hc hC hn' hlt' ((good_cons hc hC hi (hlt i (List.mem_cons_self ..)) hlt').1 g).1
theorem allT_iff (hc : checkI h = 0) (hC : C < 9223372036854775808) : ∀ (l r : List Nat), (l.reverse ++ r).Nodup → (∀ a ∈ l.reverse ++ r, a < h.length) → goodR h C r → (allT h C r l = true ↔ goodR h C (l.reverse ++ r))
  | [], r, _, _, g => ⟨fun _ => g, fun _ => rfl⟩
  | i :: l, r, hn, hlt, g => by
    have e : (i :: l).reverse ++ r = l.reverse ++ (i :: r) := by simp
    rw [e] at hn hlt ⊢
    have hn2 : (i :: r).Nodup := (List.nodup_append.1 hn).2.1
    have hi := (List.nodup_cons.1 hn2).1
    have hin := hlt i (List.mem_append_right _ (List.mem_cons_self ..))
    have hltr : ∀ a ∈ r, a < h.length := fun a ha => hlt a (List.mem_append_right _ (List.mem_cons_of_mem _ ha))
    unfold allT
    rw [Bool.and_eq_true]
    constructor
    · rintro ⟨ht, ha⟩
      exact (allT_iff hc hC l (i :: r) hn hlt ((good_cons hc hC hi hin hltr).2 ⟨g, ht⟩)).1 ha
    · intro g2
      have g3 := good_drop hc hC hn hlt g2
      exact ⟨((good_cons hc hC hi hin hltr).1 g3).2, (allT_iff hc hC l (i :: r) hn hlt g3).2 g2⟩
/-- Which one comes last of some that come in a row. -/
theorem last_is {f : Nat} {S : Nat} (hS : S.testBit f = true) : ∀ {r : List Nat}, r.Nodup → (∀ k ∈ r, k < 64) → f ∈ r → (∀ j, S.testBit j = true → j ∈ r) → (lastI (r.reverse.map Int.ofNat) S = (f : Int) ↔ ∀ j, S.testBit j = true → j = f ∨ (aheadL r f).testBit j = true) := by
  intro r
  induction r with
  | nil => intro _ _ hf _; cases hf
  | cons i r ih =>
    intro hnd hlt hf hin
    obtain ⟨hi, hnd'⟩ := List.nodup_cons.1 hnd
    have hi64 := hlt i (List.mem_cons_self ..)
    have hlt' : ∀ a ∈ r, a < 64 := fun a ha => hlt a (List.mem_cons_of_mem _ ha)
    rw [List.reverse_cons, List.map_append, List.map_cons, List.map_nil, lastI_snoc, show Int.ofNat i = (i : Int) from rfl, hasB_nat hi64]
    by_cases hs : S.testBit i = true
    · rw [if_pos hs]
      by_cases e : f = i
      · subst e
        refine ⟨fun _ j hj => ?_, fun _ => rfl⟩
        rw [aheadL, if_pos rfl, plS_bit j r hlt', decide_eq_true_eq]
        exact List.mem_cons.1 (hin j hj)
      · constructor
        · intro q; exact (e (Int.ofNat.inj q).symm).elim
        · intro q
          rcases q i hs with q | q
          · exact (e q.symm).elim
          · rw [aheadL_tail e] at q
            exact (hi (aheadL_mem hlt' q)).elim
    · rw [if_neg hs]
      have e : f ≠ i := fun e => hs (by rw [← e]; exact hS)
      have hfr : f ∈ r := by rcases List.mem_cons.1 hf with q | q; exact (e q).elim; exact q
      rw [ih hnd' hlt' hfr (fun j hj => by
        rcases List.mem_cons.1 (hin j hj) with q | q
        · exact (hs (by rw [← q]; exact hj)).elim
        · exact q), aheadL_tail e]
theorem last_none {S : Nat} : ∀ {r : List Nat}, (∀ k ∈ r, k < 64) → (∀ j, S.testBit j = true → j ∈ r) → (lastI (r.reverse.map Int.ofNat) S = -1 ↔ S = 0) := by
  intro r
  induction r with
  | nil =>
    intro _ hin
    refine ⟨fun _ => ?_, fun _ => rfl⟩
    apply Nat.eq_of_testBit_eq
    intro j
    cases e : S.testBit j with
    | false => simp
    | true => cases hin j e
  | cons i r ih =>
    intro hlt hin
    have hi64 := hlt i (List.mem_cons_self ..)
    have hlt' : ∀ a ∈ r, a < 64 := fun a ha => hlt a (List.mem_cons_of_mem _ ha)
    rw [List.reverse_cons, List.map_append, List.map_cons, List.map_nil, lastI_snoc, show Int.ofNat i = (i : Int) from rfl, hasB_nat hi64]
    by_cases hs : S.testBit i = true
    · rw [if_pos hs]
      constructor
      · intro q; exact absurd q (by omega)
      · intro q; rw [q] at hs; simp at hs
    · rw [if_neg hs]
      exact ih hlt' (fun j hj => by
        rcases List.mem_cons.1 (hin j hj) with q | q
        · exact (hs (by rw [← q]; exact hj)).elim
        · exact q)
/-- Whom one reads of is the last one that it sees, just where none that it sees lies behind. -/
theorem read_last (hc : checkI h = 0) {r : List Nat} (hnd : r.Nodup) (hlt : ∀ k ∈ r, k < 64) {k s : Nat} (hk : k < h.length) (hs : ∀ j, s.testBit j = true → j ∈ r) {x : Int × Int} (hx : x ∈ readsOf h k) (hfs : ∀ n : Nat, x.2 = (n : Int) → s.testBit n = true) :
    decide (lastI (r.reverse.map Int.ofNat) (s &&& wrtN h x.1) = x.2) = readP h (aheadL r) s x := by
  have h64 := (check_zero hc).1
  unfold readP readW
  rw [decide_eq_decide]
  have hsW : ∀ j, (s &&& wrtN h x.1).testBit j = true → j ∈ r := fun j hj => by rw [Nat.testBit_and, Bool.and_eq_true] at hj; exact hs j hj.1
  rcases read_from hc hk hx with e | ⟨n, hn, e, hne, hw⟩
  · rw [e, if_neg (by omega)]
    exact last_none hlt hsW
  · have hsn := hfs n e
    rw [e, if_pos (by omega), Int.toNat_natCast, last_is (by rw [Nat.testBit_and, hsn, hw]; rfl) hnd hlt (hs n hsn) hsW]
    generalize s &&& wrtN h x.1 = T at *
    constructor
    · intro q
      unfold lackN
      apply Nat.eq_of_testBit_eq
      intro j
      rw [Nat.testBit_xor, Nat.testBit_and, testBit_withS, Int.toNat_natCast, Nat.zero_testBit]
      cases hj : T.testBit j with
      | false => simp
      | true =>
        rcases q j hj with q | q
        · subst q
          have : decide (0 ≤ (j : Int) ∧ (j : Int) < 64) = true := by simp; omega
          rw [this]; simp
        · rw [q]; simp
    · intro q j hj
      have := congrArg (fun z => z.testBit j) q
      simp only [lackN] at this
      rw [Nat.testBit_xor, Nat.testBit_and, testBit_withS, Int.toNat_natCast, Nat.zero_testBit, hj] at this
      cases ha : (aheadL r n).testBit j with
      | true => exact .inr rfl
      | false =>
        rw [ha] at this
        have h2 : (decide (0 ≤ (n : Int) ∧ (n : Int) < 64) && decide (n = j)) = true := by simpa using this
        rw [Bool.and_eq_true, decide_eq_true_eq, decide_eq_true_eq] at h2
        exact .inl h2.2.symm
end
end Go.Proofs.YtfancjmhdbaoeaaGreatDoor

namespace Go.Proofs.YtfancjmhdbaoeaaGreatDoor
set_option maxRecDepth 100000
open Go.RowKit

theorem row_perm {n : Nat} (hn : n ≤ 64) {L : List Nat} (h : L.Perm (List.range n)) : rowOkA (n : Int) (L.map Int.ofNat) = true := by
  have hl : (L.map Int.ofNat).length = n := by rw [List.length_map, h.length_eq, List.length_range]
  unfold rowOkA
  rw [hl, decide_eq_true rfl, Bool.true_and, decide_eq_true_eq, setL_eq]
  refine set_ext (isSet_ofL _) ?_ fun i hi => ?_
  · unfold belowS IsSet
    split
    · omega
    · split
      · omega
      · have := Nat.pow_lt_pow_right (a := 2) (by omega) (show (n : Int).toNat < 64 by omega)
        omega
  · rw [testBit_ofL, decide_eq_true hi, Bool.true_and]
    have e1 : hasL (L.map Int.ofNat) (i : Int) = decide (i < n) := by
      unfold hasL
      rw [Bool.eq_iff_iff, List.any_eq_true, decide_eq_true_eq]
      constructor
      · rintro ⟨a, ha, e⟩
        obtain ⟨k, hk, rfl⟩ := List.mem_map.1 ha
        have := List.mem_range.1 (h.mem_iff.1 hk)
        rw [beq_iff_eq] at e
        have : k = i := Int.ofNat.inj e
        omega
      · intro hin
        exact ⟨(i : Int), List.mem_map.2 ⟨i, h.mem_iff.2 (List.mem_range.2 hin), rfl⟩, by simp⟩
    rw [e1]
    unfold belowS
    by_cases h0 : (n : Int) ≤ 0
    · rw [if_pos h0, Nat.zero_testBit]
      exact decide_eq_false (by omega)
    · rw [if_neg h0]
      by_cases h64 : 64 ≤ (n : Int)
      · rw [if_pos h64]
        have : n = 64 := by omega
        subst this
        rw [show (18446744073709551615 : Nat) = 2 ^ 64 - 1 from rfl, Nat.testBit_two_pow_sub_one]
      · rw [if_neg h64, Int.toNat_natCast, Nat.testBit_two_pow_sub_one]
/-- What is the least keeps all that is asked. -/
theorem least_kept {h : List TxnV} {x : Nat} {l : List Int} {R : Mat} (hlt : x < 64) (hR : LeastIs h x l R) : lackN x (keptN h l R) = 0 := by
  have hx : x < 9223372036854775808 := by omega
  rw [lack_iff]
  intro k hb
  have hk6 : k < 6 := by
    apply Decidable.byContradiction
    intro hge
    have hp : (64 : Nat) ≤ 2 ^ k := by
      have := Nat.pow_le_pow_right (n := 2) (by omega) (show 6 ≤ k by omega)
      omega
    rw [Nat.testBit_lt_two_pow (by omega)] at hb
    cases hb
  rw [kept_bit h l R hk6, inM_iff]
  intro i j hi hj hm
  have h7 : k = 0 ∨ k = 1 ∨ k = 2 ∨ k = 3 ∨ k = 4 ∨ k = 5 := by omega
  rcases h7 with rfl | rfl | rfl | rfl | rfl | rfl
  · exact least_base hx hR hi hj (.inr (.inl ⟨hb, hm⟩))
  · obtain ⟨q, hq, a1, a2⟩ := (thenR_iff R R i j).1 hm
    exact (hR i j hi hj).2 (.trans (by rw [trB_bit _ hx]; exact hb) hq ((hR i q hi hq).1 a1) ((hR q j hq hj).1 a2))
  · obtain ⟨q, hq, a1, a2⟩ := (thenR_iff _ R i j).1 hm
    exact (hR i j hi hj).2 (.pre (by rw [pfB_bit _ hx]; exact hb) hq a1 ((hR q j hq hj).1 a2))
  · exact least_base hx hR hi hj (.inr (.inr (.inr (.inl ⟨hb, hm⟩))))
  · exact least_base hx hR hi hj (.inr (.inr (.inr (.inr ⟨hb, hm⟩))))
  · exact least_base hx hR hi hj (.inr (.inr (.inl ⟨hb, hm⟩)))
section
variable {h : List TxnV} {C : Nat}
theorem good_row (hc : checkI h = 0) {r : List Nat} (hnd : r.Nodup) (hlt : ∀ k ∈ r, k < h.length) (g : goodR h C r) : RowG h C r :=
  ⟨hnd, fun k hk => by have := hlt k hk; have := (check_zero hc).1; omega, fun k hk => (g k hk).1⟩
theorem sees_col {r : List Nat} {k : Nat} (hk : k < 64) : seeTo (seesR h C r) (k : Int) 64 = plSee h C r k := by
  refine set_ext (seeTo_set _ _ _) (plSee_set h C r k) fun j hj => ?_
  rw [seeTo_bit _ _ _ _ (Nat.le_refl 64), decide_eq_true hj, Bool.true_and, hasR_nat _ _ _ hj hk]; rfl
theorem seeTo_congr {R S : Mat} (h : ∀ i j, i < 64 → j < 64 → R i j = S i j) {k : Nat} (hk : k < 64) : seeTo R (k : Int) 64 = seeTo S (k : Int) 64 := by
  refine set_ext (seeTo_set _ _ _) (seeTo_set _ _ _) fun j hj => ?_
  rw [seeTo_bit _ _ _ _ (Nat.le_refl 64), seeTo_bit _ _ _ _ (Nat.le_refl 64), hasR_nat _ _ _ hj hk, hasR_nat _ _ _ hj hk, h j k hj hk]
/-- The reads of one, by what all see. -/
theorem good_right (hc : checkI h = 0) {r : List Nat} (g : RowG h C r) (hC : C < 9223372036854775808) (hlt : ∀ k ∈ r, k < h.length) {k : Nat} (hk : k ∈ r) :
    (readsOf h k).all (readOk h (r.reverse.map Int.ofNat) (seesR h C r) k) = readsP h (aheadL r) (plSee h C r k) k := by
  unfold readsP
  have hkn := hlt k hk
  have h64 := (check_zero hc).1
  refine all_congr _ fun x hx => ?_
  unfold readOk
  rw [sees_col (by omega)]
  refine read_last hc g.nd g.lt hkn (fun j hj => aheadL_mem g.lt (sees_ahead g.lt g.nd g.base hj)) hx fun n e => ?_
  rw [sees_fix g k hk]
  refine wld4_base ?_
  rcases read_from hc hkn hx with q | ⟨m, hm, q, _, _⟩
  · rw [e] at q; omega
  · have : n = m := by rw [e] at q; exact Int.ofNat.inj q
    subst this
    exact from_base hC h64 hkn hm hx q
theorem good_holds (hc : checkI h = 0) {lv : Int} (hlv : isLv lv = true) {r : List Nat} (hp : r.reverse.Perm (List.range h.length)) {R : Mat} (hR : LeastIs h (askN lv) (r.reverse.map Int.ofNat) R) :
    (holdsB h lv (r.reverse.map Int.ofNat) R = true ↔ soundTo h h.length = true ∧ goodR h (clI ((askN lv : Nat) : Int)) r) ∧
    (holdsB h lv (r.reverse.map Int.ofNat) R = true → ∀ j k, j < 64 → k < 64 → R j k = (plSee h (clI ((askN lv : Nat) : Int)) r k).testBit j) := by
  have h64 := (check_zero hc).1
  have hnd : r.Nodup := by
    have := (List.Perm.nodup_iff hp).2 List.nodup_range
    exact (List.reverse_perm r).nodup_iff.1 this
  have hmem : ∀ k, k ∈ r ↔ k < h.length := fun k => by rw [← List.mem_reverse, hp.mem_iff, List.mem_range]
  have hlt : ∀ k ∈ r, k < h.length := fun k hk => (hmem k).1 hk
  have hlt64 : ∀ k ∈ r, k < 64 := fun k hk => by have := hlt k hk; omega
  have hx := askN_lt lv
  have hx' : askN lv < 9223372036854775808 := by omega
  have hy : clI ((askN lv : Nat) : Int) < 9223372036854775808 := by have := clI_lt ((askN lv : Nat) : Int); omega
  obtain ⟨b0, b1, b2, b3, b4, b5⟩ := clI_bits (askN lv)
  generalize hCe : clI ((askN lv : Nat) : Int) = C at *
  have hNL : (r.reverse.map Int.ofNat).Nodup := nodup_ofNat ((List.reverse_perm r).nodup_iff.2 hnd)
  have hrow : rowOkA (h.length : Int) (r.reverse.map Int.ofNat) = true := row_perm h64 hp
  -- of a good row
  have K : RowG h C r → inM R (chainR (r.reverse.map Int.ofNat)) = true → ∀ j k, j < 64 → k < 64 → R j k = (plSee h C r k).testBit j := by
    intro g hin
    have hS : LeastIs h (clI ((askN lv : Nat) : Int)) (r.reverse.map Int.ofNat) (seesR h C r) := by rw [hCe]; exact sees_least g hy (fun k hk => (hmem k).2 hk)
    exact rowsA_inj (least_closed hc hNL hx' hR hS hin)
  have G : holdsB h lv (r.reverse.map Int.ofNat) R = true → RowG h C r := by
    intro hh
    unfold holdsB at hh
    simp only [Bool.and_eq_true] at hh
    obtain ⟨_, _, hr, _⟩ := hh
    unfold rightM at hr
    simp only [Bool.and_eq_true] at hr
    have hin := (inM_iff _ _).1 hr.2.1
    refine ⟨hnd, hlt64, fun k hk j hj => ?_⟩
    have hk64 := hlt64 k hk
    obtain ⟨hj64, hb⟩ := (baseN_bit hk64).1 hj
    rw [← ahead_chain hnd hlt64]
    refine hin j k hj64 hk64 ?_
    rw [baseM_iff h C hy] at hb
    rcases hb with hb | ⟨c0, hb⟩ | ⟨c5, hb⟩
    · exact least_base hx' hR hj64 hk64 (.inl hb)
    · rw [b0, Bool.or_eq_true] at c0
      rcases c0 with c0 | c0
      · exact least_base hx' hR hj64 hk64 (.inr (.inl ⟨c0, hb⟩))
      · exact least_base hx' hR hj64 hk64 (.inr (.inr (.inl ⟨c0, (inM_iff _ _).1 (ses_in_tim hc) j k hj64 hk64 hb⟩)))
    · rw [b5] at c5
      exact least_base hx' hR hj64 hk64 (.inr (.inr (.inl ⟨c5, hb⟩)))
  have RT : RowG h C r → (∀ j k, j < 64 → k < 64 → R j k = (plSee h C r k).testBit j) → (rightTo h (r.reverse.map Int.ofNat) R h.length = true ↔ ∀ k ∈ r, readsP h (aheadL r) (plSee h C r k) k = true) := by
    intro g e
    have e2 : ∀ k ∈ r, (readsOf h k).all (readOk h (r.reverse.map Int.ofNat) R k) = readsP h (aheadL r) (plSee h C r k) k := by
      intro k hk
      rw [← good_right hc g hy hlt hk]
      refine all_congr _ fun x _ => ?_
      unfold readOk
      rw [seeTo_congr (R := R) (S := seesR h C r) e (hlt64 k hk)]
    unfold rightTo
    rw [List.all_eq_true]
    constructor
    · intro q k hk
      rw [← e2 k hk]
      exact q k (List.mem_range.2 (hlt k hk))
    · intro q k hk
      have hk := (hmem k).2 (List.mem_range.1 hk)
      rw [e2 k hk]
      exact q k hk
  have HH : holdsB h lv (r.reverse.map Int.ofNat) R = true → inM R (chainR (r.reverse.map Int.ofNat)) = true := by
    intro hh
    unfold holdsB rightM at hh
    simp only [Bool.and_eq_true] at hh
    exact hh.2.2.1.2.1
  refine ⟨⟨fun hh => ?_, fun ⟨hs, hg⟩ => ?_⟩, fun hh => K (G hh) (HH hh)⟩
  · have g := G hh
    have e := K g (HH hh)
    have hh2 := hh
    unfold holdsB rightM at hh2
    simp only [Bool.and_eq_true] at hh2
    refine ⟨hh2.2.1, fun k hk => ⟨g.base k hk, (RT g e).1 hh2.2.2.1.2.2 k hk⟩⟩
  · have g := good_row hc hnd hlt hg
    have hS := sees_least g hy (fun k hk => (hmem k).2 hk)
    have hin : inM R (chainR (r.reverse.map Int.ofNat)) = true := by
      refine inM_trans (least_mono (y := C) hx' hy (fun k hk => ?_) hR hS) ?_
      · have hk6 : k < 6 := by
          apply Decidable.byContradiction
          intro hge
          have hp : (64 : Nat) ≤ 2 ^ k := by
            have := Nat.pow_le_pow_right (n := 2) (by omega) (show 6 ≤ k by omega)
            omega
          rw [Nat.testBit_lt_two_pow (by omega)] at hk
          cases hk
        have h7 : k = 0 ∨ k = 1 ∨ k = 2 ∨ k = 3 ∨ k = 4 ∨ k = 5 := by omega
        rcases h7 with rfl | rfl | rfl | rfl | rfl | rfl
        · rw [b0, hk]; rfl
        · rw [b1, hk]; rfl
        · rw [b2, hk]; rfl
        · rw [b3, hk]; rfl
        · rw [b4, hk]
        · rw [b5, hk]
      · rw [inM_iff]
        intro j k _ _ hs
        rw [ahead_chain hnd hlt64]
        exact sees_ahead g.lt g.nd g.base hs
    have e := K g hin
    unfold holdsB rightM
    rw [hlv, hs, hrow, hin, (RT g e).2 fun k hk => (hg k hk).2, least_kept hx hR]; rfl
end
end Go.Proofs.YtfancjmhdbaoeaaGreatDoor

namespace Go.Proofs.YtfancjmhdbaoeaaGreatDoor
set_option maxRecDepth 100000
open Go.RowKit

section
variable {W : World} {S B b : Nat} {h : List TxnV} {C : Nat} {r : List Nat} {vb vr : Value} {aF sF : Nat → Nat} {w : World}
theorem PlIs.row (p : PlIs W S B b h C r vb vr aF sF w) : Ints w vr (r.reverse.map Int.ofNat) := by
  have h1 := Row.of_owns p.rw
  unfold Ints
  rw [List.map_map]
  have : (Value.int IntKind.i64 ∘ Int.ofNat) = fun i : Nat => Value.int .i64 (i : Int) := rfl
  rw [this, List.length_map, List.length_reverse]
  exact h1
theorem PlIs.form (p : PlIs W S B b h C r vb vr aF sF w) : ∃ ao cap, vr = .slice ao r.length cap := by
  obtain ⟨ao, cap, e, _⟩ := p.row.form
  rw [List.length_map, List.length_reverse] at e
  exact ⟨ao, cap, e⟩
theorem nodup_len : ∀ (n : Nat) (l : List Nat), l.Nodup → (∀ k ∈ l, k < n) → l.length ≤ n
  | 0, [], _, _ => Nat.le_refl _
  | 0, k :: l, _, h => absurd (h k (List.mem_cons_self ..)) (by omega)
  | n + 1, l, hn, h => by
    by_cases hm : n ∈ l
    · have h1 := nodup_len n (l.erase n) (hn.erase n) (fun k hk => by
        have := (hn.mem_erase_iff).1 hk
        have := h k this.2
        omega)
      have h2 := List.length_erase_of_mem hm
      have h3 := List.length_pos_of_mem hm
      omega
    · have := nodup_len n l hn (fun k hk => by
        have := h k hk
        have : k ≠ n := fun e => hm (by rw [← e]; exact hk)
        omega)
      omega
theorem PlIs.len (p : PlIs W S B b h C r vb vr aF sF w) : r.length ≤ h.length := nodup_len _ _ p.nd p.lt
end
end Go.Proofs.YtfancjmhdbaoeaaGreatDoor

namespace Go.Proofs.YtfancjmhdbaoeaaGreatDoor
set_option maxRecDepth 100000
open Go.RowKit

theorem prV_int {l : List Pr} {u : Value} (h : u ∈ prV l) : ∃ x : Int, u = .int .i64 x := by
  unfold prV at h
  obtain ⟨p, _, hp⟩ := List.mem_flatMap.1 h
  simp at hp
  rcases hp with rfl | rfl
  · exact ⟨_, rfl⟩
  · exact ⟨_, rfl⟩
theorem rowsA_u64 (V : Mat) {i : Nat} {u : Value} (h : (rowsA V)[i]? = some u) : ∃ n : Int, u = .int .u64 n := by
  have hi : i < 64 := by
    have := (Array.getElem?_eq_some_iff.1 h).1
    rwa [rowsA_size] at this
  rw [rowsA_at V hi] at h
  cases h
  exact ⟨_, rfl⟩
/-- A relation that is changed leaves pairs as they are. -/
theorem Prs.apart {w w' : World} {v : Value} {l : List Pr} {g : Nat} {V : Mat} (h : Prs w v l) (hV : RelAt w g 37 V) (hg : w.grownBy w' (some g)) : Prs w' v l := by
  obtain ⟨hl, ao, cap, rfl, hm, hno, hc⟩ := h
  refine ⟨hl, ao, cap, rfl, hm, hno, fun hn => ?_⟩
  obtain ⟨b, off, rfl, hcell⟩ := hc hn
  refine ⟨b, off, rfl, fun i hi => ?_⟩
  have h2 := hcell i hi
  rw [List.getElem?_eq_getElem (by omega)] at h2 ⊢
  refine hg.cell h2 (fun e => ?_)
  obtain rfl : b = g := by simpa using e
  obtain ⟨x, hx⟩ := prV_int (List.getElem_mem (show i < (prV l).length by omega))
  rw [cell_of_row w b (off + i) _ _ _ hV] at h2
  obtain ⟨n, hn2⟩ := rowsA_u64 V h2
  rw [hx] at hn2; cases hn2
/-- What lies there while pairs are put in. -/
structure Vis (B : Nat) (pv pl : Nat) (V : Mat) (m : List Pr) (w0 w : World) : Prop where
  rel : RelAt w pv 37 V
  box : ∃ vm, At w pl (.cells #[vm] 41) ∧ Prs w vm m
  rep : Rep V m
  below : Below B w0 w
theorem Vis.mono {B pv pl : Nat} {V : Mat} {m : List Pr} {w0 w w' : World} (h : Vis B pv pl V m w0 w) (hb : Below w.heap.size w w') (hB : B ≤ w.heap.size) : Vis B pv pl V m w0 w' := by
  obtain ⟨h1, ⟨vm, h2, h3⟩, h4, h5⟩ := h
  exact ⟨h1.below hb h1.lt, ⟨vm, h2.below hb, h3.below hb⟩, h4, h5.trans (hb.mono hB)⟩
end Go.Proofs.YtfancjmhdbaoeaaGreatDoor

namespace Go.Proofs.YtfancjmhdbaoeaaGreatDoor
set_option maxRecDepth 100000
open Go.RowKit

/-- The slice v holds slices, of which each holds these ints. -/
def Lists (w : World) (v : Value) (LL : List (List Int)) : Prop := ∃ sv : List Value, Row w v LL.length 1 sv ∧ ∀ (k : Nat) (hk : k < LL.length), ∃ u, sv[k]? = some u ∧ Ints w u LL[k]
theorem Lists.below {w w' : World} {v : Value} {LL : List (List Int)} (h : Lists w v LL) (hb : Below w.heap.size w w') : Lists w' v LL := by
  obtain ⟨sv, h1, h2⟩ := h
  exact ⟨sv, h1.below hb, fun k hk => by obtain ⟨u, hu, hi⟩ := h2 k hk; exact ⟨u, hu, hi.below hb⟩⟩
theorem Lists.form {w : World} {v : Value} {LL : List (List Int)} (h : Lists w v LL) : ∃ ao cap, v = .slice ao LL.length cap ∧ LL.length ≤ 9223372036854775807 := by
  obtain ⟨sv, ⟨_, ao, cap, rfl, hm, _, _⟩, _⟩ := h
  exact ⟨ao, cap, rfl, Nat.le_trans hm.1 hm.2⟩
theorem Lists.at {w : World} {ao : Option Addr} {n cap : Nat} {LL : List (List Int)} (h : Lists w (.slice ao n cap) LL) {k : Nat} (hk : k < LL.length) :
    ∃ b off u, ao = some ⟨b, off, none⟩ ∧ w.cell? ⟨b, off + k, none⟩ = some u ∧ Ints w u LL[k] := by
  obtain ⟨sv, ⟨_, ao', cap', he, _, _, hc⟩, h2⟩ := h
  cases he
  obtain ⟨b, off, e, hcell⟩ := hc (by omega)
  obtain ⟨u, hu, hi⟩ := h2 k hk
  exact ⟨b, off, u, e, by rw [hcell k (by omega), hu], hi⟩
theorem results_rel2 {fn : Func} {p u : Tmp} (h : fn.results = #[.cell p 37, .tmp u]) (tmps : Array Value) (w : World) (g : Nat) (R : Mat)
    (hp : tmps.getD p undef = .pointer (some ⟨g, 0, none⟩)) (hg : RelAt w g 37 R) : (results fn tmps).run Tryz.prog w = .ok (.tuple #[.agg (rowsA R), tmps.getD u undef]) w := by
  have hp' : tmps[p]?.getD undef = .pointer (some ⟨g, 0, none⟩) := by simpa using hp
  simp [results, h, hp', asAddr, run_loadVar_row w g _ 37 (rowsA R) _ _ hg Tryz.underlying37 rfl (infoRel' _)]
end Go.Proofs.YtfancjmhdbaoeaaGreatDoor

namespace Go.Proofs.YtfancjmhdbaoeaaGreatDoor
set_option maxRecDepth 100000
open Go.RowKit

theorem least_some (h : List TxnV) (x : Nat) (l : List Int) : ∃ R, LeastIs h x l R :=
  ⟨fun i j => @decide (Must (startM h (x : Int) (chainR l)) (chainR l) (trB x) (pfB x) i j) (Classical.propDecidable _), fun i j _ _ => by simp⟩
/-- What In hands back. -/
def inR (h : List TxnV) (lv : Int) (l : List Int) (R : Mat) : Mat := if holdsB h lv l R = true then R else noR
set_option maxRecDepth 100000 in
set_option maxHeartbeats 16000000 in
theorem bin_any (lv : Int) (va : Value) (l : List Int) (h : List TxnV) (B b : Nat) (w : World) (hO : OrdIs w B b h) (hc : checkI h = 0) (ht : Tab w) (hK : Kinds w) (hl : Ints w va l) :
    Calls Tryz.prog 13 #[.pointer (some ⟨B, 0, none⟩), .int .i64 lv, va] w fun e w' => (∃ R, LeastIs h (askN lv) l R ∧ e = .returned (.tuple #[.agg (rowsA (inR h lv l R)), .bool (holdsB h lv l R)])) ∧ Below w.heap.size w w' := by
  have hg := ht.pos
  have HT : Hid (∀ wx, Below w.heap.size w wx → Tab wx ∧ Kinds wx) := Lib.hid (fun wx hb => ⟨ht.below hb hg, hK.below hb⟩)
  have HO := Lib.hid (fun wx (hx : Below w.heap.size w wx) => hO.below hx)
  have HL := Lib.hid (fun wx (hx : Below w.heap.size w wx) => hl.below hx)
  have HC := Lib.hid hc
  have CA := Lib.hid (fun wx (hx : Below w.heap.size w wx) => arow_any (h.length : Int) _ l wx (HL.out wx hx))
  have CK := Lib.hid (fun wx (hx : Below w.heap.size w wx) => lasks_any lv wx (HT.out wx hx).2)
  have CL := Lib.hid (fun wx (hx : Below w.heap.size w wx) => lof_any ((askN lv : Nat) : Int) _ l h B b wx (HO.out wx hx) HC.out (HT.out wx hx).1 (HL.out wx hx))
  have CH := Lib.hid (fun V wx (hx : Below w.heap.size w wx) => aholds_any lv _ l V h B b wx (HO.out wx hx) HC.out (HT.out wx hx).1 (HT.out wx hx).2 (HL.out wx hx))
  obtain ⟨ao, cap, rfl, hal⟩ := hl.form
  have hb0 := box_below w (.cells #[.int .u64 0, .int .u64 0, .int .u64 0, .int .u64 0, .int .u64 0, .int .u64 0, .int .u64 0, .int .u64 0, .int .u64 0, .int .u64 0, .int .u64 0, .int .u64 0, .int .u64 0, .int .u64 0, .int .u64 0, .int .u64 0, .int .u64 0, .int .u64 0, .int .u64 0, .int .u64 0, .int .u64 0, .int .u64 0, .int .u64 0, .int .u64 0, .int .u64 0, .int .u64 0, .int .u64 0, .int .u64 0, .int .u64 0, .int .u64 0, .int .u64 0, .int .u64 0, .int .u64 0, .int .u64 0, .int .u64 0, .int .u64 0, .int .u64 0, .int .u64 0, .int .u64 0, .int .u64 0, .int .u64 0, .int .u64 0, .int .u64 0, .int .u64 0, .int .u64 0, .int .u64 0, .int .u64 0, .int .u64 0, .int .u64 0, .int .u64 0, .int .u64 0, .int .u64 0, .int .u64 0, .int .u64 0, .int .u64 0, .int .u64 0, .int .u64 0, .int .u64 0, .int .u64 0, .int .u64 0, .int .u64 0, .int .u64 0, .int .u64 0, .int .u64 0] 37)
  have z0 := zero_block w
  have n0 := (HO.out _ hb0).blk.cN
  have hs0 : (w.alloc (.cells #[.int .u64 0, .int .u64 0, .int .u64 0, .int .u64 0, .int .u64 0, .int .u64 0, .int .u64 0, .int .u64 0, .int .u64 0, .int .u64 0, .int .u64 0, .int .u64 0, .int .u64 0, .int .u64 0, .int .u64 0, .int .u64 0, .int .u64 0, .int .u64 0, .int .u64 0, .int .u64 0, .int .u64 0, .int .u64 0, .int .u64 0, .int .u64 0, .int .u64 0, .int .u64 0, .int .u64 0, .int .u64 0, .int .u64 0, .int .u64 0, .int .u64 0, .int .u64 0, .int .u64 0, .int .u64 0, .int .u64 0, .int .u64 0, .int .u64 0, .int .u64 0, .int .u64 0, .int .u64 0, .int .u64 0, .int .u64 0, .int .u64 0, .int .u64 0, .int .u64 0, .int .u64 0, .int .u64 0, .int .u64 0, .int .u64 0, .int .u64 0, .int .u64 0, .int .u64 0, .int .u64 0, .int .u64 0, .int .u64 0, .int .u64 0, .int .u64 0, .int .u64 0, .int .u64 0, .int .u64 0, .int .u64 0, .int .u64 0, .int .u64 0, .int .u64 0] 37)).heap.size = w.heap.size + 1 := by simp
  clear hO hc ht hK hl
  go_enter Tryz.func13, Tryz.ntmps13
  go_upto_region 1 with fail
  generalize w.alloc (.cells #[.int .u64 0, .int .u64 0, .int .u64 0, .int .u64 0, .int .u64 0, .int .u64 0, .int .u64 0, .int .u64 0, .int .u64 0, .int .u64 0, .int .u64 0, .int .u64 0, .int .u64 0, .int .u64 0, .int .u64 0, .int .u64 0, .int .u64 0, .int .u64 0, .int .u64 0, .int .u64 0, .int .u64 0, .int .u64 0, .int .u64 0, .int .u64 0, .int .u64 0, .int .u64 0, .int .u64 0, .int .u64 0, .int .u64 0, .int .u64 0, .int .u64 0, .int .u64 0, .int .u64 0, .int .u64 0, .int .u64 0, .int .u64 0, .int .u64 0, .int .u64 0, .int .u64 0, .int .u64 0, .int .u64 0, .int .u64 0, .int .u64 0, .int .u64 0, .int .u64 0, .int .u64 0, .int .u64 0, .int .u64 0, .int .u64 0, .int .u64 0, .int .u64 0, .int .u64 0, .int .u64 0, .int .u64 0, .int .u64 0, .int .u64 0, .int .u64 0, .int .u64 0, .int .u64 0, .int .u64 0, .int .u64 0, .int .u64 0, .int .u64 0, .int .u64 0] 37) = w1 at *
  cases hrow : rowOkA (h.length : Int) l with
  | false =>
    obtain ⟨R, hR⟩ := least_some h (askN lv) l
    have hF : holdsB h lv l R = false := by unfold holdsB rightM; rw [hrow]; simp
    have HV : Hid (rowsA noR = rowsA (inR h lv l R) ∧ false = holdsB h lv l R) := Lib.hid ⟨by unfold inR; rw [hF]; rfl, hF.symm⟩
    have HR := Lib.hid hR
    rw [hrow] at CA
    clear CK CL CH hF hR hrow
    go_wp2_with fail
    refine (CA.out _ hb0).mono ?_
    rintro e wq ⟨rfl, rfl⟩
    go_wp2_with (with_reducible refine wpList_store_rel z0 noR rfl _ _ rfl rfl rfl ?_)
    have z1 := z0.setRow noR
    exact bodyPost_ret (results_rel2 rfl _ _ _ _ rfl z1) rfl ⟨⟨R, HR.out, by rw [← HV.out.1, ← HV.out.2]; rfl⟩, below_setRow hb0 (Nat.le_refl _) _⟩
  | true =>
    rw [hrow] at CA
    clear hrow
    go_wp2_with fail
    refine (CA.out _ hb0).mono ?_
    rintro e wq ⟨rfl, rfl⟩
    go_wp2_with fail
    refine (CK.out _ hb0).mono ?_
    rintro e wq ⟨rfl, rfl⟩
    go_wp2_with fail
    refine (CL.out _ hb0).mono ?_
    rintro e w2 ⟨⟨R, rfl, hR⟩, h2⟩
    have hb2 := below_then hb0 h2
    have z2 := z0.below h2 z0.lt
    have r2 := zero_block w2
    have hsz := h2.size
    have z2 := z2.alloc (.cells #[.int .u64 0, .int .u64 0, .int .u64 0, .int .u64 0, .int .u64 0, .int .u64 0, .int .u64 0, .int .u64 0, .int .u64 0, .int .u64 0, .int .u64 0, .int .u64 0, .int .u64 0, .int .u64 0, .int .u64 0, .int .u64 0, .int .u64 0, .int .u64 0, .int .u64 0, .int .u64 0, .int .u64 0, .int .u64 0, .int .u64 0, .int .u64 0, .int .u64 0, .int .u64 0, .int .u64 0, .int .u64 0, .int .u64 0, .int .u64 0, .int .u64 0, .int .u64 0, .int .u64 0, .int .u64 0, .int .u64 0, .int .u64 0, .int .u64 0, .int .u64 0, .int .u64 0, .int .u64 0, .int .u64 0, .int .u64 0, .int .u64 0, .int .u64 0, .int .u64 0, .int .u64 0, .int .u64 0, .int .u64 0, .int .u64 0, .int .u64 0, .int .u64 0, .int .u64 0, .int .u64 0, .int .u64 0, .int .u64 0, .int .u64 0, .int .u64 0, .int .u64 0, .int .u64 0, .int .u64 0, .int .u64 0, .int .u64 0, .int .u64 0, .int .u64 0] 37)
    have hb3 := hb2.alloc hb2.size (.cells #[.int .u64 0, .int .u64 0, .int .u64 0, .int .u64 0, .int .u64 0, .int .u64 0, .int .u64 0, .int .u64 0, .int .u64 0, .int .u64 0, .int .u64 0, .int .u64 0, .int .u64 0, .int .u64 0, .int .u64 0, .int .u64 0, .int .u64 0, .int .u64 0, .int .u64 0, .int .u64 0, .int .u64 0, .int .u64 0, .int .u64 0, .int .u64 0, .int .u64 0, .int .u64 0, .int .u64 0, .int .u64 0, .int .u64 0, .int .u64 0, .int .u64 0, .int .u64 0, .int .u64 0, .int .u64 0, .int .u64 0, .int .u64 0, .int .u64 0, .int .u64 0, .int .u64 0, .int .u64 0, .int .u64 0, .int .u64 0, .int .u64 0, .int .u64 0, .int .u64 0, .int .u64 0, .int .u64 0, .int .u64 0, .int .u64 0, .int .u64 0, .int .u64 0, .int .u64 0, .int .u64 0, .int .u64 0, .int .u64 0, .int .u64 0, .int .u64 0, .int .u64 0, .int .u64 0, .int .u64 0, .int .u64 0, .int .u64 0, .int .u64 0, .int .u64 0] 37)
    have hne : w.heap.size < w2.heap.size := by have := z0.lt; omega
    clear CA CK CL hb0 h2 hb2 z0 n0 hs0
    go_upto_region 4 with (with_reducible refine wpList_store_rel r2 R rfl _ _ rfl rfl rfl ?_)
    have r3 := r2.setRow R
    have z3 := z2.far (by omega : w.heap.size ≠ w2.heap.size) (rowsA R)
    have hb4 := below_setRow hb3 (Nat.le_of_lt hne) (rowsA R)
    generalize World.setRow _ _ _ = w3 at *
    generalize w2.heap.size = m at *
    clear r2 z2 hb3 hsz
    have HRL : Hid (LeastIs h (askN lv) l R) := Lib.hid hR
    clear hR
    cases hh : holdsB h lv l R with
    | false =>
      have HV : Hid (rowsA noR = rowsA (inR h lv l R)) := Lib.hid (by unfold inR; rw [hh]; rfl)
      have CHH := Lib.hid (CH.out R _ hb4)
      rw [hh] at CHH
      have HHH := Lib.hid hh
      clear hh CH
      go_wp2_with (with_reducible refine wpList_load_rel r3 rfl _ rfl rfl ?_)
      refine (CHH.out).mono ?_
      rintro e w4 ⟨rfl, h4⟩
      have z4 := z3.below h4 z3.lt
      have hb5 := below_then hb4 h4
      clear r3 z3 hb4 CHH h4
      go_wp2_with (with_reducible refine wpList_store_rel z4 noR rfl _ _ rfl rfl rfl ?_)
      have z5 := z4.setRow noR
      exact bodyPost_ret (results_rel2 rfl _ _ _ _ rfl z5) rfl ⟨⟨R, HRL.out, by rw [← HV.out, HHH.out]; rfl⟩, below_setRow hb5 (Nat.le_refl _) _⟩
    | true =>
      have HV : Hid (rowsA R = rowsA (inR h lv l R)) := Lib.hid (by unfold inR; rw [hh]; rfl)
      have CHH := Lib.hid (CH.out R _ hb4)
      rw [hh] at CHH
      have HHH := Lib.hid hh
      clear hh CH
      go_wp2_with (with_reducible refine wpList_load_rel r3 rfl _ rfl rfl ?_)
      refine (CHH.out).mono ?_
      rintro e w4 ⟨rfl, h4⟩
      have z4 := z3.below h4 z3.lt
      have r4 := r3.below h4 r3.lt
      have hb5 := below_then hb4 h4
      clear r3 z3 hb4 CHH h4
      go_wp2_with (first
        | (with_reducible refine wpList_load_rel r4 rfl _ rfl rfl ?_)
        | (with_reducible refine wpList_store_rel z4 R rfl _ _ rfl rfl rfl ?_))
      have z5 := z4.setRow R
      exact bodyPost_ret (results_rel2 rfl _ _ _ _ rfl z5) rfl ⟨⟨R, HRL.out, by rw [← HV.out, HHH.out]; rfl⟩, below_setRow hb5 (Nat.le_refl _) _⟩
end Go.Proofs.YtfancjmhdbaoeaaGreatDoor

namespace Go.Proofs.YtfancjmhdbaoeaaGreatDoor
set_option maxRecDepth 100000
open Go.RowKit Go.Shelf
attribute [local go_sem] Oper.semAt_some

/-- Is a level kept in an order: may all come, one behind the other? -/
def keptL (h : List TxnV) (lv : Int) (row : List Nat) : Bool := isLv lv && (soundTo h h.length && allT h (clI ((askN lv : Nat) : Int)) [] row)
theorem kept_holds {h : List TxnV} (hc : checkI h = 0) (lv : Int) {row : List Nat} (hp : row.Perm (List.range h.length)) {R : Mat} (hR : LeastIs h (askN lv) (row.map Int.ofNat) R) : holdsB h lv (row.map Int.ofNat) R = keptL h lv row := by
  cases hlv : isLv lv with
  | false => unfold holdsB keptL; rw [hlv]; rfl
  | true =>
    have hC : clI ((askN lv : Nat) : Int) < 9223372036854775808 := by have := clI_lt ((askN lv : Nat) : Int); omega
    have hnd : row.Nodup := (List.Perm.nodup_iff hp).2 List.nodup_range
    have hlt : ∀ k ∈ row, k < h.length := fun k hk => List.mem_range.1 (hp.mem_iff.1 hk)
    have h1 := (good_holds hc hlv (r := row.reverse) (R := R) (by rw [List.reverse_reverse]; exact hp) (by rw [List.reverse_reverse]; exact hR)).1
    rw [List.reverse_reverse] at h1
    have h2 := allT_iff hc hC row [] (by rw [List.append_nil]; exact (List.reverse_perm row).nodup_iff.2 hnd) (fun a ha => hlt a (by simpa using ha)) (fun k hk => by cases hk)
    rw [List.append_nil] at h2
    unfold keptL
    rw [Bool.eq_iff_iff, h1, hlv, Bool.true_and, Bool.and_eq_true, h2]
/-- An order of all is all numbers, each once. -/
theorem perm_range {n : Nat} {row : List Nat} (hnd : row.Nodup) (hlt : ∀ i ∈ row, i < n) (hl : row.length = n) : row.Perm (List.range n) := by
  have hmem : ∀ j, j < n → j ∈ row := fun j hj => by
    by_cases h : j ∈ row
    · exact h
    · have := nodup_len n (j :: row) (List.nodup_cons.2 ⟨h, hnd⟩) (fun k hk => by
        rcases List.mem_cons.1 hk with rfl | hk
        · exact hj
        · exact hlt k hk)
      simp at this; omega
  rw [List.perm_iff_count]
  intro j
  rw [hnd.count, List.nodup_range.count]
  simp only [List.mem_range]
  by_cases h : j < n
  · rw [if_pos (hmem j h), if_pos h]
  · rw [if_neg (fun q => h (hlt j q)), if_neg h]
theorem orders_perm {n : Nat} {row : List Nat} (h : row ∈ ordersN n) : row.Perm (List.range n) := by
  obtain ⟨a, b, c, _⟩ := mem_exts h
  exact perm_range (a List.nodup_nil) (b (fun i hi => by cases hi)) (by simpa using c)
theorem mem_of_prefix {α : Type} {pre : List α} {r : α} {L : List α} (h : (pre ++ [r]) <+: L) : r ∈ L := h.subset (by simp)

/-- A relation as a whole is stored, or loaded, in a round's walk. -/
theorem wpListIn_store_rel {F : Fence} {n : Nat} {ops : Array Oper} {rest : List Oper} {o : Oper} {a : Act} {w : World} {Q : Exit → Act → World → Prop} {g : Nat} {S : Mat} (h : RelAt w g 37 S) (R : Mat) (hgd : o.guard = none) (x y : Operand) (ho : o.op = .store 37 x y)
    (hx : a.eval x = .pointer (some ⟨g, 0, none⟩)) (hy : a.eval y = .agg (rowsA R)) (hn : wpListIn F n Tryz.prog ops Q rest (a.put o.dst undef) (w.setRow g (rowsA R))) : wpListIn F n Tryz.prog ops Q (o :: rest) a w := by
  refine wpListIn_plain hgd fun K hK => ?_
  unfold Oper.wpIn
  refine ⟨fun f hf => by simp [Oper.about, ho] at hf, ?_⟩
  rw [Oper.semAt_eq _ _ _ (by rw [ho]; intro c hc; cases hc)]
  unfold execOp
  simp only [ho, hx, hy, Instr.storeAt, Instr.sureAddr, Sem.run_bind, Sem.run_pure, Result.andThen_ok, run_storeVar_row w g _ 37 _ (rowsA R) h (infoRel' _) (by rw [rowsA_size, rowsA_size]) (rows_one _)]
  exact hK _ _ hn
theorem wpListIn_load_rel {F : Fence} {n : Nat} {ops : Array Oper} {rest : List Oper} {o : Oper} {a : Act} {w : World} {Q : Exit → Act → World → Prop} {g : Nat} {R : Mat} (h : RelAt w g 37 R) (hgd : o.guard = none) (x : Operand) (ho : o.op = .load 37 x)
    (hx : a.eval x = .pointer (some ⟨g, 0, none⟩)) (hn : wpListIn F n Tryz.prog ops Q rest (a.put o.dst (.agg (rowsA R))) w) : wpListIn F n Tryz.prog ops Q (o :: rest) a w := by
  refine wpListIn_plain hgd fun K hK => ?_
  unfold Oper.wpIn
  refine ⟨fun f hf => by simp [Oper.about, ho] at hf, ?_⟩
  rw [Oper.semAt_eq _ _ _ (by rw [ho]; intro c hc; cases hc)]
  unfold execOp
  simp only [ho, hx, Instr.loadAt, Instr.sureAddr, Sem.run_bind, Sem.run_pure, Result.andThen_ok, run_loadVar_row w g _ 37 (rowsA R) _ _ h Tryz.underlying37 rfl (infoRel' _)]
  exact hK _ _ hn

theorem ints_nil (W : World) : Ints W (.slice none 0 0) [] := ⟨rfl, none, 0, rfl, ⟨Nat.le_refl _, by decide⟩, fun _ => ⟨rfl, rfl⟩, fun h => absurd h (Nat.lt_irrefl _)⟩
set_option maxHeartbeats 1000000 in
theorem orders_any (many : Int) (w : World) :
    Calls Tryz.prog 73 #[.int .i64 many] w fun e w' => e = .returned (.func (.func 137) #[] #[.pointer (some ⟨w.heap.size, 0, none⟩)]) ∧ w' = w.alloc (.cells #[.int .i64 many] 3) := by
  go_enter Tryz.func73, Tryz.ntmps73
  go_wp2_with fail
  go_ret
  exact ⟨rfl, rfl⟩
set_option maxHeartbeats 2000000 in
/-- What orders hands back hands over all orders of so many numbers. -/
theorem orders_seq (n many Bn : Nat) (w : World) (hm : many ≤ 64) (hB : Bn < w.heap.size) (hc : w.cell? ⟨Bn, 0, none⟩ = some (.int .i64 (many : Int))) :
    SeqRows Fence.wide n Tryz.prog 137 #[.pointer (some ⟨Bn, 0, none⟩)] (ordersN many) w := by
  intro l J Jx W hW hJ hY h0
  have hcell := (hW.cell (p := ⟨Bn, 0, none⟩) hB).trans hc
  have HI := Lib.hid (further_any l W.heap.size many (ordersN many) J Jx hJ hm (fun m pre v r A a b c => yield_depth rfl m (hY pre v r A a b c)) many (.slice none 0 0) [] [] W ⟨ints_nil W, fun g hg => by cases hg⟩ (by simp) (by rw [List.nil_append]; exact List.prefix_rfl) (Nat.le_refl _) h0)
  refine (callsIn_wide (n := n)).2 ?_
  clear hY hJ h0 hc
  show Calls Tryz.prog 137 #[.func (.yield l) #[] #[], .pointer (some ⟨Bn, 0, none⟩)] W _
  go_enter Tryz.func137, Tryz.ntmps137
  go_wp2_with (go_at_call 138; refine HI.out.mono ?_; rintro e B (⟨rfl, hj2, hk2⟩ | ⟨rfl, q, hq, hx2⟩))
  · go_end0
    exact ⟨⟨_, rfl⟩, .inl hj2⟩
  · go_end0
    exact ⟨⟨_, rfl⟩, .inr ⟨q, hq, hx2⟩⟩
end Go.Proofs.YtfancjmhdbaoeaaGreatDoor

namespace Go.Proofs.YtfancjmhdbaoeaaGreatDoor
set_option maxRecDepth 100000
open Go.RowKit

/-- What a read of a history that may be reads: nothing of others, or what one wrote, and whether that is the last. -/
theorem read_of {h : List TxnV} (hc : checkI h = 0) {k : Nat} (hk : k < h.length) {o : OpV} (ho : o ∈ refReads h[k].l) :
    (o.val = 0 ∧ badFr (wrTo h h.length) (k : Int) o = false) ∨ (o.val ≠ 0 ∧ ∃ n : Nat, ∃ hn : n < h.length, wrI o.key o.val h = (n : Int) ∧ badFr (wrTo h h.length) (k : Int) o = (decide ((n : Int) = (k : Int)) || !(vOf h[n].l o.key == o.val))) := by
  obtain ⟨h1, h2⟩ := refReads_in ho
  rcases reads_F (may_of hc) hk h1 h2 with ⟨h0, hn⟩ | ⟨h0, u, hu, hku, hw⟩
  · refine .inl ⟨h0, ?_⟩
    unfold badFr
    rw [h0, hn]
  · refine .inr ⟨h0, ?_⟩
    obtain ⟨p, hp, hpv, hpk⟩ := real_wr h h.length (Nat.le_refl _) o.val u hu
    obtain ⟨t, ht, hpt, hpw⟩ := wrs_mem.1 hp
    obtain ⟨n, hn, rfl⟩ := List.getElem_of_mem ht
    have h3 := may_wr (may_of hc) hn hpt hpw
    rw [hpv, hu] at h3
    have h4 := Option.some.inj h3
    refine ⟨n, hn, ?_, ?_⟩
    · rw [hw, h4]
    · unfold badFr
      rw [hu, h4, hpk, hku]
set_option maxHeartbeats 8000000 in
theorem rsound_any (va : Value) (h : List TxnV) (hc : checkI h = 0) (w : World) (hT : Txns w va h) :
    Calls Tryz.prog 59 #[va] w fun e w' => e = .returned (.bool (soundTo h h.length)) ∧ Below w.heap.size w w' := by
  obtain ⟨ao, cap, rfl, hal⟩ := hT.form
  have HT := Lib.hid (fun wx (hx : Below w.heap.size w wx) => hT.below hx)
  have HC := Lib.hid hc
  have HQ : Hid (soundTo h h.length = (List.range h.length).all (soundOf h)) := Lib.hid rfl
  clear hT hc
  generalize soundTo h h.length = q at *
  go_enter Tryz.func59, Tryz.ntmps59
  go_wp2_with fail
  go_loopw [3] (fun i wr => ∃ k : Nat, k ≤ h.length ∧ i = .int .i64 k ∧ (List.range k).all (soundOf h) = true ∧ Below w.heap.size w wr) (fun i _ => h.length - (intOf i).toNat)
  case atStart => exact ⟨0, by omega, rfl, rfl, Below.refl _ _⟩
  case round =>
    obtain ⟨k, hk, rfl, hall, hb⟩ := hrel
    by_cases hlt : k < h.length
    · have hki : (k : Int) < (h.length : Int) := by omega
      have HN := Lib.hid (show (List.range (k + 1)).all (soundOf h) = soundOf h k by rw [List.range_succ, List.all_append, hall]; simp)
      have HF : Hid (soundOf h k = false → false = q) := Lib.hid (fun e => by rw [HQ.out]; symm; exact List.all_eq_false.2 ⟨k, List.mem_range.2 hlt, by simp [e]⟩)
      have HS : Hid (soundOf h k = (!(refReads h[k].l).any (badFr (wrTo h h.length) (k : Int)) && steadyL h[k].l)) := Lib.hid (by unfold soundOf; rw [opsAt_eq hlt])
      have HR := Lib.hid (fun o (ho : o ∈ refReads h[k].l) => read_of HC.out hlt ho)
      have C1 := Lib.hid (fun wx (hx : Below w.heap.size w wx) => rsteady_any h[k].v h[k].l wx ((HT.out _ hx).ops hlt))
      have C2 := Lib.hid (fun wx (hx : Below w.heap.size w wx) => rreads_any h[k].v h[k].l wx ((HT.out _ hx).ops hlt))
      have HAT := Lib.hid (fun wx (hx : Below w.heap.size w wx) => (HT.out _ hx).at hlt)
      generalize soundOf h k = sk at *
      generalize refReads h[k].l = L at *
      generalize steadyL h[k].l = st at *
      generalize h[k].v = vk at *
      obtain ⟨g, o, hao, c0, c1, c2, c3⟩ := HAT.out _ hb
      cases hao
      clear c0 c1 c2
      go_wp2_with fail
      refine (C1.out _ hb).mono ?_
      rintro e w1 ⟨rfl, hb1⟩
      have hb2 := below_then hb hb1
      clear c3 hb hb1 C1
      cases st
      · have HE : Hid (false = q) := Lib.hid (HF.out (by rw [HS.out, Bool.and_false]))
        clear HF HS HN HR C2
        go_wp2_with fail
        go_ret
        exact ⟨ret_b HE.out, hb2⟩
      · obtain ⟨_, _, hao, _, _, _, c3⟩ := HAT.out _ hb2
        cases hao
        go_wp2_with fail
        refine (C2.out _ hb2).mono ?_
        rintro e w3 ⟨v3, rfl, hO, hb3⟩
        have hb4 := below_then hb2 hb3
        have hL := hO.ops
        obtain ⟨a3, cap3, rfl, _⟩ := hL.form
        clear C2 c3 hO hb2 hb3
        go_wp2_with fail
        go_loopw [5] (fun j wx => ∃ n : Nat, n ≤ L.length ∧ j = .int .i64 n ∧ (L.take n).any (badFr (wrTo h h.length) (k : Int)) = false ∧ Below w.heap.size w wx ∧ Below w3.heap.size w3 wx) (fun j _ => L.length - (intOf j).toNat)
        case atStart => exact ⟨0, by omega, rfl, rfl, hb4, Below.refl _ _⟩
        case round =>
          obtain ⟨n, hn, rfl, hany, hbx, hb5⟩ := hrel
          by_cases hltn : n < L.length
          · have hni : (n : Int) < (L.length : Int) := by omega
            obtain ⟨g1, o1, hao, d0, d1, d2⟩ := (hL.below hb5).at hltn
            cases hao
            have HX := Lib.hid (anyf_take (f := badFr (wrTo h h.length) (k : Int)) hltn hany)
            have HH := Lib.hid (fun e => anyf_hit (f := badFr (wrTo h h.length) (k : Int)) hltn e)
            have hr := HR.out _ (List.getElem_mem hltn)
            generalize badFr (wrTo h h.length) (k : Int) L[n] = bd at *
            generalize L[n].key = y at *
            generalize L[n].val = z at *
            rcases hr with ⟨hz, hbad⟩ | ⟨hz, m, hm, hwm, hbad⟩
            · have HB := Lib.hid (HX.out.trans hbad)
              subst hz
              clear HX HH hbad
              go_wp2_with fail
              go_roundw
              case rel => exact ⟨n + 1, by omega, by go_num, HB.out, hbx, hb5⟩
              case measure => simp [intOf]; omega
            · have CW := Lib.hid (fun wx (hx : Below w.heap.size w wx) => writer_any _ h y z wx (HT.out _ hx))
              rw [hwm] at CW
              have CL := Lib.hid (fun wx (hx : Below w.heap.size w wx) => rlast_any h[m].s h[m].b h[m].c h[m].v h[m].l y z wx ((HT.out _ hx).ops hm))
              have HAM := Lib.hid (fun wx (hx : Below w.heap.size w wx) => (HT.out _ hx).at hm)
              have hmi : (m : Int) < (h.length : Int) := by omega
              have hlo := block_lt d1
              simp only at hlo
              clear hwm
              go_wp2_with fail
              have kk := Below.refl wr.heap.size wr
              go_region_held3 (fun w' => w'.cell? ⟨g1, o1 + n * 3 + 1, none⟩ = some (.int .i64 y) ∧ w'.cell? ⟨g1, o1 + n * 3 + 2, none⟩ = some (.int .i64 z))
                (go_keep)
                (first
                  | (go_at_call 122; refine (CW.out _ (below_then hbx (by first | exact kk | exact kk.drew | exact below_drewN kk _))).mono ?_; rintro e wy ⟨rfl, hby⟩; have kk : Below wr.heap.size wr wy := (by first | exact below_then kk hby | exact below_then kk ⟨hby.os, hby.tape, hby.output, hby.size, hby.block⟩); have d1 := (kk.cell (p := ⟨g1, o1 + n * 3 + 1, none⟩) hlo).trans d1; have d2 := (kk.cell (p := ⟨g1, o1 + n * 3 + 2, none⟩) hlo).trans d2))
              have hb6 := below_then hbx kk
              have hb7 := below_then hb5 kk
              obtain ⟨g2, o2, hao, e0, e1, e2, e3⟩ := HAM.out _ hb6
              cases hao
              clear CW hby
              by_cases hmk : m = k
              · have HE : Hid (false = q) := Lib.hid (HF.out (by
                  have h1 := HH.out (by rw [hbad, decide_eq_true (by omega)]; rfl)
                  rw [HS.out, h1]; rfl))
                subst hmk
                clear HF HS HN HH HX HR HAT HAM CL hbad e0 e1 e2 e3
                go_wp2_with fail
                go_quiet (fail)
                go_wp2_with fail
                go_ret
                exact ⟨ret_b HE.out, by first | exact hb6 | exact below_drewN hb6 _⟩
              · have hmki : ¬ (m : Int) = (k : Int) := by omega
                have hbq : ((m : Int) == (k : Int)) = false := by simpa using hmki
                rw [decide_eq_false hmki, Bool.false_or] at hbad
                have hm0 := block_lt e0
                simp only at hm0
                have hlo2 := block_lt d1
                simp only at hlo2
                have d0' := d0
                clear kk d0'
                go_wp2_with fail
                have kk := Below.refl wy.heap.size wy
                go_region_held3 (fun w' => (w'.cell? ⟨g, o + m * 4, none⟩ = some (.int .i64 h[m].s) ∧ w'.cell? ⟨g, o + m * 4 + 1, none⟩ = some (.int .i64 h[m].b) ∧ w'.cell? ⟨g, o + m * 4 + 2, none⟩ = some (.int .i64 h[m].c) ∧ w'.cell? ⟨g, o + m * 4 + 3, none⟩ = some h[m].v) ∧ w'.cell? ⟨g1, o1 + n * 3 + 1, none⟩ = some (.int .i64 y) ∧ w'.cell? ⟨g1, o1 + n * 3 + 2, none⟩ = some (.int .i64 z))
                  (go_keep)
                  (first
                    | (go_at_call 123; refine (CL.out _ (below_then hb6 (by first | exact kk | exact kk.drew | exact below_drewN kk _))).mono ?_; rintro e wz ⟨rfl, hbz⟩; have kk : Below wy.heap.size wy wz := (by first | exact below_then kk hbz | exact below_then kk ⟨hbz.os, hbz.tape, hbz.output, hbz.size, hbz.block⟩); have d1 := (kk.cell (p := ⟨g1, o1 + n * 3 + 1, none⟩) hlo2).trans d1; have d2 := (kk.cell (p := ⟨g1, o1 + n * 3 + 2, none⟩) hlo2).trans d2; have e0 := (kk.cell (p := ⟨g, o + m * 4, none⟩) hm0).trans e0; have e1 := (kk.cell (p := ⟨g, o + m * 4 + 1, none⟩) hm0).trans e1; have e2 := (kk.cell (p := ⟨g, o + m * 4 + 2, none⟩) hm0).trans e2; have e3 := (kk.cell (p := ⟨g, o + m * 4 + 3, none⟩) hm0).trans e3))
                have hb8 := below_then hb6 kk
                have hb9 := below_then hb7 kk
                clear CL hbz d1 d2 e0 e1 e2 e3 HAM
                cases hv : (vOf h[m].l y == z)
                · have HE : Hid (false = q) := Lib.hid (HF.out (by
                    have h1 := HH.out (by rw [hbad, hv]; rfl)
                    rw [HS.out, h1]; rfl))
                  clear HF HS HN HH HX HR HAT hbad
                  go_wp2_with fail
                  go_ret
                  exact ⟨ret_b HE.out, hb8⟩
                · have HB := Lib.hid (HX.out.trans (hbad.trans (by rw [hv, Bool.not_true])))
                  clear HF HS HN HH HX HR HAT hbad
                  go_wp2_with fail
                  go_roundw
                  case rel => exact ⟨n + 1, by omega, by go_num, HB.out, hb8, hb9⟩
                  case measure => simp [intOf]; omega
          · have hn2 : n = L.length := by omega
            subst hn2
            rw [List.take_length] at hany
            have HE : Hid ((List.range (k + 1)).all (soundOf h) = true) := Lib.hid (by rw [HN.out, HS.out, hany]; rfl)
            clear HN HF HS HR HAT
            go_wp2_with fail
            go_roundw
            case rel => exact ⟨k + 1, by omega, by go_num, HE.out, hbx⟩
            case measure => simp [intOf]; omega
    · have hk2 : k = h.length := by omega
      subst hk2
      have HE : Hid (true = q) := Lib.hid (by rw [HQ.out]; exact hall.symm)
      go_wp2_with fail
      go_ret
      exact ⟨ret_b HE.out, hb⟩
end Go.Proofs.YtfancjmhdbaoeaaGreatDoor

namespace Go.Proofs.YtfancjmhdbaoeaaGreatDoor
set_option maxRecDepth 100000
open Go.RowKit

set_option maxHeartbeats 8000000 in
theorem rlast12_any (va vr vm : Value) (h : List TxnV) (l : List Int) (m : List Pr) (i key : Int) (w : World) (hT : Txns w va h) (hl : Ints w vr l) (hm : Prs w vm m) (hin : ∀ a ∈ l, 0 ≤ a ∧ a < (h.length : Int)) :
    Calls Tryz.prog 126 #[va, vr, vm, .int .i64 i, .int .i64 key] w fun e w' => e = .returned (.int .i64 (lstR h m i key l)) ∧ Below w.heap.size w w' := by
  have CH := Lib.hid (fun (a : Int) wx (hx : Below w.heap.size w wx) => phas_any vm m a i wx (hm.below hx))
  have CW := Lib.hid (fun (j : Nat) (hj : j < h.length) wx (hx : Below w.heap.size w wx) => rwrts8_any va h j key hj wx (hT.below hx))
  have HL := Lib.hid (fun wx (hx : Below w.heap.size w wx) => hl.below hx)
  have HIN := Lib.hid hin
  have HTK := Lib.hid (fun k hk => lstR_take h m i key l k hk)
  have HE : Hid (lstR h m i key (l.take l.length) = lstR h m i key l) := Lib.hid (by rw [List.take_length])
  have H0 : Hid (lstR h m i key (l.take 0) = -1) := Lib.hid rfl
  obtain ⟨ao, cap, rfl, hal⟩ := hT.form
  obtain ⟨ro, rcap, rfl, hrl⟩ := hl.form
  obtain ⟨mo, mcap, rfl, hml⟩ := hm.form
  clear hT hl hm hin
  go_enter Tryz.func126, Tryz.ntmps126
  go_wp2_with fail
  go_loopw [11, 12] (fun ov kv wr => ∃ k : Nat, k ≤ l.length ∧ kv = .int .i64 k ∧ ov = .int .i64 (lstR h m i key (l.take k)) ∧ Below w.heap.size w wr) (fun _ kv _ => l.length - (intOf kv).toNat)
  case atStart => exact ⟨0, by omega, rfl, by rw [H0.out], Below.refl _ _⟩
  case round =>
    obtain ⟨k, hk, rfl, rfl, hb⟩ := hrel
    by_cases hlt : k < l.length
    · have hki : (k : Int) < (l.length : Int) := by omega
      obtain ⟨g, o, hao, e0⟩ := (HL.out _ hb).at hlt
      cases hao
      have HS := Lib.hid (HTK.out k hlt)
      have hr := HIN.out _ (List.getElem_mem hlt)
      obtain ⟨j, hj⟩ : ∃ j : Nat, l[k] = (j : Int) := ⟨l[k].toNat, by omega⟩
      rw [hj] at e0 HS hr
      rw [Int.toNat_natCast] at HS
      have hjn : j < h.length := by omega
      have D1 := Lib.hid (CH.out (j : Int) _ hb)
      have D2 := Lib.hid (CW.out j hjn _ hb)
      generalize hasP m (j : Int) i = p1 at *
      generalize wrsR h j key = p2 at *
      generalize lstR h m i key (l.take k) = f0 at *
      clear CH CW HTK hj
      go_wp2_with fail
      refine (D1.out).mono ?_
      rintro e w1 ⟨rfl, rfl⟩
      cases p1 with
      | false =>
        have HN : Hid (lstR h m i key (l.take (k + 1)) = f0) := Lib.hid (by rw [HS.out]; rfl)
        go_wp2_with fail
        go_roundw
        case rel => exact ⟨k + 1, by omega, by go_num, by rw [HN.out], hb⟩
        case measure => simp [intOf]; omega
      | true =>
        go_wp2_with fail
        refine (D2.out).mono ?_
        rintro e w2 ⟨rfl, h2⟩
        have e1 := (h2.cell (p := ⟨g, o + k, none⟩) (block_lt e0)).trans e0
        have hb2 := below_then hb h2
        clear e0 hb h2
        cases p2 with
        | false =>
          have HN : Hid (lstR h m i key (l.take (k + 1)) = f0) := Lib.hid (by rw [HS.out]; rfl)
          go_wp2_with fail
          go_roundw
          case rel => exact ⟨k + 1, by omega, by go_num, by rw [HN.out], hb2⟩
          case measure => simp [intOf]; omega
        | true =>
          have HN : Hid (lstR h m i key (l.take (k + 1)) = (j : Int)) := Lib.hid (by rw [HS.out]; rfl)
          go_wp2_with fail
          go_roundw
          case rel => exact ⟨k + 1, by omega, by go_num, by rw [HN.out], hb2⟩
          case measure => simp [intOf]; omega
    · have hkn : k = l.length := by omega
      subst hkn
      go_wp2_with fail
      go_ret
      exact ⟨congrArg (fun q => Ending.returned (Value.int .i64 q)) HE.out, hb⟩
theorem all_no {α : Type} {p : α → Bool} {l : List α} {a : α} (ha : a ∈ l) (h : p a = false) : l.all p = false := by
  rw [List.all_eq_false]; exact ⟨a, ha, by rw [h]; decide⟩
theorem all_take {α : Type} {p : α → Bool} {l : List α} {k : Nat} (hk : k < l.length) (h : (l.take k).all p = true) (h1 : p l[k] = true) : (l.take (k + 1)).all p = true := by
  rw [List.take_succ_eq_append_getElem hk, List.all_append, h]; simp [h1]
theorem all_rng {p : Nat → Bool} {k : Nat} (h : (List.range k).all p = true) (h1 : p k = true) : (List.range (k + 1)).all p = true := by
  rw [List.range_succ, List.all_append, h]; simp [h1]
set_option maxHeartbeats 16000000 in
theorem rright12_any (va vr vm : Value) (h : List TxnV) (l : List Int) (m : List Pr) (w : World) (hn : h.length ≤ 64) (hT : Txns w va h) (hl : Ints w vr l) (hm : Prs w vm m) :
    Calls Tryz.prog 62 #[va, vr, vm] w fun e w' => e = .returned (.bool (rightR h l m)) ∧ Below w.heap.size w w' := by
  have CR := Lib.hid (rrow12_any h.length vr l w (by omega) hl)
  have CP := Lib.hid (fun (a : Int) wx (hx : Below w.heap.size w wx) => rplace_any vr l a wx (hl.below hx))
  have CL := Lib.hid (fun (hin : ∀ a ∈ l, 0 ≤ a ∧ a < (h.length : Int)) (i key : Int) wx (hx : Below w.heap.size w wx) => rlast12_any va vr vm h l m i key wx (hT.below hx) (hl.below hx) (hm.below hx) hin)
  have CD := Lib.hid (fun (i : Nat) (hi : i < h.length) wx (hx : Below w.heap.size w wx) => rreads8_any va h i hi wx (hT.below hx))
  have HM := Lib.hid (fun wx (hx : Below w.heap.size w wx) => hm.below hx)
  have HR : Hid (rightR h l m = (rowRef12 h.length l && (m.all (pairOkR l) && (List.range h.length).all fun (i : Nat) => (rdR h (i : Int) (refReads (opsAt h i))).all (rdOkR h l m i)))) := Lib.hid rfl
  have HF := Lib.hid (fun hr : rowRef12 h.length l = true => full_of_row hr)
  obtain ⟨ao, cap, rfl, hal⟩ := hT.form
  obtain ⟨ro, rcap, rfl, hrl⟩ := hl.form
  obtain ⟨mo, mcap, rfl, hml⟩ := hm.form
  clear hT hl hm hn
  generalize rightR h l m = z at *
  go_enter Tryz.func62, Tryz.ntmps62
  go_wp2_with fail
  refine (CR.out).mono ?_
  rintro e w1 ⟨rfl, rfl⟩
  cases hrow : rowRef12 h.length l with
  | false =>
    rw [hrow] at HR
    go_wp2_with fail
    go_ret
    exact ⟨ret_b (by rw [HR.out]; rfl), Below.refl _ _⟩
  | true =>
    have HIN := Lib.hid (fun a ha => ((HF.out hrow).2 a).1 ha)
    rw [hrow, Bool.true_and] at HR
    clear HF CR hrow
    go_wp2_with fail
    go_loopw [7] (fun kv wr => ∃ k : Nat, k ≤ m.length ∧ kv = .int .i64 k ∧ Hid ((m.take k).all (pairOkR l) = true) ∧ Below w.heap.size w wr) (fun kv _ => m.length - (intOf kv).toNat)
    case atStart => exact ⟨0, by omega, rfl, Lib.hid rfl, Below.refl _ _⟩
    case round =>
      obtain ⟨k, hk, rfl, HA, hb⟩ := hrel
      by_cases hlt : k < m.length
      · have hki : (k : Int) < (m.length : Int) := by omega
        obtain ⟨g, o, hao, c1, c2⟩ := (HM.out _ hb).at hlt
        cases hao
        have HY := Lib.hid (fun hp : pairOkR l m[k] = true => all_take hlt HA.out hp)
        have HNO := Lib.hid (fun hp : pairOkR l m[k] = false => show z = false by rw [HR.out, all_no (List.getElem_mem hlt) hp]; rfl)
        have HP : Hid (pairOkR l m[k] = (decide (0 ≤ placeI l m[k].1) && (decide (0 ≤ placeI l m[k].2) && decide (placeI l m[k].1 < placeI l m[k].2)))) := Lib.hid rfl
        have D1 := Lib.hid (CP.out m[k].1 _ hb)
        have D2 := Lib.hid (CP.out m[k].2 _ hb)
        generalize pairOkR l m[k] = q at *
        generalize placeI l m[k].1 = x at *
        generalize placeI l m[k].2 = y at *
        generalize m[k].1 = m1 at *
        generalize m[k].2 = m2 at *
        clear HA CP CL CD
        go_wp2_with fail
        refine (D1.out).mono ?_
        rintro e w1 ⟨rfl, rfl⟩
        go_wp2_with fail
        refine (D2.out).mono ?_
        rintro e w1 ⟨rfl, rfl⟩
        by_cases hx : x < 0
        · have HV : Hid (false = z) := Lib.hid (HNO.out (by rw [HP.out, decide_eq_false (by omega)]; rfl)).symm
          clear HY HNO HP
          go_wp2_with fail
          go_ret
          exact ⟨ret_b HV.out, hb⟩
        by_cases hy : y < 0
        · have HV : Hid (false = z) := Lib.hid (HNO.out (by rw [HP.out, decide_eq_false (show ¬ 0 ≤ y by omega), Bool.false_and, Bool.and_false])).symm
          clear HY HNO HP
          go_wp2_with fail
          go_ret
          exact ⟨ret_b HV.out, hb⟩
        by_cases hxy : x < y
        · have hle : ¬ y ≤ x := by omega
          have HV := Lib.hid (HY.out (by rw [HP.out, decide_eq_true (show 0 ≤ x by omega), decide_eq_true (show 0 ≤ y by omega), decide_eq_true hxy]; rfl))
          clear HY HNO HP
          go_wp2_with fail
          go_roundw
          case rel => exact ⟨k + 1, by omega, by go_num, HV, hb⟩
          case measure => simp [intOf]; omega
        · have hle : y ≤ x := by omega
          have HV : Hid (false = z) := Lib.hid (HNO.out (by rw [HP.out, decide_eq_false hxy, Bool.and_false, Bool.and_false])).symm
          clear HY HNO HP
          go_wp2_with fail
          go_ret
          exact ⟨ret_b HV.out, hb⟩
      · have hkn : k = m.length := by omega
        subst hkn
        have hA := HA.out
        rw [List.take_length] at hA
        rw [hA, Bool.true_and] at HR
        clear HA hA CP HM hlt hk
        go_wp2_with fail
        go_loopw [10] (fun iv wr => ∃ i : Nat, i ≤ h.length ∧ iv = .int .i64 i ∧ Hid (((List.range i).all fun (i : Nat) => (rdR h (i : Int) (refReads (opsAt h i))).all (rdOkR h l m i)) = true) ∧ Below w.heap.size w wr) (fun iv _ => h.length - (intOf iv).toNat)
        case atStart => exact ⟨0, by omega, rfl, Lib.hid rfl, hb⟩
        case round =>
          clear hb
          obtain ⟨i, hi, rfl, HA, hb⟩ := hrel
          by_cases hlt : i < h.length
          · have hii : (i : Int) < (h.length : Int) := by omega
            have DD := Lib.hid (CD.out i hlt _ hb)
            have HL := Lib.hid (show rdR h (i : Int) (refReads (opsAt h i)) = rdR h (i : Int) (refReads h[i].l) by rw [opsAt_eq hlt])
            have HY := Lib.hid (fun hp : (rdR h (i : Int) (refReads h[i].l)).all (rdOkR h l m i) = true => all_rng (p := fun (i : Nat) => (rdR h (i : Int) (refReads (opsAt h i))).all (rdOkR h l m i)) HA.out (by show (rdR h (i : Int) (refReads (opsAt h i))).all (rdOkR h l m i) = true; rw [HL.out]; exact hp))
            have HNO := Lib.hid (fun hp : (rdR h (i : Int) (refReads h[i].l)).all (rdOkR h l m i) = false => show z = false by rw [HR.out]; exact all_no (p := fun (i : Nat) => (rdR h (i : Int) (refReads (opsAt h i))).all (rdOkR h l m i)) (List.mem_range.2 hlt) (by show (rdR h (i : Int) (refReads (opsAt h i))).all (rdOkR h l m i) = false; rw [HL.out]; exact hp))
            clear HA HL CD
            generalize rdR h (i : Int) (refReads h[i].l) = L at *
            go_wp2_with fail
            refine (DD.out).mono ?_
            rintro e w2 ⟨v2, rfl, hO2, h2⟩
            have hL : Frs w2 v2 L := Row.of_owns hO2
            obtain ⟨a2, cap2, rfl, hll⟩ := hL.form
            have hb2 := below_then hb h2
            clear DD hO2 hb h2
            go_wp2_with fail
            go_loopw [12] (fun kv wr => ∃ k : Nat, k ≤ L.length ∧ kv = .int .i64 k ∧ Hid ((L.take k).all (rdOkR h l m i) = true) ∧ Below w.heap.size w wr ∧ Below w2.heap.size w2 wr) (fun kv _ => L.length - (intOf kv).toNat)
            case atStart => exact ⟨0, by omega, rfl, Lib.hid rfl, hb2, Below.refl _ _⟩
            case round =>
              clear hb2
              obtain ⟨k, hk, rfl, HA, hb, hb1⟩ := hrel
              by_cases hlk : k < L.length
              · have hkk : (k : Int) < (L.length : Int) := by omega
                obtain ⟨g, o, hao, d1, d2⟩ := (hL.below hb1).at hlk
                cases hao
                have HYY := Lib.hid (fun hp : rdOkR h l m i L[k] = true => all_take hlk HA.out hp)
                have HNN := Lib.hid (fun hp : rdOkR h l m i L[k] = false => HNO.out (all_no (List.getElem_mem hlk) hp))
                have HQ : Hid (rdOkR h l m i L[k] = decide (lstR h m (i : Int) L[k].1 l = L[k].2)) := Lib.hid rfl
                have DL := Lib.hid (fun wx (hx : Below w.heap.size w wx) => CL.out HIN.out (i : Int) L[k].1 wx hx)
                generalize rdOkR h l m i L[k] = q at *
                generalize lstR h m (i : Int) L[k].1 l = x at *
                generalize L[k].1 = y at *
                generalize L[k].2 = t at *
                clear HA CL HY HNO
                have hlo := block_lt d1
                simp only at hlo
                go_wp2_with fail
                have kk := Below.refl wr.heap.size wr
                go_region_held3 (fun w' => w'.cell? ⟨g, o + k * 2, none⟩ = some (.int .i64 y) ∧ w'.cell? ⟨g, o + k * 2 + 1, none⟩ = some (.int .i64 t))
                  (go_keep)
                  (first
                    | (go_at_call 126; refine (DL.out _ (below_then hb (by first | exact kk | exact kk.drew | exact below_drewN kk _))).mono ?_; rintro e wx ⟨rfl, hbx⟩; have kk : Below wr.heap.size wr wx := (by first | exact below_then kk hbx | exact below_then kk ⟨hbx.os, hbx.tape, hbx.output, hbx.size, hbx.block⟩); have d1 := (kk.cell (p := ⟨g, o + k * 2, none⟩) hlo).trans d1; have d2 := (kk.cell (p := ⟨g, o + k * 2 + 1, none⟩) hlo).trans d2))
                have hb4 := below_then hb kk
                have hb5 := below_then hb1 kk
                clear DL hbx hb hb1
                by_cases hxt : x = t
                · have HV := Lib.hid (HYY.out (by rw [HQ.out, decide_eq_true hxt]))
                  subst hxt
                  clear HYY HNN HQ
                  go_wp2_with fail
                  go_roundw
                  case rel => exact ⟨k + 1, by omega, by go_num, HV, hb4, hb5⟩
                  case measure => simp [intOf]; omega
                · have HV : Hid (false = z) := Lib.hid (HNN.out (by rw [HQ.out, decide_eq_false hxt])).symm
                  clear HYY HNN HQ
                  go_wp2_with fail
                  go_ret
                  exact ⟨ret_b HV.out, hb4⟩
              · have hkn : k = L.length := by omega
                subst hkn
                have HV := Lib.hid (HY.out (by have := HA.out; rwa [List.take_length] at this))
                clear HY HNO HA
                go_wp2_with fail
                go_roundw
                case rel => exact ⟨i + 1, by omega, by go_num, HV, hb⟩
                case measure => simp [intOf]; omega
          · have hin : i = h.length := by omega
            subst hin
            have HV : Hid (true = z) := Lib.hid (by rw [HR.out]; exact HA.out.symm)
            go_wp2_with fail
            go_ret
            exact ⟨ret_b HV.out, hb⟩
end Go.Proofs.YtfancjmhdbaoeaaGreatDoor

namespace Go.Proofs.YtfancjmhdbaoeaaGreatDoor
set_option maxRecDepth 100000
open Go.RowKit

set_option maxHeartbeats 16000000 in
theorem rbroken_any (va vr vm : Value) (h : List TxnV) (x : Nat) (hx : x < 64) (l : List Int) (m : List Pr) (i k : Nat) (hi : i < h.length) (hk : k < h.length) (hn : h.length ≤ 64) (w : World) (hT : Txns w va h) (hl : Ints w vr l) (hm : Prs w vm m) :
    Calls Tryz.prog 160 #[va, .int .i64 x, vr, vm, .int .i64 i, .int .i64 k] w fun e w' => e = .returned (.bool (brkR h x l m i k)) ∧ Below w.heap.size w w' := by
  have CS := Lib.hid (fun wx (hx : Below w.heap.size w wx) => rsession_any va h i k wx (hT.below hx) hi hk)
  have CT := Lib.hid (fun wx (hx : Below w.heap.size w wx) => rtime_any va h i k wx (hT.below hx) hi hk)
  have CR := Lib.hid (fun (hne : i ≠ k) wx (hx : Below w.heap.size w wx) => rrivals_any va h i k hi hk hne wx (hT.below hx))
  have CA := Lib.hid (fun (a b : Int) wx (hx : Below w.heap.size w wx) => rahead_any vr l a b wx (hl.below hx))
  have CH := Lib.hid (fun (a b : Int) wx (hx : Below w.heap.size w wx) => phas_any vm m a b wx (hm.below hx))
  have C1 := Lib.hid (fun wx => rl_has x 1 hx (by omega) (by omega) wx)
  have C32 := Lib.hid (fun wx => rl_has x 32 hx (by omega) (by omega) wx)
  have C16 := Lib.hid (fun wx => rl_has x 16 hx (by omega) (by omega) wx)
  have C8 := Lib.hid (fun wx => rl_has x 8 hx (by omega) (by omega) wx)
  have C2 := Lib.hid (fun wx => rl_has x 2 hx (by omega) (by omega) wx)
  have C4 := Lib.hid (fun wx => rl_has x 4 hx (by omega) (by omega) wx)
  have HR : Hid (brkR h x l m i k = (!(decide (i = k)) && (!(hasP m (i : Int) (k : Int)) && ((((hasT x 1 && sesP h i k) || (hasT x 32 && timP h i k)) || (ahR l (i : Int) (k : Int) && (hasT x 16 || (hasT x 8 && rivR h i k)))) || folR m x l (i : Int) (k : Int) h.length)))) := Lib.hid rfl
  have HFO : Hid (folR m x l (i : Int) (k : Int) h.length = (List.range h.length).any fun j => folJ m x l (i : Int) (k : Int) (j : Int)) := Lib.hid rfl
  have HJ := Lib.hid (fun j : Int => show folJ m x l (i : Int) (k : Int) j = (hasP m j (k : Int) && ((hasT x 2 && hasP m (i : Int) j) || (hasT x 4 && ahR l (i : Int) j))) from rfl)
  rw [show sesP h i k = (decide (i < k) && decide (h[i].s = h[k].s)) by unfold sesP; rw [sAt_eq hi, sAt_eq hk], show timP h i k = decide (h[i].c < h[k].b) by unfold timP; rw [cAt_eq hi, bAt_eq hk]] at HR
  obtain ⟨ao, cap, rfl, hal⟩ := hT.form
  obtain ⟨ro, rcap, rfl, hrl⟩ := hl.form
  obtain ⟨mo, mcap, rfl, hml⟩ := hm.form
  clear hT hl hm
  have CA1 := Lib.hid (CA.out (i : Int) (k : Int))
  have CH1 := Lib.hid (CH.out (i : Int) (k : Int))
  generalize brkR h x l m i k = z at *
  generalize folR m x l (i : Int) (k : Int) h.length = z2 at *
  generalize folJ m x l (i : Int) (k : Int) = F at *
  generalize (decide (i < k) && decide (h[i].s = h[k].s)) = p2 at *
  generalize decide (h[i].c < h[k].b) = p3 at *
  generalize rivR h i k = p4 at *
  generalize hasT x 1 = b1 at *
  generalize hasT x 32 = b2 at *
  generalize hasT x 16 = b3 at *
  generalize hasT x 8 = b4 at *
  generalize hasT x 2 = b5 at *
  generalize hasT x 4 = b6 at *
  go_enter Tryz.func160, Tryz.ntmps160
  by_cases hik : i = k
  · have hii : (i : Int) = (k : Int) := by omega
    have hib : ((i : Int) == (k : Int)) = true := beq_iff_eq.2 hii
    have HV : Hid (false = z) := Lib.hid (by rw [HR.out, decide_eq_true hik]; rfl)
    clear HR HJ HFO hik hii
    go_wp2_with fail
    go_ret
    exact ⟨ret_b HV.out, Below.refl _ _⟩
  have hii : ¬ (i : Int) = (k : Int) := by omega
  have hib : ((i : Int) == (k : Int)) = false := beq_eq_false_iff_ne.2 hii
  have CR := Lib.hid (CR.out hik)
  rw [decide_eq_false hik] at HR
  clear hik
  generalize hasP m (i : Int) (k : Int) = p1 at *
  generalize ahR l (i : Int) (k : Int) = p5 at *
  go_wp2_with fail
  refine (CH1.out _ (Below.refl _ _)).mono ?_
  rintro e w1 ⟨rfl, rfl⟩
  cases p1 with
  | true =>
    have HV : Hid (false = z) := Lib.hid (by rw [HR.out]; rfl)
    clear HR HJ HFO
    go_wp2_with fail
    go_ret
    exact ⟨ret_b HV.out, Below.refl _ _⟩
  | false =>
    have hb := Below.refl w.heap.size w
    obtain ⟨s3, hs3⟩ : ∃ s3, s3 = ((b1 && p2) || (b2 && p3)) := ⟨_, rfl⟩
    have HS3 := Lib.hid hs3
    rw [← hs3] at HR
    clear hs3
    go_upto_region 3 with fail
    go_cut [40] from 23 to 40 (fun v wx => v = .bool s3 ∧ Below w.heap.size w wx)
    case first =>
      clear HR HJ HFO
      go_wp2_with fail
      refine (C1.out _).mono ?_
      rintro e w2 ⟨rfl, rfl⟩
      cases b1 with
      | true =>
        go_wp2_with fail
        refine (CS.out _ hb).mono ?_
        rintro e w2 ⟨rfl, hn⟩
        have hb := below_then hb hn
        clear hn
        cases p2 with
        | true =>
          go_wp2_with fail
          go_meet
          exact ⟨by rw [HS3.out]; rfl, hb⟩
        | false =>
          go_wp2_with fail
          refine (C32.out _).mono ?_
          rintro e w2 ⟨rfl, rfl⟩
          cases b2 with
          | true =>
            go_wp2_with fail
            refine (CT.out _ hb).mono ?_
            rintro e w2 ⟨rfl, hn⟩
            have hb := below_then hb hn
            clear hn
            cases p3 with
            | true =>
              go_wp2_with fail
              go_meet
              exact ⟨by rw [HS3.out]; rfl, hb⟩
            | false =>
              go_wp2_with fail
              go_meet
              exact ⟨by rw [HS3.out]; rfl, hb⟩
          | false =>
            go_wp2_with fail
            go_meet
            exact ⟨by rw [HS3.out]; rfl, hb⟩
      | false =>
        go_wp2_with fail
        refine (C32.out _).mono ?_
        rintro e w2 ⟨rfl, rfl⟩
        cases b2 with
        | true =>
          go_wp2_with fail
          refine (CT.out _ hb).mono ?_
          rintro e w2 ⟨rfl, hn⟩
          have hb := below_then hb hn
          clear hn
          cases p3 with
          | true =>
            go_wp2_with fail
            go_meet
            exact ⟨by rw [HS3.out]; rfl, hb⟩
          | false =>
            go_wp2_with fail
            go_meet
            exact ⟨by rw [HS3.out]; rfl, hb⟩
        | false =>
          go_wp2_with fail
          go_meet
          exact ⟨by rw [HS3.out]; rfl, hb⟩
    case rest =>
      obtain ⟨rfl, hb⟩ := hcut
      clear HS3
      cases s3 with
      | true =>
        have HV : Hid (true = z) := Lib.hid (by rw [HR.out]; rfl)
        clear HR HJ HFO
        go_wp2_with fail
        go_ret
        exact ⟨ret_b HV.out, hb⟩
      | false =>
        obtain ⟨s5, hs5⟩ : ∃ s5, s5 = (p5 && (b3 || (b4 && p4))) := ⟨_, rfl⟩
        have HS5 := Lib.hid hs5
        rw [← hs5] at HR
        clear hs5
        go_upto_region 5 with fail
        go_cut [58] from 41 to 58 (fun v wx => v = .bool s5 ∧ Below w.heap.size w wx)
        case first =>
          clear HR HJ HFO
          go_wp2_with fail
          refine (CA1.out _ hb).mono ?_
          rintro e w2 ⟨rfl, rfl⟩
          cases p5 with
          | true =>
            go_wp2_with fail
            refine (C16.out _).mono ?_
            rintro e w2 ⟨rfl, rfl⟩
            cases b3 with
            | true =>
              go_wp2_with fail
              go_meet
              exact ⟨by rw [HS5.out]; rfl, hb⟩
            | false =>
              go_wp2_with fail
              refine (C8.out _).mono ?_
              rintro e w2 ⟨rfl, rfl⟩
              cases b4 with
              | true =>
                go_wp2_with fail
                refine (CR.out _ hb).mono ?_
                rintro e w2 ⟨rfl, hn⟩
                have hb := below_then hb hn
                clear hn
                cases p4 with
                | true =>
                  go_wp2_with fail
                  go_meet
                  exact ⟨by rw [HS5.out]; rfl, hb⟩
                | false =>
                  go_wp2_with fail
                  go_meet
                  exact ⟨by rw [HS5.out]; rfl, hb⟩
              | false =>
                go_wp2_with fail
                go_meet
                exact ⟨by rw [HS5.out]; rfl, hb⟩
          | false =>
            go_wp2_with fail
            go_meet
            exact ⟨by rw [HS5.out]; rfl, hb⟩
        case rest =>
          obtain ⟨rfl, hb⟩ := hcut
          clear HS5
          cases s5 with
          | true =>
            have HV : Hid (true = z) := Lib.hid (by rw [HR.out]; rfl)
            clear HR HJ HFO
            go_wp2_with fail
            go_ret
            exact ⟨ret_b HV.out, hb⟩
          | false =>
            have HZ : Hid (z = z2) := Lib.hid (by rw [HR.out]; rfl)
            clear HR CR CS CT C1 C32 C16 C8 CA1 CH1
            go_wp2_with fail
            go_loopw [13] (fun v wr => ∃ j : Nat, j ≤ h.length ∧ v = .int .i64 j ∧ Hid (((List.range j).any fun j => F (j : Int)) = false) ∧ Below w.heap.size w wr) (fun v _ => h.length - (intOf v).toNat)
            case atStart => exact ⟨0, by omega, rfl, Lib.hid rfl, hb⟩
            case round =>
              clear hb
              obtain ⟨j, hj, rfl, HP, hb⟩ := hrel
              by_cases hlt : j < h.length
              · have hji : (j : Int) < (h.length : Int) := by omega
                have HS := Lib.hid (show ((List.range (j + 1)).any fun j => F (j : Int)) = F (j : Int) by rw [List.range_succ, List.any_append, HP.out]; simp)
                have HY := Lib.hid (show F (j : Int) = true → z = true from fun h => by rw [HZ.out, HFO.out]; exact List.any_eq_true.2 ⟨j, List.mem_range.2 hlt, h⟩)
                have HQ := Lib.hid (HJ.out (j : Int))
                have D1 := Lib.hid (CH.out (j : Int) (k : Int) _ hb)
                have D2 := Lib.hid (CH.out (i : Int) (j : Int) _ hb)
                have D3 := Lib.hid (CA.out (i : Int) (j : Int) _ hb)
                generalize hasP m (j : Int) (k : Int) = p1 at *
                generalize hasP m (i : Int) (j : Int) = p2 at *
                generalize ahR l (i : Int) (j : Int) = p3 at *
                generalize F (j : Int) = q at *
                clear CH CA HJ HP HZ HFO
                go_wp2_with fail
                refine (D1.out).mono ?_
                rintro e w1 ⟨rfl, rfl⟩
                cases p1 with
                | true =>
                  go_wp2_with fail
                  refine (C2.out _).mono ?_
                  rintro e w1 ⟨rfl, rfl⟩
                  cases b5 with
                  | true =>
                    go_wp2_with fail
                    refine (D2.out).mono ?_
                    rintro e w1 ⟨rfl, rfl⟩
                    cases p2 with
                    | true =>
                      have HT : Hid (true = z) := Lib.hid (HY.out (by rw [HQ.out]; rfl)).symm
                      clear HS HQ HY D1 D2 D3
                      go_wp2_with fail
                      go_ret
                      exact ⟨ret_b HT.out, hb⟩
                    | false =>
                      go_wp2_with fail
                      refine (C4.out _).mono ?_
                      rintro e w1 ⟨rfl, rfl⟩
                      cases b6 with
                      | true =>
                        go_wp2_with fail
                        refine (D3.out).mono ?_
                        rintro e w1 ⟨rfl, rfl⟩
                        cases p3 with
                        | true =>
                          have HT : Hid (true = z) := Lib.hid (HY.out (by rw [HQ.out]; rfl)).symm
                          clear HS HQ HY D1 D2 D3
                          go_wp2_with fail
                          go_ret
                          exact ⟨ret_b HT.out, hb⟩
                        | false =>
                          have HN : Hid (((List.range (j + 1)).any fun j => F (j : Int)) = false) := Lib.hid (by rw [HS.out, HQ.out]; rfl)
                          clear HS HQ HY D1 D2 D3
                          go_wp2_with fail
                          go_roundw
                          case rel => exact ⟨j + 1, by omega, by go_num, HN, hb⟩
                          case measure => simp [intOf]; omega
                      | false =>
                        have HN : Hid (((List.range (j + 1)).any fun j => F (j : Int)) = false) := Lib.hid (by rw [HS.out, HQ.out]; rfl)
                        clear HS HQ HY D1 D2 D3
                        go_wp2_with fail
                        go_roundw
                        case rel => exact ⟨j + 1, by omega, by go_num, HN, hb⟩
                        case measure => simp [intOf]; omega
                  | false =>
                    go_wp2_with fail
                    refine (C4.out _).mono ?_
                    rintro e w1 ⟨rfl, rfl⟩
                    cases b6 with
                    | true =>
                      go_wp2_with fail
                      refine (D3.out).mono ?_
                      rintro e w1 ⟨rfl, rfl⟩
                      cases p3 with
                      | true =>
                        have HT : Hid (true = z) := Lib.hid (HY.out (by rw [HQ.out]; rfl)).symm
                        clear HS HQ HY D1 D2 D3
                        go_wp2_with fail
                        go_ret
                        exact ⟨ret_b HT.out, hb⟩
                      | false =>
                        have HN : Hid (((List.range (j + 1)).any fun j => F (j : Int)) = false) := Lib.hid (by rw [HS.out, HQ.out]; rfl)
                        clear HS HQ HY D1 D2 D3
                        go_wp2_with fail
                        go_roundw
                        case rel => exact ⟨j + 1, by omega, by go_num, HN, hb⟩
                        case measure => simp [intOf]; omega
                    | false =>
                      have HN : Hid (((List.range (j + 1)).any fun j => F (j : Int)) = false) := Lib.hid (by rw [HS.out, HQ.out]; rfl)
                      clear HS HQ HY D1 D2 D3
                      go_wp2_with fail
                      go_roundw
                      case rel => exact ⟨j + 1, by omega, by go_num, HN, hb⟩
                      case measure => simp [intOf]; omega
                | false =>
                  have HN : Hid (((List.range (j + 1)).any fun j => F (j : Int)) = false) := Lib.hid (by rw [HS.out, HQ.out]; rfl)
                  clear HS HQ HY D1 D2 D3
                  go_wp2_with fail
                  go_roundw
                  case rel => exact ⟨j + 1, by omega, by go_num, HN, hb⟩
                  case measure => simp [intOf]; omega
              · have hj2 : j = h.length := by omega
                subst hj2
                have HV : Hid (false = z) := Lib.hid (by rw [HZ.out, HFO.out]; exact HP.out.symm)
                clear HP HZ HFO HJ
                go_wp2_with fail
                go_ret
                exact ⟨ret_b HV.out, hb⟩
set_option maxHeartbeats 8000000 in
theorem rkeeps_any (va vr vm : Value) (h : List TxnV) (x : Nat) (hx : x < 64) (l : List Int) (m : List Pr) (hn : h.length ≤ 64) (w : World) (hT : Txns w va h) (hl : Ints w vr l) (hm : Prs w vm m) :
    Calls Tryz.prog 136 #[va, .int .i64 x, vr, vm] w fun e w' => e = .returned (.bool (keepsR h x l m)) ∧ Below w.heap.size w w' := by
  have CB := Lib.hid (fun (i k : Nat) (hi : i < h.length) (hk : k < h.length) wx (hx2 : Below w.heap.size w wx) => rbroken_any va vr vm h x hx l m i k hi hk hn wx (hT.below hx2) (hl.below hx2) (hm.below hx2))
  have HNO := Lib.hid (fun (i k : Nat) (hi : i < h.length) (hk : k < h.length) (hb : brkR h x l m i k = true) => show keepsR h x l m = false by
    cases hq : keepsR h x l m with
    | false => rfl
    | true => have := keepsR_iff.1 hq i k hi hk; rw [this] at hb; cases hb)
  have HYES := Lib.hid (fun (H : ∀ i k : Nat, i < h.length → k < h.length → brkR h x l m i k = false) => keepsR_iff.2 H)
  obtain ⟨ao, cap, rfl, hal⟩ := hT.form
  obtain ⟨ro, rcap, rfl, hrl⟩ := hl.form
  obtain ⟨mo, mcap, rfl, hml⟩ := hm.form
  clear hT hl hm hn
  generalize keepsR h x l m = z at *
  go_enter Tryz.func136, Tryz.ntmps136
  go_wp2_with fail
  go_loopw [9] (fun iv wr => ∃ i : Nat, i ≤ h.length ∧ iv = .int .i64 i ∧ Hid (DoneTo h.length (fun i k => brkR h x l m i k = false) i 0) ∧ Below w.heap.size w wr) (fun iv _ => h.length - (intOf iv).toNat)
  case atStart => exact ⟨0, by omega, rfl, Lib.hid DoneTo.none, Below.refl _ _⟩
  case round =>
    obtain ⟨i, hi, rfl, HD, hb⟩ := hrel
    by_cases hlt : i < h.length
    · have hii : (i : Int) < (h.length : Int) := by omega
      go_wp2_with fail
      go_loopw [10] (fun kv wr => ∃ k : Nat, k ≤ h.length ∧ kv = .int .i64 k ∧ Hid (DoneTo h.length (fun i k => brkR h x l m i k = false) i k) ∧ Below w.heap.size w wr) (fun kv _ => h.length - (intOf kv).toNat)
      case atStart => exact ⟨0, by omega, rfl, HD, hb⟩
      case round =>
        clear HD hb
        obtain ⟨k, hk, rfl, HD, hb⟩ := hrel
        by_cases hlk : k < h.length
        · have hkk : (k : Int) < (h.length : Int) := by omega
          have DB := Lib.hid (CB.out i k hlt hlk _ hb)
          have HNN := Lib.hid (HNO.out i k hlt hlk)
          have HYY := Lib.hid (fun hb : brkR h x l m i k = false => HD.out.next hb)
          clear HD CB HNO HYES
          generalize hbr : brkR h x l m i k = q at *
          clear hbr
          go_wp2_with fail
          refine (DB.out).mono ?_
          rintro e w2 ⟨rfl, h2⟩
          have hb2 := below_then hb h2
          cases q with
          | true =>
            have HV : Hid (false = z) := Lib.hid (HNN.out rfl).symm
            clear HNN HYY DB
            go_wp2_with fail
            go_ret
            exact ⟨ret_b HV.out, hb2⟩
          | false =>
            have HV := Lib.hid (HYY.out rfl)
            clear HNN HYY DB
            go_wp2_with fail
            go_roundw
            case rel => exact ⟨k + 1, by omega, by go_num, HV, hb2⟩
            case measure => simp [intOf]; omega
        · have hkn : k = h.length := by omega
          have HV : Hid (DoneTo h.length (fun i k => brkR h x l m i k = false) (i + 1) 0) := Lib.hid (by have := HD.out; rw [hkn] at this; exact this.row)
          have hnk : ¬ (k : Int) < (h.length : Int) := by omega
          clear HD hkn CB
          go_wp2_with fail
          go_roundw
          case rel => exact ⟨i + 1, by omega, by go_num, HV, hb⟩
          case measure => simp [intOf]; omega
    · have hin : i = h.length := by omega
      have HV : Hid (true = z) := Lib.hid (HYES.out (by have := HD.out; rw [hin] at this; exact fun a b ha hb => this.all a b ha hb)).symm
      have hni : ¬ (i : Int) < (h.length : Int) := by omega
      clear HD hin CB HNO HYES
      go_wp2_with fail
      go_ret
      exact ⟨ret_b HV.out, hb⟩
set_option maxHeartbeats 8000000 in
theorem rholds12_any (va vr vm : Value) (h : List TxnV) (lv : Int) (l : List Int) (m : List Pr) (hc : checkI h = 0) (w : World) (hT : Txns w va h) (hl : Ints w vr l) (hm : Prs w vm m) :
    Calls Tryz.prog 71 #[va, .int .i64 lv, vr, vm] w fun e w' => e = .returned (.bool (holdsR h lv l m)) ∧ Below w.heap.size w w' := by
  have hn := (check_zero hc).1
  have CS := Lib.hid (rsound_any va h hc w hT)
  have CR := Lib.hid (fun wx (hx : Below w.heap.size w wx) => rright12_any va vr vm h l m wx hn (hT.below hx) (hl.below hx) (hm.below hx))
  have CK := Lib.hid (fun wx (hx : Below w.heap.size w wx) => rkeeps_any va vr vm h (askN lv) (askN_lt lv) l m hn wx (hT.below hx) (hl.below hx) (hm.below hx))
  have CA := Lib.hid (fun wx => rl_asks lv wx)
  have HR : Hid (holdsR h lv l m = (isLv lv && (soundTo h h.length && (rightR h l m && keepsR h (askN lv) l m)))) := Lib.hid rfl
  have HI : Hid (isLv lv = decide (0 ≤ lv ∧ lv < 12)) := Lib.hid rfl
  obtain ⟨ao, cap, rfl, hal⟩ := hT.form
  obtain ⟨ro, rcap, rfl, hrl⟩ := hl.form
  obtain ⟨mo, mcap, rfl, hml⟩ := hm.form
  clear hT hl hm hn hc
  generalize holdsR h lv l m = z at *
  generalize soundTo h h.length = s at *
  generalize rightR h l m = r at *
  generalize keepsR h (askN lv) l m = q at *
  generalize askN lv = y at *
  generalize isLv lv = il at *
  go_enter Tryz.func71, Tryz.ntmps71
  by_cases h0 : 0 ≤ lv
  rotate_left
  · have HV : Hid (false = z) := Lib.hid (by rw [HR.out, HI.out, decide_eq_false (by omega)]; rfl)
    have hd0 : decide (0 ≤ lv) = false := decide_eq_false h0
    clear HR HI
    go_wp2_with fail
    go_ret
    exact ⟨ret_b HV.out, Below.refl _ _⟩
  by_cases h12 : lv < 12
  rotate_left
  · have HV : Hid (false = z) := Lib.hid (by rw [HR.out, HI.out, decide_eq_false (by omega)]; rfl)
    have hd0 : decide (0 ≤ lv) = true := decide_eq_true h0
    have hd1 : decide (lv < 12) = false := decide_eq_false h12
    clear HR HI
    go_wp2_with fail
    go_ret
    exact ⟨ret_b HV.out, Below.refl _ _⟩
  have hil : il = true := by rw [HI.out]; exact decide_eq_true ⟨h0, h12⟩
  rw [hil] at HR
  clear HI hil
  have hd0 : decide (0 ≤ lv) = true := decide_eq_true h0
  have hd1 : decide (lv < 12) = true := decide_eq_true h12
  go_wp2_with fail
  refine (CS.out).mono ?_
  rintro e w2 ⟨rfl, hb⟩
  cases s with
  | false =>
    go_wp2_with fail
    go_ret
    exact ⟨ret_b (by rw [HR.out]; rfl), hb⟩
  | true =>
    go_wp2_with fail
    refine (CR.out _ hb).mono ?_
    rintro e w3 ⟨rfl, h3⟩
    have hb := below_then hb h3
    clear h3
    cases r with
    | false =>
      go_wp2_with fail
      go_ret
      exact ⟨ret_b (by rw [HR.out]; rfl), hb⟩
    | true =>
      go_wp2_with fail
      refine (CA.out _).mono ?_
      rintro e w4 ⟨rfl, rfl⟩
      go_wp2_with fail
      refine (CK.out _ hb).mono ?_
      rintro e w5 ⟨rfl, h5⟩
      have hb := below_then hb h5
      clear h5
      cases q with
      | false =>
        go_wp2_with fail
        go_ret
        exact ⟨ret_b (by rw [HR.out]; rfl), hb⟩
      | true =>
        go_wp2_with fail
        go_ret
        exact ⟨ret_b (by rw [HR.out]; rfl), hb⟩
end Go.Proofs.YtfancjmhdbaoeaaGreatDoor
