/- Plain facts: what pairs say of a relation, and what it says of them; nothing of the program. -/
import Derived.Test.YtjfegknokombgaaDoorRelO
import Derived.Test.YtjfegknokombgaaDoorSetI
namespace Go.Proofs.YtjfegknokombgaaDoor
set_option maxRecDepth 100000
open Go.RowKit

theorem nodup_map {α β : Type} (f : α → β) (hf : ∀ a b, f a = f b → a = b) : ∀ {l : List α}, l.Nodup → (l.map f).Nodup := by
  intro l h
  induction l with
  | nil => exact List.nodup_nil
  | cons a l ih =>
    rw [List.nodup_cons] at h
    rw [List.map_cons, List.nodup_cons]
    refine ⟨?_, ih h.2⟩
    intro hm
    obtain ⟨b, hb, e⟩ := List.mem_map.1 hm
    exact h.1 (hf b a e ▸ hb)
/-- The pairs are the relation's, each once. -/
def Rep (R : Mat) (m : List Pr) : Prop := m.Nodup ∧ ∀ a b, (a, b) ∈ m ↔ ∃ i j : Nat, i < 64 ∧ j < 64 ∧ a = (i : Int) ∧ b = (j : Int) ∧ R i j = true
theorem addM_iff (R : Mat) (a b : Int) (i j : Nat) (hi : i < 64) (hj : j < 64) : addM R a b i j = true ↔ R i j = true ∨ (a = (i : Int) ∧ b = (j : Int)) := by
  unfold addM
  split
  · rename_i h
    have h1 := (mayB_iff a).1 h.1
    have h2 := (mayB_iff b).1 h.2
    unfold rowSet
    by_cases e : i = a.toNat
    · rw [if_pos e, ← e, Bool.or_eq_true, decide_eq_true_iff]
      apply or_congr Iff.rfl
      constructor
      · intro h; omega
      · intro h; omega
    · rw [if_neg e]
      constructor
      · exact .inl
      · rintro (h | h)
        · exact h
        · omega
  · rename_i h
    constructor
    · exact .inl
    · rintro (h' | ⟨rfl, rfl⟩)
      · exact h'
      · exact absurd ⟨(mayB_iff _).2 (by omega), (mayB_iff _).2 (by omega)⟩ h
theorem addAll_iff (i j : Nat) (hi : i < 64) (hj : j < 64) : ∀ (l : List Pr) (R : Mat), addAll R l i j = true ↔ R i j = true ∨ ((i : Int), (j : Int)) ∈ l
  | [], R => by simp [addAll]
  | p :: l, R => by
    have e : addAll R (p :: l) = addAll (addM R p.1 p.2) l := rfl
    rw [e, addAll_iff i j hi hj l, addM_iff R _ _ i j hi hj, List.mem_cons, or_assoc]
    apply or_congr Iff.rfl
    apply or_congr _ Iff.rfl
    constructor
    · rintro ⟨h1, h2⟩; exact Prod.ext h1.symm h2.symm
    · intro h; exact ⟨(congrArg Prod.fst h).symm, (congrArg Prod.snd h).symm⟩
theorem mem_ofP {l : List Pr} {p : Pr} : p ∈ ofP l ↔ p ∈ l ∧ rightB p = true := by
  unfold ofP
  rw [mem_putAll, List.mem_filter]; simp
theorem rightB_iff (p : Pr) : rightB p = true ↔ (0 ≤ p.1 ∧ p.1 < 64) ∧ (0 ≤ p.2 ∧ p.2 < 64) := by
  unfold rightB; rw [Bool.and_eq_true, mayB_iff, mayB_iff]
theorem rep_of (l : List Pr) : Rep (addAll noR l) (ofP l) := by
  refine ⟨putAll_nodup _ List.nodup_nil, fun a b => ?_⟩
  rw [mem_ofP, rightB_iff]
  constructor
  · rintro ⟨h, ⟨h1, h2⟩, h3, h4⟩
    refine ⟨a.toNat, b.toNat, by omega, by omega, by omega, by omega, ?_⟩
    rw [addAll_iff _ _ (by omega) (by omega)]
    right
    have e1 : ((a.toNat : Nat) : Int) = a := by omega
    have e2 : ((b.toNat : Nat) : Int) = b := by omega
    rw [e1, e2]; exact h
  · rintro ⟨i, j, hi, hj, rfl, rfl, h⟩
    rw [addAll_iff _ _ hi hj] at h
    refine ⟨h.resolve_left (by simp [noR]), by simp; omega, by simp; omega⟩
/-- The pairs of the rows below k. -/
def pairsTo (R : Mat) (k : Nat) : List Pr := (List.range k).flatMap fun i => (lst (mkS (R i))).map fun j : Nat => (((i : Int), (j : Int)) : Pr)
theorem pairsTo_succ (R : Mat) (k : Nat) : pairsTo R (k + 1) = pairsTo R k ++ (lst (mkS (R k))).map fun j : Nat => (((k : Int), (j : Int)) : Pr) := by
  unfold pairsTo; rw [List.range_succ, List.flatMap_append]; simp
theorem pairsTo_len (R : Mat) : ∀ k, (pairsTo R k).length = cntTo R k
  | 0 => rfl
  | k + 1 => by rw [pairsTo_succ, List.length_append, pairsTo_len R k, List.length_map]; rfl
theorem mem_pairsTo (R : Mat) (k : Nat) (a b : Int) : (a, b) ∈ pairsTo R k ↔ ∃ i j : Nat, i < k ∧ j < 64 ∧ a = (i : Int) ∧ b = (j : Int) ∧ R i j = true := by
  unfold pairsTo
  rw [List.mem_flatMap]
  constructor
  · rintro ⟨i, hi, h⟩
    obtain ⟨j, hj, e⟩ := List.mem_map.1 h
    have hj' := mem_lst.1 hj
    rw [testBit_mkS, Bool.and_eq_true] at hj'
    exact ⟨i, j, List.mem_range.1 hi, hj'.1, (congrArg Prod.fst e).symm, (congrArg Prod.snd e).symm, hj'.2.2⟩
  · rintro ⟨i, j, hi, hj, rfl, rfl, h⟩
    refine ⟨i, List.mem_range.2 hi, List.mem_map.2 ⟨j, mem_lst.2 ⟨hj, ?_⟩, rfl⟩⟩
    rw [testBit_mkS, h]; simp [hj]
theorem pairsTo_nodup (R : Mat) : ∀ k, (pairsTo R k).Nodup
  | 0 => List.nodup_nil
  | k + 1 => by
    rw [pairsTo_succ, List.nodup_append]
    refine ⟨pairsTo_nodup R k, ?_, ?_⟩
    · exact nodup_map (fun j : Nat => (((k : Int), (j : Int)) : Pr)) (fun a b h => by have := congrArg Prod.snd h; simp at this; omega) (lst_nodup _)
    · rintro ⟨a, b⟩ hx ⟨c, d⟩ hy he
      obtain ⟨i, j, hi, _, rfl, _, _⟩ := (mem_pairsTo R k a b).1 hx
      obtain ⟨j', _, e⟩ := List.mem_map.1 hy
      have e1 := congrArg Prod.fst e
      have e2 := congrArg Prod.fst he
      simp at e1 e2; omega
theorem hasR_rep {R : Mat} {m : List Pr} (h : Rep R m) (a b : Int) : hasR R a b = true ↔ (a, b) ∈ m := by
  rw [h.2]
  unfold hasR
  rw [Bool.and_eq_true, mayB_iff]
  constructor
  · rintro ⟨ha, hb⟩
    unfold hasB at hb
    rw [Bool.and_eq_true, decide_eq_true_iff, testBit_mkS, Bool.and_eq_true] at hb
    exact ⟨a.toNat, b.toNat, by omega, by omega, by omega, by omega, hb.2.2⟩
  · rintro ⟨i, j, hi, hj, rfl, rfl, h⟩
    refine ⟨by omega, ?_⟩
    rw [Int.toNat_natCast, hasB_mkS _ _ hj]; exact h
theorem same_rep {R : Mat} {m : List Pr} (h : Rep R m) : sameB R m = true := by
  unfold sameB allHasTo
  rw [Bool.and_eq_true, decide_eq_true_iff]
  refine ⟨?_, ?_⟩
  · rw [List.take_length, List.all_eq_true]
    rintro ⟨a, b⟩ hp
    exact (hasR_rep h a b).2 hp
  · rw [← pairsTo_len]
    exact nodup_eq (pairsTo_nodup R 64) h.1 (fun ⟨a, b⟩ => by rw [mem_pairsTo, h.2])
theorem rep_or {R S : Mat} {m n : List Pr} (hR : Rep R m) (hS : Rep S n) : Rep (orR R S) (putAll m n) := by
  refine ⟨putAll_nodup _ hR.1, fun a b => ?_⟩
  rw [mem_putAll, hR.2, hS.2]
  constructor
  · rintro (⟨i, j, hi, hj, h1, h2, h⟩ | ⟨i, j, hi, hj, h1, h2, h⟩)
    · exact ⟨i, j, hi, hj, h1, h2, by unfold orR; rw [h]; rfl⟩
    · exact ⟨i, j, hi, hj, h1, h2, by unfold orR; rw [h]; simp⟩
  · rintro ⟨i, j, hi, hj, h1, h2, h⟩
    unfold orR at h
    rw [Bool.or_eq_true] at h
    rcases h with h | h
    · exact .inl ⟨i, j, hi, hj, h1, h2, h⟩
    · exact .inr ⟨i, j, hi, hj, h1, h2, h⟩
theorem rep_then {R S : Mat} {m n : List Pr} (hR : Rep R m) (hS : Rep S n) : Rep (thenR R S) (thenP m n) := by
  refine ⟨thenP_nodup _ _, fun a b => ?_⟩
  rw [mem_thenP]
  constructor
  · rintro ⟨⟨x, y⟩, hp, ⟨u, v⟩, hq, h1, h2⟩
    obtain ⟨i, k, hi, hk, rfl, rfl, hr⟩ := (hR.2 x y).1 hp
    obtain ⟨k', j, hk', hj, rfl, rfl, hs⟩ := (hS.2 u v).1 hq
    simp at h1 h2
    obtain ⟨rfl, rfl⟩ := h2
    obtain rfl : k = k' := by omega
    refine ⟨i, j, hi, hj, rfl, rfl, ?_⟩
    unfold thenR
    rw [List.any_eq_true]
    exact ⟨k, List.mem_range.2 hk, by rw [hr, hs]; rfl⟩
  · rintro ⟨i, j, hi, hj, rfl, rfl, h⟩
    unfold thenR at h
    rw [List.any_eq_true] at h
    obtain ⟨k, hk, h⟩ := h
    rw [Bool.and_eq_true] at h
    exact ⟨((i : Int), (k : Int)), (hR.2 _ _).2 ⟨i, k, hi, List.mem_range.1 hk, rfl, rfl, h.1⟩, ((k : Int), (j : Int)), (hS.2 _ _).2 ⟨k, j, List.mem_range.1 hk, hj, rfl, rfl, h.2⟩, rfl, rfl⟩
def swapP (m : List Pr) : List Pr := m.map fun p => (p.2, p.1)
theorem rep_turn {R : Mat} {m : List Pr} (hR : Rep R m) : Rep (turnR R) (swapP m) := by
  refine ⟨?_, fun a b => ?_⟩
  · unfold swapP
    exact nodup_map (fun p : Pr => ((p.2, p.1) : Pr)) (fun a b h => Prod.ext (congrArg Prod.snd h) (congrArg Prod.fst h)) hR.1
  · unfold swapP
    rw [List.mem_map]
    constructor
    · rintro ⟨⟨x, y⟩, hp, e⟩
      obtain ⟨i, j, hi, hj, rfl, rfl, h⟩ := (hR.2 x y).1 hp
      exact ⟨j, i, hj, hi, (congrArg Prod.fst e).symm, (congrArg Prod.snd e).symm, h⟩
    · rintro ⟨i, j, hi, hj, rfl, rfl, h⟩
      exact ⟨((j : Int), (i : Int)), (hR.2 _ _).2 ⟨j, i, hj, hi, rfl, rfl, h⟩, rfl⟩
theorem PathP.cons {l : List Pr} {a b c : Int} (h : (a, b) ∈ l) (k : PathP l b c) : PathP l a c := by
  induction k with
  | one h' => exact .more (.one h) h'
  | more _ h' ih => exact .more ih h'
theorem path_rep {R : Mat} {m : List Pr} (hR : Rep R m) (a b : Int) : PathP m a b ↔ ∃ i j : Nat, i < 64 ∧ j < 64 ∧ a = (i : Int) ∧ b = (j : Int) ∧ Path R i j := by
  constructor
  · intro h
    induction h with
    | one h =>
      obtain ⟨i, j, hi, hj, rfl, rfl, hr⟩ := (hR.2 _ _).1 h
      exact ⟨i, j, hi, hj, rfl, rfl, .one hr⟩
    | more _ h ih =>
      obtain ⟨i, j, hi, hj, rfl, rfl, hp⟩ := ih
      obtain ⟨j', k, _, hk, e, rfl, hr⟩ := (hR.2 _ _).1 h
      obtain rfl : j = j' := by omega
      exact ⟨i, k, hi, hk, rfl, rfl, hp.trans hj (.one hr)⟩
  · rintro ⟨i, j, hi, hj, rfl, rfl, h⟩
    induction h with
    | one h => exact .one ((hR.2 _ _).2 ⟨_, _, hi, hj, rfl, rfl, h⟩)
    | more h hm _ ih => exact .cons ((hR.2 _ _).2 ⟨_, _, hi, hm, rfl, rfl, h⟩) (ih hm hj)
theorem rep_clo {R : Mat} {m c : List Pr} (hR : Rep R m) (hi : CloInv m c) (hd : (cloNext c m).length = c.length) : Rep (clo R) c := by
  refine ⟨hi.nodup, fun a b => ?_⟩
  rw [hi.done hd, path_rep hR]
  constructor
  · rintro ⟨i, j, h1, h2, h3, h4, h⟩; exact ⟨i, j, h1, h2, h3, h4, (clo_iff R i j).2 h⟩
  · rintro ⟨i, j, h1, h2, h3, h4, h⟩; exact ⟨i, j, h1, h2, h3, h4, (clo_iff R i j).1 h⟩
theorem acy_rep {R : Mat} {m c : List Pr} (hR : Rep R m) (hi : CloInv m c) (hd : (cloNext c m).length = c.length) : irrP c = acy R := by
  rw [Bool.eq_iff_iff, irrP_iff hi hd, acy_iff]
  constructor
  · intro h i hi' hp; exact h i ((path_rep hR _ _).2 ⟨i, i, hi', hi', rfl, rfl, hp⟩)
  · intro h a hp
    obtain ⟨i, j, hi', _, rfl, e, hp⟩ := (path_rep hR _ _).1 hp
    obtain rfl : i = j := by omega
    exact h i hi' hp
/-- Are the first k pairs among others? -/
def inPTo (m n : List Pr) (k : Nat) : Bool := (m.take k).all fun p => hasP n p.1 p.2
theorem inPTo_succ (m n : List Pr) (k : Nat) (hk : k < m.length) : inPTo m n (k + 1) = (inPTo m n k && hasP n m[k].1 m[k].2) := by
  unfold inPTo
  rw [List.take_succ_eq_append_getElem hk, List.all_append]; simp
theorem within_rep {R S : Mat} {m n : List Pr} (hR : Rep R m) (hS : Rep S n) : inM R S = inPTo m n m.length := by
  rw [Bool.eq_iff_iff]
  unfold inM inMTo inPTo
  rw [List.take_length, List.all_eq_true, List.all_eq_true]
  constructor
  · rintro h ⟨a, b⟩ hp
    obtain ⟨i, j, hi, hj, rfl, rfl, hr⟩ := (hR.2 _ _).1 hp
    have := (inB_iff (isSet_mkS _)).1 (h i (List.mem_range.2 hi)) j hj (by rw [testBit_mkS, hr]; simp [hj])
    rw [testBit_mkS, Bool.and_eq_true] at this
    exact hasP_iff.2 ((hS.2 _ _).2 ⟨i, j, hi, hj, rfl, rfl, this.2⟩)
  · intro h i hi
    have hi' := List.mem_range.1 hi
    rw [inB_iff (isSet_mkS _)]
    intro j hj hb
    rw [testBit_mkS, Bool.and_eq_true] at hb ⊢
    have := hasP_iff.1 (h ((i : Int), (j : Int)) ((hR.2 _ _).2 ⟨i, j, hi', hj, rfl, rfl, hb.2⟩))
    obtain ⟨i2, j2, _, _, e1, e2, hs⟩ := (hS.2 _ _).1 this
    obtain rfl : i = i2 := by omega
    obtain rfl : j = j2 := by omega
    exact ⟨hb.1, hs⟩
end Go.Proofs.YtjfegknokombgaaDoor
