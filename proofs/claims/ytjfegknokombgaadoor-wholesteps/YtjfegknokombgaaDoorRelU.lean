/- Plain facts: a row as a relation, as pairs, and whether one is there twice; nothing of the program. -/
import Derived.Test.YtjfegknokombgaaDoorRelT
namespace Go.Proofs.YtjfegknokombgaaDoor
set_option maxRecDepth 100000
open Go.RowKit

/-- One number with each of some behind it, put in. -/
def inP (o : List Pr) (a : Int) (M : List Int) : List Pr := M.foldl (fun o b => if rightB (a, b) then putP o a b else o) o
def inT (t : Bool) (a : Int) (M : List Int) : Bool := M.foldl (fun t b => if rightB (a, b) then t || a == b else t) t
theorem inP_succ (o : List Pr) (a : Int) (M : List Int) (j : Nat) (hj : j < M.length) : inP o a (M.take (j + 1)) = if rightB (a, M[j]) then putP (inP o a (M.take j)) a M[j] else inP o a (M.take j) := by
  unfold inP; rw [List.take_succ_eq_append_getElem hj, List.foldl_append]; rfl
theorem inT_succ (t : Bool) (a : Int) (M : List Int) (j : Nat) (hj : j < M.length) : inT t a (M.take (j + 1)) = if rightB (a, M[j]) then inT t a (M.take j) || a == M[j] else inT t a (M.take j) := by
  unfold inT; rw [List.take_succ_eq_append_getElem hj, List.foldl_append]; rfl
theorem mem_inP {a : Int} {x : Pr} : ∀ (M : List Int) (o : List Pr), x ∈ inP o a M ↔ x ∈ o ∨ ∃ b ∈ M, rightB (a, b) = true ∧ x = (a, b)
  | [], o => by simp [inP]
  | c :: M, o => by
    have e : inP o a (c :: M) = inP (if rightB (a, c) then putP o a c else o) a M := rfl
    rw [e, mem_inP M]
    by_cases h : rightB (a, c) = true
    · rw [if_pos h, mem_putP, or_assoc]
      apply or_congr Iff.rfl
      constructor
      · rintro (rfl | ⟨b, hb, h1, h2⟩)
        · exact ⟨c, List.mem_cons_self, h, rfl⟩
        · exact ⟨b, List.mem_cons_of_mem _ hb, h1, h2⟩
      · rintro ⟨b, hb, h1, h2⟩
        rcases List.mem_cons.1 hb with rfl | hb
        · exact .inl h2
        · exact .inr ⟨b, hb, h1, h2⟩
    · rw [if_neg h]
      apply or_congr Iff.rfl
      constructor
      · rintro ⟨b, hb, h1, h2⟩; exact ⟨b, List.mem_cons_of_mem _ hb, h1, h2⟩
      · rintro ⟨b, hb, h1, h2⟩
        rcases List.mem_cons.1 hb with rfl | hb
        · exact absurd h1 h
        · exact ⟨b, hb, h1, h2⟩
theorem inT_iff {a : Int} : ∀ (M : List Int) (t : Bool), inT t a M = true ↔ t = true ∨ (rightB (a, a) = true ∧ a ∈ M)
  | [], t => by simp [inT]
  | c :: M, t => by
    have e : inT t a (c :: M) = inT (if rightB (a, c) then t || a == c else t) a M := rfl
    rw [e, inT_iff M, List.mem_cons]
    by_cases h : rightB (a, c) = true
    · rw [if_pos h, Bool.or_eq_true, beq_iff_eq]
      constructor
      · rintro ((h1 | rfl) | ⟨h1, h2⟩)
        · exact .inl h1
        · exact .inr ⟨h, .inl rfl⟩
        · exact .inr ⟨h1, .inr h2⟩
      · rintro (h1 | ⟨h1, rfl | h2⟩)
        · exact .inl (.inl h1)
        · exact .inl (.inr rfl)
        · exact .inr ⟨h1, h2⟩
    · rw [if_neg h]
      constructor
      · rintro (h1 | ⟨h1, h2⟩)
        · exact .inl h1
        · exact .inr ⟨h1, .inr h2⟩
      · rintro (h1 | ⟨h1, rfl | h2⟩)
        · exact .inl h1
        · exact absurd h1 h
        · exact .inr ⟨h1, h2⟩
theorem inP_nodup {a : Int} : ∀ (M : List Int) {o : List Pr}, o.Nodup → (inP o a M).Nodup
  | [], _, h => h
  | c :: M, o, h => inP_nodup M (by show (if rightB (a, c) then putP o a c else o).Nodup; split; exact putP_nodup h; exact h)
theorem inP_len {a : Int} : ∀ (M : List Int) (o : List Pr), (inP o a M).length ≤ o.length + M.length
  | [], o => by simp [inP]
  | c :: M, o => by
    have e : inP o a (c :: M) = inP (if rightB (a, c) then putP o a c else o) a M := rfl
    have h1 := inP_len (a := a) M (if rightB (a, c) then putP o a c else o)
    have h2 := (putP_len o a c).1
    have h3 : (if rightB (a, c) then putP o a c else o).length ≤ o.length + 1 := by split <;> omega
    rw [e, List.length_cons]; omega
/-- The pairs of a row's first k, each with all behind it. -/
def rowP (L : List Int) : Nat → List Pr
  | 0 => []
  | k + 1 => inP (rowP L k) (L.getD k 0) (L.drop (k + 1))
def rowT (L : List Int) : Nat → Bool
  | 0 => false
  | k + 1 => inT (rowT L k) (L.getD k 0) (L.drop (k + 1))
theorem rowP_nodup (L : List Int) : ∀ k, (rowP L k).Nodup
  | 0 => List.nodup_nil
  | k + 1 => inP_nodup _ (rowP_nodup L k)
theorem rowP_len (L : List Int) : ∀ k, (rowP L k).length ≤ k * L.length
  | 0 => by simp [rowP]
  | k + 1 => by
    have h1 := inP_len (a := L.getD k 0) (L.drop (k + 1)) (rowP L k)
    have h2 := rowP_len L k
    have h3 : (L.drop (k + 1)).length ≤ L.length := by simp
    show (inP (rowP L k) (L.getD k 0) (L.drop (k + 1))).length ≤ _
    rw [Nat.succ_mul]; omega
theorem mem_rowP (L : List Int) (x : Pr) : ∀ k, x ∈ rowP L k ↔ ∃ i, i < k ∧ ∃ b ∈ L.drop (i + 1), rightB (L.getD i 0, b) = true ∧ x = (L.getD i 0, b)
  | 0 => by simp [rowP]
  | k + 1 => by
    show x ∈ inP (rowP L k) (L.getD k 0) (L.drop (k + 1)) ↔ _
    rw [mem_inP, mem_rowP L x k]
    constructor
    · rintro (⟨i, hi, h⟩ | h)
      · exact ⟨i, by omega, h⟩
      · exact ⟨k, by omega, h⟩
    · rintro ⟨i, hi, h⟩
      rcases Nat.lt_or_ge i k with h' | h'
      · exact .inl ⟨i, h', h⟩
      · obtain rfl : i = k := by omega
        exact .inr h
theorem rowT_iff (L : List Int) : ∀ k, rowT L k = true ↔ ∃ i, i < k ∧ rightB (L.getD i 0, L.getD i 0) = true ∧ L.getD i 0 ∈ L.drop (i + 1)
  | 0 => by simp [rowT]
  | k + 1 => by
    show inT (rowT L k) (L.getD k 0) (L.drop (k + 1)) = true ↔ _
    rw [inT_iff, rowT_iff L k]
    constructor
    · rintro (⟨i, hi, h⟩ | h)
      · exact ⟨i, by omega, h⟩
      · exact ⟨k, by omega, h⟩
    · rintro ⟨i, hi, h⟩
      rcases Nat.lt_or_ge i k with h' | h'
      · exact .inl ⟨i, h', h⟩
      · obtain rfl : i = k := by omega
        exact .inr h
/-- One stands ahead of another one in a row. -/
def Ahead : List Int → Int → Int → Prop
  | [], _, _ => False
  | c :: L, a, b => Ahead L a b ∨ (c = a ∧ b ∈ L)
theorem Ahead.mem {a b : Int} : ∀ {L : List Int}, Ahead L a b → a ∈ L ∧ b ∈ L
  | [], h => h.elim
  | c :: L, h => by
    rcases h with h | ⟨rfl, h⟩
    · exact ⟨List.mem_cons_of_mem _ (Ahead.mem h).1, List.mem_cons_of_mem _ (Ahead.mem h).2⟩
    · exact ⟨List.mem_cons_self, List.mem_cons_of_mem _ h⟩
theorem ahead_at {a b : Int} : ∀ {L : List Int}, Ahead L a b ↔ ∃ i, i < L.length ∧ L.getD i 0 = a ∧ b ∈ L.drop (i + 1)
  | [] => by simp [Ahead]
  | c :: L => by
    unfold Ahead
    rw [ahead_at]
    constructor
    · rintro (⟨i, hi, h1, h2⟩ | ⟨rfl, h⟩)
      · exact ⟨i + 1, by simpa using hi, by simpa using h1, by simpa using h2⟩
      · exact ⟨0, by simp, by simp, by simpa using h⟩
    · rintro ⟨i, hi, h1, h2⟩
      cases i with
      | zero => exact .inr ⟨by simpa using h1, by simpa using h2⟩
      | succ i => exact .inl ⟨i, by simpa using hi, by simpa using h1, by simpa using h2⟩
theorem Ahead.trans {a m b : Int} : ∀ {L : List Int}, Ahead L a m → Ahead L m b → ¬ Ahead L m m → Ahead L a b
  | [], h, _, _ => h.elim
  | c :: L, h, k, hno => by
    rcases h with h | ⟨rfl, h⟩
    · rcases k with k | ⟨rfl, k⟩
      · exact .inl (Ahead.trans h k fun x => hno (.inl x))
      · exact absurd (.inr ⟨rfl, h.mem.2⟩) hno
    · rcases k with k | ⟨rfl, k⟩
      · exact .inr ⟨rfl, k.mem.2⟩
      · exact .inr ⟨rfl, k⟩
theorem behB_iff (L : List Int) (j : Nat) : behB L j = true ↔ (j : Int) ∈ L := by
  unfold behB
  rw [List.any_eq_true]
  constructor
  · rintro ⟨a, ha, e⟩; rw [beq_iff_eq] at e; exact e ▸ ha
  · intro h; exact ⟨_, h, by simp⟩
theorem chainR_iff (i j : Nat) : ∀ (L : List Int), chainR L i j = true ↔ Ahead L i j
  | [] => by simp [chainR, noR, Ahead]
  | c :: L => by
    show (chainR L i j || (c == (i : Int) && behB L j)) = true ↔ _
    rw [Bool.or_eq_true, Bool.and_eq_true, chainR_iff i j L, beq_iff_eq, behB_iff]; rfl
theorem rep_chain (L : List Int) : Rep (chainR L) (rowP L L.length) := by
  refine ⟨rowP_nodup _ _, fun a b => ?_⟩
  rw [mem_rowP]
  constructor
  · rintro ⟨i, hi, b', hb, hr, e⟩
    obtain ⟨rfl, rfl⟩ := Prod.mk.inj e
    have hr' := (rightB_iff _).1 hr
    simp only at hr'
    refine ⟨(L.getD i 0).toNat, b.toNat, by omega, by omega, by omega, by omega, ?_⟩
    rw [chainR_iff, ahead_at]
    have e1 : (((L.getD i 0).toNat : Nat) : Int) = L.getD i 0 := by omega
    have e2 : ((b.toNat : Nat) : Int) = b := by omega
    rw [e1, e2]
    exact ⟨i, hi, rfl, hb⟩
  · rintro ⟨i, j, hi, hj, rfl, rfl, h⟩
    rw [chainR_iff, ahead_at] at h
    obtain ⟨p, hp, h1, h2⟩ := h
    refine ⟨p, hp, _, h2, ?_, by rw [h1]⟩
    rw [h1, rightB_iff]
    exact ⟨⟨by simp, by simp; omega⟩, by simp, by simp; omega⟩
theorem rowT_ahead (L : List Int) : rowT L L.length = true ↔ ∃ a : Nat, a < 64 ∧ Ahead L a a := by
  rw [rowT_iff]
  constructor
  · rintro ⟨i, hi, hr, hm⟩
    have hr' := ((rightB_iff _).1 hr).1
    simp only at hr'
    refine ⟨(L.getD i 0).toNat, by omega, ahead_at.2 ⟨i, hi, by omega, ?_⟩⟩
    have e1 : (((L.getD i 0).toNat : Nat) : Int) = L.getD i 0 := by omega
    rw [e1]; exact hm
  · rintro ⟨a, ha, h⟩
    obtain ⟨i, hi, h1, h2⟩ := ahead_at.1 h
    refine ⟨i, hi, ?_, by rw [h1]; exact h2⟩
    rw [h1, rightB_iff]
    exact ⟨⟨by simp, by simp; omega⟩, by simp, by simp; omega⟩
theorem chain_path {L : List Int} (hno : ∀ a : Nat, a < 64 → ¬ Ahead L a a) {i j : Nat} (h : Path (chainR L) i j) : Ahead L i j := by
  induction h with
  | one h => exact (chainR_iff _ _ _).1 h
  | more h hm _ ih => exact ((chainR_iff _ _ _).1 h).trans ih (hno _ hm)
theorem chain_acy (L : List Int) : acy (chainR L) = !rowT L L.length := by
  cases ht : rowT L L.length
  · have hno : ∀ a : Nat, a < 64 → ¬ Ahead L a a := fun a ha h => by
      have := (rowT_ahead L).2 ⟨a, ha, h⟩
      rw [ht] at this; cases this
    exact (acy_iff _).2 fun i hi h => hno i hi (chain_path hno h)
  · obtain ⟨a, ha, h⟩ := (rowT_ahead L).1 ht
    cases hc : acy (chainR L)
    · rfl
    · exact absurd (.one ((chainR_iff _ _ _).2 h)) ((acy_iff _).1 hc a ha)
theorem chain_clo (L : List Int) (ht : rowT L L.length = false) : rowsA (clo (chainR L)) = rowsA (chainR L) := by
  have hno : ∀ a : Nat, a < 64 → ¬ Ahead L a a := fun a ha h => by
    have := (rowT_ahead L).2 ⟨a, ha, h⟩
    rw [ht] at this; cases this
  apply rowsA_congr
  intro i j _ _
  rw [Bool.eq_iff_iff, clo_iff]
  exact ⟨fun h => (chainR_iff _ _ _).2 (chain_path hno h), fun h => .one h⟩
end Go.Proofs.YtjfegknokombgaaDoor
