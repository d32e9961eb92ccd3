/- Plain facts: the numbers of a set as a list, how many there are, the least one; how the library counts bits and finds the lowest; nothing of the program. -/
import Derived.Test.YtadihdkpoeibhaaDoorSetM
import Derived.Laws.Wrap64
namespace Go.Proofs.YtadihdkpoeibhaaDoor
set_option maxRecDepth 100000

/-- The numbers of a set below k, rising. -/
def lstTo (s k : Nat) : List Nat := (List.range k).filter fun i => s.testBit i
def lst (s : Nat) : List Nat := lstTo s 64
/-- The numbers of a set as Go's ints. -/
def lstI (s : Nat) : List Int := (lst s).map Int.ofNat
/-- The least number of a set, 64 where it is empty. -/
def fst (s : Nat) : Nat := (lst s).headD 64

theorem lstTo_succ (s k : Nat) : lstTo s (k + 1) = lstTo s k ++ if s.testBit k then [k] else [] := by
  unfold lstTo
  rw [List.range_succ, List.filter_append]
  cases h : s.testBit k <;> simp [h]
theorem lstTo_len (s k : Nat) : (lstTo s k).length ≤ k := by
  unfold lstTo
  have := List.length_filter_le (fun i => s.testBit i) (List.range k)
  simpa using this
theorem mem_lst {s i : Nat} : i ∈ lst s ↔ i < 64 ∧ s.testBit i = true := by simp [lst, lstTo]
theorem mem_lst' {s i : Nat} (hs : IsSet s) : i ∈ lst s ↔ s.testBit i = true := by
  rw [mem_lst]
  constructor
  · exact fun h => h.2
  · intro h
    refine ⟨?_, h⟩
    by_cases h2 : i < 64
    · exact h2
    · rw [hs.high (by omega)] at h; cases h
theorem lst_nodup (s : Nat) : (lst s).Nodup := List.Pairwise.filter _ List.nodup_range
theorem lst_sorted (s : Nat) : (lst s).Pairwise (· < ·) := List.Pairwise.filter _ List.pairwise_lt_range
theorem lst_zero : lst 0 = [] := by decide
theorem lst_nil {s : Nat} (hs : IsSet s) (h : lst s = []) : s = 0 := by
  apply set_ext hs (by unfold IsSet; omega)
  intro i hi
  cases hb : s.testBit i
  · simp
  · have : i ∈ lst s := mem_lst.2 ⟨hi, hb⟩
    rw [h] at this; cases this
theorem lst_inj {s t : Nat} (hs : IsSet s) (ht : IsSet t) (h : lst s = lst t) : s = t := by
  apply set_ext hs ht
  intro i hi
  rw [Bool.eq_iff_iff, ← mem_lst' hs, ← mem_lst' ht, h]
theorem lst_woS (s : Nat) (n : Nat) (hn : n < 64) : lst (woS s (n : Int)) = (lst s).filter (fun i => i != n) := by
  unfold lst lstTo
  rw [List.filter_filter]
  apply List.filter_congr
  intro i _
  rw [testBit_woS]
  have : (0 ≤ (n : Int) ∧ (n : Int) < 64) := by omega
  simp only [this, and_self, decide_true, Bool.true_and, Int.toNat_natCast, bne]
  rw [Bool.and_comm]
  congr 2
  rw [Bool.eq_iff_iff]; simp; exact ⟨fun h => h.symm, fun h => h.symm⟩
theorem lst_cons {s : Nat} (h : lst s ≠ []) : lst s = fst s :: lst (woS s (fst s : Int)) := by
  unfold fst
  match e : lst s with
  | [] => exact absurd e h
  | a :: t =>
    have ha : a < 64 := (mem_lst.1 (e ▸ List.mem_cons_self : a ∈ lst s)).1
    simp only [List.headD_cons]
    rw [lst_woS s a ha, e]
    have hn := e ▸ lst_nodup s
    rw [List.nodup_cons] at hn
    rw [List.filter_cons]
    simp
    symm
    rw [List.filter_eq_self]
    intro b hb
    simp
    rintro rfl
    exact hn.1 hb
theorem fst_mem {s : Nat} (h : lst s ≠ []) : fst s ∈ lst s := by
  rw [lst_cons h]; exact List.mem_cons_self
theorem fst_lt {s : Nat} (h : lst s ≠ []) : fst s < 64 := (mem_lst.1 (fst_mem h)).1
theorem fst_le (s : Nat) : fst s ≤ 64 := by
  by_cases h : lst s = []
  · simp [fst, h]
  · exact Nat.le_of_lt (fst_lt h)
theorem fst_least {s i : Nat} (h : i < fst s) : s.testBit i = false := by
  cases hb : s.testBit i
  · rfl
  · have hi : i < 64 := Nat.lt_of_lt_of_le h (fst_le s)
    have hm : i ∈ lst s := mem_lst.2 ⟨hi, hb⟩
    have hne : lst s ≠ [] := by intro e; rw [e] at hm; cases hm
    have hs := lst_sorted s
    rw [lst_cons hne] at hm hs
    rcases List.mem_cons.1 hm with e | e
    · omega
    · have := (List.pairwise_cons.1 hs).1 i e
      omega
theorem fst_zero : fst 0 = 64 := by decide
theorem lst_ne {s : Nat} (hs : IsSet s) (h : 0 < s) : lst s ≠ [] := by
  intro e; have := lst_nil hs e; omega

/-! ### The lowest bit, as the library finds it -/
theorem low_div {s k : Nat} (hlow : ∀ i, i < k → s.testBit i = false) : s % 2 ^ k = 0 := by
  apply Nat.eq_of_testBit_eq
  intro i
  rw [Nat.testBit_mod_two_pow]
  by_cases h : i < k
  · simp [hlow i h]
  · simp [h]
theorem and_neg {s k : Nat} (hs : s < 2 ^ 64) (hk : s.testBit k = true) (hlow : ∀ i, i < k → s.testBit i = false) (hk64 : k < 64) : s &&& (2 ^ 64 - s) = 2 ^ k := by
  have h0 : 0 < s := by
    rcases Nat.eq_zero_or_pos s with h | h
    · subst h; simp at hk
    · exact h
  have hd := low_div hlow
  obtain ⟨c, hc⟩ : ∃ c, s = 2 ^ k * c := ⟨s / 2 ^ k, (Nat.mul_div_cancel' (Nat.dvd_of_mod_eq_zero hd)).symm⟩
  have hp : 0 < 2 ^ k := Nat.two_pow_pos k
  have codd : c % 2 = 1 := by
    have : s.testBit k = c.testBit 0 := by rw [hc, Nat.testBit_two_pow_mul]; simp
    rw [this] at hk
    simpa [Nat.testBit_zero] using hk
  obtain ⟨d, rfl⟩ : ∃ d, c = 2 * d + 1 := ⟨c / 2, by omega⟩
  have e1 : s - 1 = 2 ^ k * (2 * d) + (2 ^ k - 1) := by
    rw [hc, Nat.mul_add, Nat.mul_one]
    omega
  have e2 : 2 ^ 64 - s = 2 ^ 64 - ((s - 1) + 1) := by omega
  rw [e2]
  apply Nat.eq_of_testBit_eq
  intro i
  rw [Nat.testBit_and, Nat.testBit_two_pow_sub_succ (by omega), Nat.testBit_two_pow]
  rw [e1, Nat.testBit_two_pow_mul_add _ (by omega)]
  by_cases hik : i < k
  · simp [hlow i hik]; omega
  · rw [if_neg hik]
    have : s.testBit i = (2 * d + 1).testBit (i - k) := by rw [hc, Nat.testBit_two_pow_mul]; simp; omega
    rw [this]
    by_cases e : i = k
    · subst e
      simp [Nat.testBit_zero, hk64]
    · obtain ⟨j, hj⟩ : ∃ j, i - k = j + 1 := ⟨i - k - 1, by omega⟩
      rw [hj, Nat.testBit_succ, Nat.testBit_succ]
      have q1 : (2 * d + 1) / 2 = d := by omega
      have q2 : 2 * d / 2 = d := by omega
      rw [q1, q2]
      have : ¬ k = i := fun h => e h.symm
      simp [this]
      exact fun h _ => h
/-- The library's table. -/
def deB : List Int := [0, 1, 56, 2, 57, 49, 28, 3, 61, 58, 42, 50, 38, 29, 17, 4, 62, 47, 59, 36, 45, 43, 51, 22, 53, 39, 33, 30, 24, 18, 12, 5, 63, 55, 48, 27, 60, 41, 37, 16, 46, 35, 44, 21, 52, 32, 23, 11, 54, 26, 40, 15, 34, 20, 31, 10, 25, 14, 19, 9, 13, 8, 7, 6]
def deIdx (k : Nat) : Nat := 2 ^ k * 285870213051353865 % 18446744073709551616 / 288230376151711744
theorem deB_at : ∀ k : Fin 64, deIdx k.val < 64 ∧ deB.getD (deIdx k.val) 0 = (k.val : Int) := by decide +kernel
theorem bits_neg (s : Nat) (hs : IsSet s) (h0 : 0 < s) : Go.bits .and .u64 (s : Int) (IntKind.u64.wrap (-(s : Int))) = ((2 ^ fst s : Nat) : Int) := by
  have hne := lst_ne hs h0
  have hm := fst_mem hne
  have hb := (mem_lst.1 hm).2
  have e : IntKind.u64.wrap (-(s : Int)) = ((18446744073709551616 - s : Nat) : Int) := by
    unfold IsSet at hs
    rw [IntKind.wrap_u64]; omega
  rw [e, Go.bits_and_u64_nat s _ hs (by omega)]
  have := and_neg (s := s) (k := fst s) (by unfold IsSet at hs; omega) hb (fun i hi => fst_least hi) (fst_lt hne)
  rw [show (18446744073709551616 : Nat) = 2 ^ 64 from by decide, this]
theorem de_idx (k : Nat) : IntKind.u64.wrap (((2 ^ k : Nat) : Int) * 285870213051353865) / 288230376151711744 = ((deIdx k : Nat) : Int) := by
  rw [IntKind.wrap_u64]; unfold deIdx
  generalize 2 ^ k = p
  omega

/-! ### How many bits, as the library counts them -/
def f1 (b : Nat) : Nat := (b / 2 &&& 0x55) + (b &&& 0x55)
def f2 (b : Nat) : Nat := (b / 4 &&& 0x33) + (b &&& 0x33)
def f3 (b : Nat) : Nat := (b / 16 + b) &&& 0x0f
def ofB : List Nat → Nat
  | [] => 0
  | b :: l => 256 * ofB l + b
def mk (c : Nat) : Nat → Nat
  | 0 => 0
  | k + 1 => 256 * mk c k + c
theorem and_split (a b m c : Nat) (hb : b < 256) (hc : c < 256) : (256 * a + b) &&& (256 * m + c) = 256 * (a &&& m) + (b &&& c) := by
  have hbc : b &&& c < 256 := Nat.and_lt_two_pow (n := 8) _ hc
  apply Nat.eq_of_testBit_eq
  intro i
  rw [Nat.testBit_and, show (256 : Nat) = 2 ^ 8 from rfl, Nat.testBit_two_pow_mul_add _ hb, Nat.testBit_two_pow_mul_add _ hc, Nat.testBit_two_pow_mul_add _ hbc]
  split <;> simp
theorem f1_low : ∀ b : Fin 256, ∀ r : Fin 2, (128 * r.val + b.val / 2) &&& 0x55 = (b.val / 2 &&& 0x55) := by decide +kernel
theorem f2_low : ∀ b : Fin 256, ∀ r : Fin 4, (64 * r.val + b.val / 4) &&& 0x33 = (b.val / 4 &&& 0x33) := by decide +kernel
theorem f3_low : ∀ b : Fin 256, ∀ r : Fin 5, b.val % 16 ≤ 4 → b.val / 16 ≤ 4 → (16 * r.val + b.val / 16 + b.val) &&& 0x0f = f3 b.val := by decide +kernel
theorem f1_lt : ∀ b : Fin 256, f1 b.val < 256 := by decide +kernel
theorem f2_lt : ∀ b : Fin 256, f2 b.val < 256 := by decide +kernel
theorem f21_ok : ∀ b : Fin 256, f2 (f1 b.val) % 16 ≤ 4 ∧ f2 (f1 b.val) / 16 ≤ 4 ∧ f2 (f1 b.val) < 256 := by decide +kernel
theorem pop_ok : ∀ b : Fin 256, f3 (f2 (f1 b.val)) = (lstTo b.val 8).length := by decide +kernel
theorem st1_ofB : ∀ l : List Nat, (∀ b ∈ l, b < 256) → (ofB l / 2 &&& mk 0x55 l.length) + (ofB l &&& mk 0x55 l.length) = ofB (l.map f1)
  | [], _ => rfl
  | b :: l, h => by
    have hb := h b List.mem_cons_self
    have ih := st1_ofB l fun x hx => h x (List.mem_cons_of_mem _ hx)
    simp only [ofB, mk, List.length_cons, List.map_cons]
    have e : (256 * ofB l + b) / 2 = 256 * (ofB l / 2) + (128 * (ofB l % 2) + b / 2) := by omega
    have hlow := f1_low ⟨b, hb⟩ ⟨ofB l % 2, by omega⟩
    simp only at hlow
    rw [e, and_split _ _ _ _ (by omega) (by omega), and_split _ _ _ _ hb (by omega), ← ih, hlow, f1]
    omega
theorem st2_ofB : ∀ l : List Nat, (∀ b ∈ l, b < 256) → (ofB l / 4 &&& mk 0x33 l.length) + (ofB l &&& mk 0x33 l.length) = ofB (l.map f2)
  | [], _ => rfl
  | b :: l, h => by
    have hb := h b List.mem_cons_self
    have ih := st2_ofB l fun x hx => h x (List.mem_cons_of_mem _ hx)
    simp only [ofB, mk, List.length_cons, List.map_cons]
    have e : (256 * ofB l + b) / 4 = 256 * (ofB l / 4) + (64 * (ofB l % 4) + b / 4) := by omega
    have hlow := f2_low ⟨b, hb⟩ ⟨ofB l % 4, by omega⟩
    simp only at hlow
    rw [e, and_split _ _ _ _ (by omega) (by omega), and_split _ _ _ _ hb (by omega), ← ih, hlow, f2]
    omega
theorem st3_ofB : ∀ l : List Nat, (∀ b ∈ l, b % 16 ≤ 4 ∧ b / 16 ≤ 4 ∧ b < 256) → (ofB l / 16 + ofB l) &&& mk 0x0f l.length = ofB (l.map f3)
  | [], _ => rfl
  | b :: l, h => by
    obtain ⟨h1, h2, hb⟩ := h b List.mem_cons_self
    have ih := st3_ofB l fun x hx => h x (List.mem_cons_of_mem _ hx)
    have hr : ofB l % 16 ≤ 4 := by
      cases l with
      | nil => simp [ofB]
      | cons c l =>
        have := (h c (List.mem_cons_of_mem _ List.mem_cons_self)).1
        simp only [ofB]; omega
    simp only [ofB, mk, List.length_cons, List.map_cons]
    have e : (256 * ofB l + b) / 16 + (256 * ofB l + b) = 256 * (ofB l / 16 + ofB l) + (16 * (ofB l % 16) + b / 16 + b) := by omega
    have hlow := f3_low ⟨b, hb⟩ ⟨ofB l % 16, by omega⟩ h1 h2
    simp only at hlow
    rw [e, and_split _ _ _ _ (by omega) (by omega), ← ih, hlow]
theorem lstTo_add (s j k : Nat) : (lstTo s (j + k)).length = (lstTo s j).length + (lstTo (s / 2 ^ j) k).length := by
  unfold lstTo
  rw [List.range_add, List.filter_append, List.length_append, List.filter_map, List.length_map]
  congr 2
  apply List.filter_congr
  intro i _
  simp [Function.comp, Nat.testBit_div_two_pow, Nat.add_comm]
theorem lstTo_low (a b k : Nat) (hb : b < 2 ^ k) : lstTo (2 ^ k * a + b) k = lstTo b k := by
  unfold lstTo
  apply List.filter_congr
  intro i hi
  have : i < k := by simpa using hi
  rw [Nat.testBit_two_pow_mul_add _ hb, if_pos this]
def sumB : List Nat → Nat
  | [] => 0
  | b :: l => b + sumB l
theorem cnt_ofB : ∀ l : List Nat, (∀ b ∈ l, b < 256) → (lstTo (ofB l) (8 * l.length)).length = sumB (l.map fun b => f3 (f2 (f1 b)))
  | [], _ => rfl
  | b :: l, h => by
    have hb := h b List.mem_cons_self
    have ih := cnt_ofB l fun x hx => h x (List.mem_cons_of_mem _ hx)
    have hp := pop_ok ⟨b, hb⟩
    simp only at hp
    simp only [ofB, List.length_cons, List.map_cons, sumB]
    rw [show 8 * (l.length + 1) = 8 + 8 * l.length by omega, lstTo_add, show (256 : Nat) = 2 ^ 8 from rfl, lstTo_low _ _ _ hb, hp]
    have : (2 ^ 8 * ofB l + b) / 2 ^ 8 = ofB l := by omega
    rw [this, ih]
theorem bytes_of (s : Nat) (hs : IsSet s) : ∃ l : List Nat, l.length = 8 ∧ (∀ b ∈ l, b < 256) ∧ s = ofB l := by
  unfold IsSet at hs
  refine ⟨[s % 256, s / 256 % 256, s / 65536 % 256, s / 16777216 % 256, s / 4294967296 % 256, s / 1099511627776 % 256, s / 281474976710656 % 256, s / 72057594037927936], rfl, ?_, ?_⟩
  · intro b hb
    simp only [List.mem_cons, List.not_mem_nil, or_false] at hb
    rcases hb with h | h | h | h | h | h | h | h <;> omega
  · simp only [ofB]; omega
theorem ofB_lt : ∀ l : List Nat, (∀ b ∈ l, b < 256) → ofB l < 256 ^ l.length
  | [], _ => by simp [ofB]
  | b :: l, h => by
    have hb := h b List.mem_cons_self
    have ih := ofB_lt l fun x hx => h x (List.mem_cons_of_mem _ hx)
    simp only [ofB, List.length_cons, Nat.pow_succ]
    omega
/-! ### The library's steps, as the walk writes them -/
def sA (x : Int) : Int := IntKind.u64.wrap (Go.bits .and .u64 (x / 2) 6148914691236517205 + Go.bits .and .u64 x 6148914691236517205)
def sB (x : Int) : Int := IntKind.u64.wrap (Go.bits .and .u64 (x / 4) 3689348814741910323 + Go.bits .and .u64 x 3689348814741910323)
def sC (x : Int) : Int := Go.bits .and .u64 (IntKind.u64.wrap (x / 16 + x)) 1085102592571150095
def sD (x : Int) : Int := IntKind.u64.wrap (x + x / 256)
def sE (x : Int) : Int := IntKind.u64.wrap (x + x / 65536)
def sF (x : Int) : Int := IntKind.u64.wrap (x + x / 4294967296)
theorem sA_nat (x : Nat) (l : List Nat) (hl : l.length = 8) (hb : ∀ b ∈ l, b < 256) (hx : x = ofB l) : sA (x : Int) = ((ofB (l.map f1) : Nat) : Int) := by
  have h := st1_ofB l hb
  have hlt := ofB_lt l hb
  have hlt2 := ofB_lt (l.map f1) (by
    intro b hbm
    obtain ⟨c, hc, rfl⟩ := List.mem_map.1 hbm
    exact f1_lt ⟨c, hb c hc⟩)
  simp only [List.length_map] at hlt2
  rw [hl] at h hlt hlt2
  rw [← hx] at h hlt
  have e : mk 0x55 8 = 6148914691236517205 := by decide
  rw [e] at h
  unfold sA
  rw [show ((x : Int) / 2) = ((x / 2 : Nat) : Int) from by omega, show (6148914691236517205 : Int) = ((6148914691236517205 : Nat) : Int) from rfl]
  rw [Go.bits_and_u64_nat (x / 2) _ (by omega) (by omega), Go.bits_and_u64_nat x _ (by omega) (by omega), IntKind.wrap_u64, ← h]
  omega
theorem sB_nat (x : Nat) (l : List Nat) (hl : l.length = 8) (hb : ∀ b ∈ l, b < 256) (hx : x = ofB l) : sB (x : Int) = ((ofB (l.map f2) : Nat) : Int) := by
  have h := st2_ofB l hb
  have hlt := ofB_lt l hb
  have hlt2 := ofB_lt (l.map f2) (by
    intro b hbm
    obtain ⟨c, hc, rfl⟩ := List.mem_map.1 hbm
    exact f2_lt ⟨c, hb c hc⟩)
  simp only [List.length_map] at hlt2
  rw [hl] at h hlt hlt2
  rw [← hx] at h hlt
  have e : mk 0x33 8 = 3689348814741910323 := by decide
  rw [e] at h
  unfold sB
  rw [show ((x : Int) / 4) = ((x / 4 : Nat) : Int) from by omega, show (3689348814741910323 : Int) = ((3689348814741910323 : Nat) : Int) from rfl]
  rw [Go.bits_and_u64_nat (x / 4) _ (by omega) (by omega), Go.bits_and_u64_nat x _ (by omega) (by omega), IntKind.wrap_u64, ← h]
  omega
theorem sC_nat (x : Nat) (l : List Nat) (hl : l.length = 8) (hb : ∀ b ∈ l, b % 16 ≤ 4 ∧ b / 16 ≤ 4 ∧ b < 256) (hx : x = ofB l) : sC (x : Int) = ((ofB (l.map f3) : Nat) : Int) := by
  have h := st3_ofB l hb
  have hlt : ofB l < 4991460930710486580 := by
    match l, hl with
    | [a, b, c, d, e, f, g, i], _ =>
      have := hb i (by simp)
      have := hb a (by simp)
      have := hb b (by simp)
      have := hb c (by simp)
      have := hb d (by simp)
      have := hb e (by simp)
      have := hb f (by simp)
      have := hb g (by simp)
      simp only [ofB]
      omega
  rw [hl] at h
  rw [← hx] at h hlt
  have e : mk 0x0f 8 = 1085102592571150095 := by decide
  rw [e] at h
  unfold sC
  have e2 : IntKind.u64.wrap ((x : Int) / 16 + (x : Int)) = ((x / 16 + x : Nat) : Int) := by rw [IntKind.wrap_u64]; omega
  rw [e2, show (1085102592571150095 : Int) = ((1085102592571150095 : Nat) : Int) from rfl]
  rw [Go.bits_and_u64_nat _ _ (by omega) (by omega), h]
theorem f3_le : ∀ b : Fin 256, f3 (f2 (f1 b.val)) ≤ 8 := by decide +kernel
theorem sD_step (x q p y : Nat) (hx : x = 256 * q + p) (hp : p < 256) (hb : x + q < 18446744073709551616) (hy : y = x + q) : sD (x : Int) = (y : Int) := by
  unfold sD; rw [IntKind.wrap_u64, show (x : Int) / 256 = (q : Int) from by omega, Int.emod_eq_of_lt (by omega) (by omega)]; omega
theorem sE_step (x q p y : Nat) (hx : x = 65536 * q + p) (hp : p < 65536) (hb : x + q < 18446744073709551616) (hy : y = x + q) : sE (x : Int) = (y : Int) := by
  unfold sE; rw [IntKind.wrap_u64, show (x : Int) / 65536 = (q : Int) from by omega, Int.emod_eq_of_lt (by omega) (by omega)]; omega
theorem sF_step (x q p y : Nat) (hx : x = 4294967296 * q + p) (hp : p < 4294967296) (hb : x + q < 18446744073709551616) (hy : y = x + q) : sF (x : Int) = (y : Int) := by
  unfold sF; rw [IntKind.wrap_u64, show (x : Int) / 4294967296 = (q : Int) from by omega, Int.emod_eq_of_lt (by omega) (by omega)]; omega
set_option maxHeartbeats 400000 in
theorem tail_nat (p0 p1 p2 p3 p4 p5 p6 p7 : Nat) (h0 : p0 ≤ 8) (h1 : p1 ≤ 8) (h2 : p2 ≤ 8) (h3 : p3 ≤ 8) (h4 : p4 ≤ 8) (h5 : p5 ≤ 8) (h6 : p6 ≤ 8) (h7 : p7 ≤ 8) (x n : Nat)
    (hx : x = p0 + 256 * p1 + 65536 * p2 + 16777216 * p3 + 4294967296 * p4 + 1099511627776 * p5 + 281474976710656 * p6 + 72057594037927936 * p7) (hn : n = p0 + p1 + p2 + p3 + p4 + p5 + p6 + p7) :
    ∃ z : Nat, sF (sE (sD (x : Int))) = ((256 * z + n : Nat) : Int) ∧ 256 * z + n < 9223372036854775808 := by
  obtain ⟨y, hy⟩ : ∃ y : Nat, y = (p0 + p1) + 256 * (p1 + p2) + 65536 * (p2 + p3) + 16777216 * (p3 + p4) + 4294967296 * (p4 + p5) + 1099511627776 * (p5 + p6) + 281474976710656 * (p6 + p7) + 72057594037927936 * p7 := ⟨_, rfl⟩
  obtain ⟨v, hv⟩ : ∃ v : Nat, v = (p0 + p1 + p2 + p3) + 256 * (p1 + p2 + p3 + p4) + 65536 * (p2 + p3 + p4 + p5) + 16777216 * (p3 + p4 + p5 + p6) + 4294967296 * (p4 + p5 + p6 + p7) + 1099511627776 * (p5 + p6 + p7) + 281474976710656 * (p6 + p7) + 72057594037927936 * p7 := ⟨_, rfl⟩
  have e1 : sD (x : Int) = (y : Int) := by
    apply sD_step _ (p1 + 256 * p2 + 65536 * p3 + 16777216 * p4 + 4294967296 * p5 + 1099511627776 * p6 + 281474976710656 * p7) p0 <;> (clear hv hn; subst hx hy; omega)
  have e2 : sE (y : Int) = (v : Int) := by
    apply sE_step _ ((p2 + p3) + 256 * (p3 + p4) + 65536 * (p4 + p5) + 16777216 * (p5 + p6) + 4294967296 * (p6 + p7) + 1099511627776 * p7) ((p0 + p1) + 256 * (p1 + p2)) <;> (clear hx hn e1; subst hv hy; omega)
  rw [e1, e2]
  clear e1 e2 hx hy
  refine ⟨(p1 + p2 + p3 + p4) + 256 * (p2 + p3 + p4 + p5) + 65536 * (p3 + p4 + p5 + p6) + 16777216 * (p4 + p5 + p6 + p7) + 4294967296 * (p5 + p6 + p7) + 1099511627776 * (p6 + p7) + 281474976710656 * p7 + (p5 + p6 + p7) + 256 * (p6 + p7) + 65536 * p7, ?_, by clear hv; subst hn; omega⟩
  apply sF_step _ ((p4 + p5 + p6 + p7) + 256 * (p5 + p6 + p7) + 65536 * (p6 + p7) + 16777216 * p7) ((p0 + p1 + p2 + p3) + 256 * (p1 + p2 + p3 + p4) + 65536 * (p2 + p3 + p4 + p5) + 16777216 * (p3 + p4 + p5 + p6)) <;> (subst hv hn; omega)
theorem and127 (z : Nat) (n : Nat) (hn : n ≤ 64) (h : 256 * z + n < 9223372036854775808) : Go.bits .and .i64 ((256 * z + n : Nat) : Int) 127 = (n : Int) := by
  show IntKind.i64.wrap ((BitVec.ofInt 64 ((256 * z + n : Nat) : Int) &&& BitVec.ofInt 64 127).toNat : Int) = _
  have h1 : (BitVec.ofInt 64 ((256 * z + n : Nat) : Int)).toNat = 256 * z + n := by
    rw [BitVec.ofInt_natCast, BitVec.toNat_ofNat]; exact Nat.mod_eq_of_lt (by omega)
  have h2 : (BitVec.ofInt 64 (127 : Int)).toNat = 127 := by decide
  have e : (256 * z + n) &&& 127 = n := by
    have := Nat.and_two_pow_sub_one_eq_mod (256 * z + n) 7
    rw [show (2 : Nat) ^ 7 - 1 = 127 from rfl] at this
    rw [this]; omega
  rw [BitVec.toNat_and, h1, h2, e]
  simp [IntKind.wrap, IntKind.bits, IntKind.signed]; omega
theorem ones_eq (s : Nat) (hs : IsSet s) : ∃ m : Nat, sF (sE (sD (sC (sB (sA (s : Int)))))) = (m : Int) ∧ m < 9223372036854775808 ∧ Go.bits .and .i64 (m : Int) 127 = (((lst s).length : Nat) : Int) := by
  obtain ⟨l, hl, hb, rfl⟩ := bytes_of s hs
  have hb1 : ∀ b ∈ l.map f1, b < 256 := by
    intro b hbm
    obtain ⟨c, hc, rfl⟩ := List.mem_map.1 hbm
    exact f1_lt ⟨c, hb c hc⟩
  have hb2 : ∀ b ∈ (l.map f1).map f2, b % 16 ≤ 4 ∧ b / 16 ≤ 4 ∧ b < 256 := by
    intro b hbm
    obtain ⟨c1, hc1, rfl⟩ := List.mem_map.1 hbm
    obtain ⟨c, hc, rfl⟩ := List.mem_map.1 hc1
    exact f21_ok ⟨c, hb c hc⟩
  rw [sA_nat _ l hl hb rfl, sB_nat _ _ (by simpa using hl) hb1 rfl, sC_nat _ _ (by simpa using hl) hb2 rfl]
  have hc := cnt_ofB l hb
  rw [hl] at hc
  have hlen : (lst (ofB l)).length = sumB (l.map fun b => f3 (f2 (f1 b))) := hc
  have hle : (lst (ofB l)).length ≤ 64 := lstTo_len _ _
  rw [hlen] at hle ⊢
  rw [List.map_map, List.map_map]
  match l, hl, hb with
  | [a, b, c, d, e, f, g, i], _, hb =>
    have q := fun x hx => f3_le ⟨x, hb x hx⟩
    simp only at q
    obtain ⟨z, hz1, hz2⟩ := tail_nat _ _ _ _ _ _ _ _ (q a (by simp)) (q b (by simp)) (q c (by simp)) (q d (by simp)) (q e (by simp)) (q f (by simp)) (q g (by simp)) (q i (by simp)) (ofB ([a, b, c, d, e, f, g, i].map (f3 ∘ f2 ∘ f1))) (sumB ([a, b, c, d, e, f, g, i].map fun b => f3 (f2 (f1 b)))) (by simp only [List.map_cons, List.map_nil, ofB, Function.comp]; omega) (by simp only [List.map_cons, List.map_nil, sumB]; omega)
    exact ⟨_, hz1, hz2, and127 _ _ hle hz2⟩
end Go.Proofs.YtadihdkpoeibhaaDoor
