/- Plain facts: all numbers are sorted exactly where one never comes back, and then each stands ahead of what it stands to; squaring seven times closes; the closed one. Nothing of the program. -/
import Derived.Test.YtjfegknokombgaaDoorRelU
import Derived.Test.YtjfegknokombgaaDoorRelL
import Derived.Test.YtjfegknokombgaaDoorRelJ
namespace Go.Proofs.YtjfegknokombgaaDoor
set_option maxRecDepth 100000
open Go.RowKit

theorem cyc_of_go {R : Mat} {E : Nat} (hE : ∀ a ∈ lst E, ∃ b ∈ lst E, R a b = true) : ∀ (k : Nat) (Q : List Nat) (n : Nat), GoOK R E Q n → 64 - Q.length ≤ k → acy R = false
  | k, Q, n, h, hk => by
    by_cases hn : n ∈ Q
    · obtain ⟨i, hi, e⟩ := List.getElem_of_mem hn
      exact not_acy (h.cyc hi e)
    · have hl := h.len2 hn
      obtain ⟨m, hm, hR⟩ := hE n h.at_
      cases k with
      | zero => omega
      | succ k => exact cyc_of_go hE k (Q ++ [n]) m (h.next hn hm hR) (by simp; omega)
theorem path_turn {R : Mat} {i j : Nat} (h : Path R i j) : Path (turnR R) j i := by
  induction h with
  | one h => exact .one h
  | more h hm _ ih => exact ih.trans hm (.one h)
theorem acy_turn {R : Mat} (h : acy (turnR R) = false) : acy R = false := by
  cases e : acy R
  · rfl
  · rw [acy_iff] at e
    have : acy (turnR R) = true := (acy_iff _).2 fun i hi hp => e i hi (path_turn hp)
    rw [h] at this; cases this
/-- A set with something in it, none of which is free. -/
theorem acy_stuck {R : Mat} {c : Nat} (hc : IsSet c) (h0 : c ≠ 0) (hf : freeS R c = 64) : acy R = false := by
  have hne : lst c ≠ [] := fun e => h0 (lst_nil hc e)
  have hE : ∀ a ∈ lst c, ∃ b ∈ lst c, turnR R a b = true := by
    intro a ha
    have ha' := mem_lst.1 ha
    cases hv : viaL R (lst c) a
    · exfalso
      have hm : a ∈ lst (subS c (mkS fun j => viaL R (lst c) j)) := mem_lst.2 ⟨ha'.1, by rw [testBit_subS, testBit_mkS, ha'.2, hv]; simp⟩
      have hnn : lst (subS c (mkS fun j => viaL R (lst c) j)) ≠ [] := fun e => by rw [e] at hm; cases hm
      have := fst_lt hnn
      unfold freeS at hf
      omega
    · obtain ⟨x, hx, hR⟩ := List.any_eq_true.1 hv
      exact ⟨x, hx, hR⟩
  apply acy_turn
  refine cyc_of_go hE 64 [] (fst c) ⟨by simp, by simp, fst_mem hne, ?_⟩ (by omega)
  intro i hi
  simp at hi
theorem freeS_free {R : Mat} {c : Nat} (h : freeS R c ≠ 64) : ∀ x ∈ lst c, R x (freeS R c) = false := by
  have hm := freeS_mem h
  have hlt := (mem_lst.1 hm).1
  unfold freeS at *
  have hne : lst (subS c (mkS fun j => viaL R (lst c) j)) ≠ [] := by
    intro e; apply h; unfold fst; rw [e]; rfl
  have hb := (mem_lst.1 (fst_mem hne)).2
  rw [testBit_subS, testBit_mkS, Bool.and_eq_true] at hb
  generalize fst (subS c (mkS fun j => viaL R (lst c) j)) = n at *
  intro x hx
  cases hR : R x n
  · rfl
  · exfalso
    have hv : viaL R (lst c) n = true := List.any_eq_true.2 ⟨x, hx, hR⟩
    rw [hv] at hb
    simp [hlt] at hb
def SortsS (R : Mat) (c : Nat) : Option (List Nat) → Prop
  | none => acy R = false
  | some L => (∀ x, x ∈ L ↔ x ∈ lst c) ∧ L.Nodup ∧ ∀ a b : Nat, a ∈ lst c → b ∈ lst c → R a b = true → Ahead (L.map Int.ofNat) a b
theorem sortS_ok {R : Mat} : ∀ (f c : Nat), IsSet c → (lst c).length < f → SortsS R c (sortS R f c)
  | 0, c, _, h => by omega
  | f + 1, c, hc, h => by
    rw [sortS]
    by_cases h0 : c = 0
    · subst h0
      rw [if_pos rfl]
      refine ⟨fun x => by rw [lst_zero], by simp, fun a b ha => ?_⟩
      rw [lst_zero] at ha; cases ha
    · rw [if_neg h0]
      by_cases hf : freeS R c = 64
      · rw [if_pos hf]; exact acy_stuck hc h0 hf
      · rw [if_neg hf]
        have hm := freeS_mem hf
        have hfree := freeS_free hf
        have hlt := (mem_lst.1 hm).1
        have hl := lst_wo_any hm
        have ih := sortS_ok (R := R) f (woS c (freeS R c : Int)) (isSet_woS hc) (by omega)
        have hw := lst_woS c _ hlt
        generalize freeS R c = n at *
        cases hs : sortS R f (woS c (n : Int)) with
        | none => rw [hs] at ih; exact ih
        | some L =>
          rw [hs] at ih
          obtain ⟨h1, h2, h3⟩ := ih
          rw [hw] at h1 h3
          have hmem : ∀ x, x ∈ L ↔ x ∈ lst c ∧ x ≠ n := fun x => by rw [h1, List.mem_filter]; simp
          refine ⟨fun x => ?_, List.nodup_cons.2 ⟨fun hx => ((hmem n).1 hx).2 rfl, h2⟩, fun a b ha hb hR => ?_⟩
          · rw [List.mem_cons, hmem]
            constructor
            · rintro (rfl | hx)
              · exact hm
              · exact hx.1
            · intro hx
              by_cases e : x = n
              · exact .inl e
              · exact .inr ⟨hx, e⟩
          · have hbn : b ≠ n := by
              rintro rfl
              rw [hfree a ha] at hR; cases hR
            by_cases e : a = n
            · refine .inr ⟨by rw [e]; rfl, ?_⟩
              exact List.mem_map.2 ⟨b, (hmem b).2 ⟨hb, hbn⟩, rfl⟩
            · exact .inl (h3 a b (List.mem_filter.2 ⟨ha, by simp [e]⟩) (List.mem_filter.2 ⟨hb, by simp [hbn]⟩) hR)
theorem ahead_irr : ∀ {L : List Nat}, L.Nodup → ∀ a : Nat, ¬ Ahead (L.map Int.ofNat) a a
  | [], _, _, h => h.elim
  | c :: L, hn, a, h => by
    rw [List.nodup_cons] at hn
    rcases h with h | ⟨e, h⟩
    · exact ahead_irr hn.2 a h
    · obtain ⟨b, hb, e2⟩ := List.mem_map.1 h
      have e3 : (c : Int) = (a : Int) := e
      have e4 : (b : Int) = (a : Int) := e2
      obtain rfl : b = c := by omega
      exact hn.1 hb
theorem path_ahead {R : Mat} {L : List Nat} (hn : L.Nodup) (h : ∀ a b : Nat, a < 64 → b < 64 → R a b = true → Ahead (L.map Int.ofNat) a b) {i j : Nat} (hp : Path R i j) (hi : i < 64) (hj : j < 64) : Ahead (L.map Int.ofNat) i j := by
  induction hp with
  | one hR => exact h _ _ hi hj hR
  | more hR hm _ ih => exact (h _ _ hi hm hR).trans (ih hm hj) (ahead_irr hn _)
/-- What sorting all numbers gives. -/
def FullS (R : Mat) : Option (List Nat) → Prop
  | none => acy R = false
  | some L => acy R = true ∧ inM R (chainR (L.map Int.ofNat)) = true
theorem inM_iff (R S : Mat) : inM R S = true ↔ ∀ i j, i < 64 → j < 64 → R i j = true → S i j = true := by
  unfold inM inMTo
  rw [List.all_eq_true]
  constructor
  · intro h i j hi hj hR
    have := (inB_iff (isSet_mkS _)).1 (h i (List.mem_range.2 hi)) j hj (by rw [testBit_mkS, hR]; simp [hj])
    rw [testBit_mkS] at this
    simpa [hj] using this
  · intro h i hi
    rw [inB_iff (isSet_mkS _)]
    intro j hj hb
    rw [testBit_mkS] at hb ⊢
    simp only [hj, decide_true, Bool.true_and] at hb ⊢
    exact h i j (List.mem_range.1 hi) hj hb
theorem sort_full (R : Mat) : FullS R (sortS R 65 18446744073709551615) := by
  have hall : ∀ a, a < 64 → a ∈ lst 18446744073709551615 := fun a ha => (endInv_start R).all (fun x => x < 64 ∧ True) |> fun h => by
    rw [show (18446744073709551615 : Nat) = mkS (fun _ => true) from by decide, lst_mkS]
    simp [ha]
  have h := sortS_ok (R := R) 65 18446744073709551615 (endInv_start R).set (by have := lstTo_len 18446744073709551615 64; have : (lst 18446744073709551615).length ≤ 64 := this; omega)
  cases hs : sortS R 65 18446744073709551615 with
  | none => rw [hs] at h; exact h
  | some L =>
    rw [hs] at h
    obtain ⟨_, h2, h3⟩ := h
    have h4 : ∀ a b : Nat, a < 64 → b < 64 → R a b = true → Ahead (L.map Int.ofNat) a b := fun a b ha hb => h3 a b (hall a ha) (hall b hb)
    refine ⟨(acy_iff _).2 fun i hi hp => ahead_irr h2 i (path_ahead h2 h4 hp hi hi), (inM_iff _ _).2 fun i j hi hj hR => (chainR_iff _ _ _).2 (h4 i j hi hj hR)⟩
/-- What k squarings come to. -/
def sqr (R : Mat) : Nat → Mat
  | 0 => R
  | k + 1 => orR (sqr R k) (thenR (sqr R k) (sqr R k))
theorem thenR_iff (R S : Mat) (i j : Nat) : thenR R S i j = true ↔ ∃ m, m < 64 ∧ R i m = true ∧ S m j = true := by
  unfold thenR
  simp [List.any_eq_true]
theorem sqr_path (R : Mat) : ∀ (k i j : Nat), sqr R k i j = true → Path R i j
  | 0, i, j, h => .one h
  | k + 1, i, j, h => by
    have h' : (sqr R k i j || thenR (sqr R k) (sqr R k) i j) = true := h
    rw [Bool.or_eq_true, thenR_iff] at h'
    rcases h' with h' | ⟨m, hm, h1, h2⟩
    · exact sqr_path R k i j h'
    · exact (sqr_path R k i m h1).trans hm (sqr_path R k m j h2)
/-- A way of n steps and one. -/
def PathN (R : Mat) : Nat → Nat → Nat → Prop
  | 0, i, j => R i j = true
  | n + 1, i, j => ∃ m, m < 64 ∧ R i m = true ∧ PathN R n m j
theorem PathN.split {R : Mat} : ∀ {a b i j : Nat}, PathN R (a + b + 1) i j → ∃ m, m < 64 ∧ PathN R a i m ∧ PathN R b m j
  | 0, b, i, j, h => by rw [Nat.zero_add] at h; exact h
  | a + 1, b, i, j, h => by
    rw [show a + 1 + b + 1 = (a + b + 1) + 1 by omega] at h
    obtain ⟨m, hm, h1, h2⟩ := h
    obtain ⟨q, hq, h3, h4⟩ := PathN.split h2
    exact ⟨q, hq, ⟨m, hm, h1, h3⟩, h4⟩
theorem sqr_of {R : Mat} : ∀ (k n i j : Nat), PathN R n i j → n < 2 ^ k → sqr R k i j = true
  | 0, n, i, j, h, hn => by
    obtain rfl : n = 0 := by simp at hn; omega
    exact h
  | k + 1, n, i, j, h, hn => by
    show (sqr R k i j || thenR (sqr R k) (sqr R k) i j) = true
    rw [Bool.or_eq_true, thenR_iff]
    rw [Nat.pow_succ] at hn
    by_cases hlt : n < 2 ^ k
    · exact .inl (sqr_of k n i j h hlt)
    · have hpos : 0 < 2 ^ k := Nat.pow_pos (by omega)
      rw [show n = (2 ^ k - 1) + (n - 2 ^ k) + 1 by omega] at h
      obtain ⟨m, hm, h1, h2⟩ := h.split
      exact .inr ⟨m, hm, sqr_of k _ i m h1 (by omega), sqr_of k _ m j h2 (by omega)⟩
/-- A way by some numbers, in their order. -/
def Walk (R : Mat) : Nat → List Nat → Nat → Prop
  | i, [], j => R i j = true
  | i, m :: V, j => R i m = true ∧ Walk R m V j
theorem walk_from {R : Mat} {i j : Nat} : ∀ {V : List Nat} {m : Nat}, Walk R m V j → i ∈ m :: V → (m :: V).Nodup → ∃ V', (i :: V').Nodup ∧ (∀ x ∈ V', x ∈ V) ∧ Walk R i V' j
  | [], m, h, hi, hn => by
    obtain rfl : i = m := by simpa using hi
    exact ⟨[], hn, fun x hx => hx, h⟩
  | a :: V, m, h, hi, hn => by
    by_cases e : i = m
    · subst e; exact ⟨a :: V, hn, fun x hx => hx, h⟩
    · obtain ⟨V', h1, h2, h3⟩ := walk_from h.2 ((List.mem_cons.1 hi).resolve_left e) (List.nodup_cons.1 hn).2
      exact ⟨V', h1, fun x hx => List.mem_cons_of_mem _ (h2 x hx), h3⟩
theorem path_walk {R : Mat} {i j : Nat} (h : Path R i j) : ∃ V, (i :: V).Nodup ∧ (∀ x ∈ V, x < 64) ∧ Walk R i V j := by
  induction h with
  | one h => exact ⟨[], by simp, by simp, h⟩
  | @more i m j h hm _ ih =>
    obtain ⟨V, h1, h2, h3⟩ := ih
    by_cases hi : i ∈ m :: V
    · obtain ⟨V', h4, h5, h6⟩ := walk_from h3 hi h1
      exact ⟨V', h4, fun x hx => h2 x (h5 x hx), h6⟩
    · exact ⟨m :: V, List.nodup_cons.2 ⟨hi, h1⟩, fun x hx => by
        rcases List.mem_cons.1 hx with rfl | hx
        · exact hm
        · exact h2 x hx, h, h3⟩
theorem walk_pathN {R : Mat} {j : Nat} : ∀ {V : List Nat} {i : Nat}, (∀ x ∈ V, x < 64) → Walk R i V j → PathN R V.length i j
  | [], _, _, h => h
  | m :: _, _, hl, h => ⟨m, hl m List.mem_cons_self, h.1, walk_pathN (fun x hx => hl x (List.mem_cons_of_mem _ hx)) h.2⟩
theorem sqr_clo (R : Mat) : rowsA (sqr R 7) = rowsA (clo R) := by
  apply rowsA_congr
  intro i j _ _
  rw [Bool.eq_iff_iff, clo_iff]
  refine ⟨sqr_path R 7 i j, fun h => ?_⟩
  obtain ⟨V, h1, h2, h3⟩ := path_walk h
  have hlen := nodup_le V (List.range 64) (List.nodup_cons.1 h1).2 (fun x hx => List.mem_range.2 (h2 x hx))
  rw [List.length_range] at hlen
  exact sqr_of 7 V.length i j (walk_pathN h2 h3) (by omega)
theorem clo_then (R : Mat) : inM (thenR (clo R) (clo R)) (clo R) = true := by
  rw [inM_iff]
  intro i j _ _ h
  obtain ⟨m, hm, h1, h2⟩ := (thenR_iff _ _ _ _).1 h
  exact (clo_iff _ _ _).2 (((clo_iff _ _ _).1 h1).trans hm ((clo_iff _ _ _).1 h2))
theorem clo_turn (R : Mat) : rowsA (clo (turnR R)) = rowsA (turnR (clo R)) := by
  apply rowsA_congr
  intro i j _ _
  show clo (turnR R) i j = clo R j i
  rw [Bool.eq_iff_iff, clo_iff, clo_iff]
  exact ⟨fun h => path_turn h, fun h => path_turn h⟩
end Go.Proofs.YtjfegknokombgaaDoor
