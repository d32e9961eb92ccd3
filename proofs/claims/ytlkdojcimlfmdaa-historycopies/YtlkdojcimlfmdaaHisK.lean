/- Plain facts: what a history is asked is what the reference asks. Nothing of the program. -/
import Derived.Test.YtlkdojcimlfmdaaHisJ
namespace Go.Proofs.Ytlkdojcimlfmdaa
set_option maxRecDepth 100000
open Go.RowKit

/-- All writes, one behind the other. -/
def wrs (h : List TxnV) : List OpV := h.flatMap fun t => t.l.filter (·.wr)
theorem wvH_map (h : List TxnV) : wvH h = (wrs h).map (·.val) := by unfold wvH wrs wv; rw [List.map_flatMap]
theorem wrs_mem {h : List TxnV} {o : OpV} : o ∈ wrs h ↔ ∃ t ∈ h, o ∈ t.l ∧ o.wr = true := by unfold wrs; simp
theorem inj_val : ∀ {L : List OpV}, (L.map (·.val)).Nodup → ∀ {o p : OpV}, o ∈ L → p ∈ L → o.val = p.val → o = p
  | a :: L, hd, o, p, ho, hp, e => by
    rw [List.map_cons, List.nodup_cons] at hd
    rcases List.mem_cons.1 ho with rfl | ho
    · rcases List.mem_cons.1 hp with rfl | hp
      · rfl
      · exact absurd (List.mem_map.2 ⟨p, hp, e.symm⟩) hd.1
    · rcases List.mem_cons.1 hp with hpe | hp
      · exact absurd (List.mem_map.2 ⟨o, ho, by rw [e, hpe]⟩) hd.1
      · exact inj_val hd.2 ho hp e
theorem okW_inj {h : List TxnV} (hw : okW h = true) {o p : OpV} (ho : o ∈ wrs h) (hp : p ∈ wrs h) (e : o.val = p.val) : o = p := by
  unfold okW at hw
  rw [decide_eq_true_eq, wvH_map] at hw
  exact inj_val hw ho hp e
theorem okW_count {h : List TxnV} : okW h = true ↔ ∀ t ∈ h, ∀ o ∈ t.l, o.wr = true → tmH o.val h = 1 := by
  unfold okW tmH
  rw [decide_eq_true_eq]
  constructor
  · intro hd t ht o ho hw
    rw [List.Nodup.count hd, if_pos]
    rw [wvH_map]
    exact List.mem_map.2 ⟨o, wrs_mem.2 ⟨t, ht, ho, hw⟩, rfl⟩
  · intro hc
    rw [List.nodup_iff_count]
    intro x
    by_cases hx : x ∈ wvH h
    · have hx2 := hx
      rw [wvH_map] at hx2
      obtain ⟨o, ho, rfl⟩ := List.mem_map.1 hx2
      obtain ⟨t, ht, ho2, hw⟩ := wrs_mem.1 ho
      exact Nat.le_of_eq (hc t ht o ho2 hw)
    · rw [List.count_eq_zero_of_not_mem hx]; omega
/-- What is told of each value is a write that there is. -/
def Real (h : List TxnV) (F : Int → Option WV) : Prop := ∀ x u, F x = some u → ∃ o ∈ wrs h, o.val = x ∧ o.key = u.key
theorem real_put {h : List TxnV} {F : Int → Option WV} (hF : Real h F) {o : OpV} (ho : o ∈ wrs h) (i : Int) (b : Bool) : Real h (putF F o.val ⟨i, o.key, b⟩) := by
  intro x u hx
  unfold putF at hx
  split at hx
  · rename_i e
    cases hx
    exact ⟨o, ho, e.symm, rfl⟩
  · exact hF x u hx
theorem real_add {h : List TxnV} (i : Int) : ∀ (l : List OpV) (F : Int → Option WV), Real h F → (∀ o ∈ l, o.wr = true → o ∈ wrs h) → Real h (addF i F l)
  | [], F, hF, _ => hF
  | a :: l, F, hF, hl => by
    show Real h (addF i (addOne i F a) l)
    refine real_add i l _ ?_ (fun o ho => hl o (List.mem_cons_of_mem _ ho))
    unfold addOne
    split
    · rename_i hw
      exact real_put hF (hl a List.mem_cons_self hw) i false
    · exact hF
theorem real_fin {h : List TxnV} (i : Int) : ∀ (l : List OpV) (F : Int → Option WV), Real h F → (∀ o ∈ l, o ∈ wrs h) → Real h (finF i F l)
  | [], F, hF, _ => hF
  | a :: l, F, hF, hl => by
    show Real h (finF i (putF F a.val ⟨i, a.key, true⟩) l)
    exact real_fin i l _ (real_put hF (hl a List.mem_cons_self) i true) (fun o ho => hl o (List.mem_cons_of_mem _ ho))
theorem refWrites_mem {l : List OpV} {o : OpV} (h : o ∈ refWrites l) : o ∈ l ∧ o.wr = true := by
  unfold refWrites at h
  obtain ⟨k, _, hk⟩ := upTo_mem.1 h
  have := lastW_key (l := l) (x := k) hk
  exact ⟨this.2.2, this.2.1⟩
theorem real_wr (h : List TxnV) : ∀ k, k ≤ h.length → Real h (wrTo h k)
  | 0, _ => fun x u hx => by simp [wrTo] at hx
  | k + 1, hk => by
    have hlt : k < h.length := by omega
    rw [wrTo_succ, opsAt_eq hlt]
    have hm : ∀ o ∈ h[k].l, o.wr = true → o ∈ wrs h := fun o ho hw => wrs_mem.2 ⟨_, List.getElem_mem hlt, ho, hw⟩
    exact real_fin _ _ _ (real_add _ _ _ (real_wr h k (by omega)) hm) (fun o ho => hm o (refWrites_mem ho).1 (refWrites_mem ho).2)
theorem dom_add (i : Int) : ∀ (l : List OpV) (F : Int → Option WV) (x : Int), (addF i F l x).isSome = ((F x).isSome || decide (x ∈ wv l))
  | [], F, x => by simp [addF, wv]
  | a :: l, F, x => by
    show (addF i (addOne i F a) l x).isSome = _
    rw [dom_add i l]
    have hc : wv (a :: l) = (if a.wr then [a.val] else []) ++ wv l := by
      unfold wv
      cases hw : a.wr <;> simp [hw]
    rw [hc]
    unfold addOne putF
    cases hw : a.wr
    · simp
    · by_cases e : x = a.val <;> simp [e]
theorem dom_fin (i : Int) : ∀ (l : List OpV) (F : Int → Option WV) (x : Int), (finF i F l x).isSome = ((F x).isSome || decide (x ∈ l.map (·.val)))
  | [], F, x => by simp [finF]
  | a :: l, F, x => by
    show (finF i (putF F a.val ⟨i, a.key, true⟩) l x).isSome = _
    rw [dom_fin i l]
    unfold putF
    by_cases e : x = a.val <;> simp [e]
theorem dom_wr (h : List TxnV) : ∀ k, k ≤ h.length → ∀ x, (wrTo h k x).isSome = decide (x ∈ wvH (h.take k))
  | 0, _ => fun x => by simp [wrTo, wvH]
  | k + 1, hk => fun x => by
    have hlt : k < h.length := by omega
    rw [wrTo_succ, opsAt_eq hlt, dom_fin, dom_add, dom_wr h k (by omega), wvH_succ h k hlt]
    have : x ∈ (refWrites h[k].l).map (·.val) → x ∈ wv h[k].l := fun hx => by
      obtain ⟨o, ho, rfl⟩ := List.mem_map.1 hx
      exact wv_mem.2 ⟨o, (refWrites_mem ho).1, (refWrites_mem ho).2, rfl⟩
    rw [Bool.eq_iff_iff]
    simp only [Bool.or_eq_true, decide_eq_true_eq, List.mem_append]
    constructor
    · rintro ((h1 | h1) | h1)
      · exact .inl h1
      · exact .inr h1
      · exact .inr (this h1)
    · rintro (h1 | h1)
      · exact .inl (.inl h1)
      · exact .inl (.inr h1)
theorem rd_iff {h : List TxnV} (hw : okW h = true) (o : OpV) : rdOk (wrTo h h.length) o = (o.wr || o.val == 0 || !decide (wrI o.key o.val h < 0)) := by
  unfold rdOk
  cases hv : (o.wr || o.val == 0)
  · rw [Bool.false_or, Bool.false_or]
    have hd := dom_wr h h.length (Nat.le_refl _) o.val
    rw [List.take_length] at hd
    cases hF : wrTo h h.length o.val with
    | none =>
      rw [hF] at hd
      simp only
      symm
      rw [Bool.not_eq_false', decide_eq_true_eq, wrI_nonneg]
      intro t ht p hp
      unfold isWr
      cases hpw : p.wr
      · rfl
      · have hne : ¬ p.val = o.val := fun e => by
          have : o.val ∈ wvH h := by rw [wvH_map]; exact List.mem_map.2 ⟨p, wrs_mem.2 ⟨t, ht, hp, hpw⟩, e⟩
          simp [this] at hd
        simp [hne]
    | some u =>
      obtain ⟨p, hp, e1, e2⟩ := real_wr h h.length (Nat.le_refl _) _ _ hF
      simp only
      rw [Bool.eq_iff_iff, beq_iff_eq, Bool.not_eq_true', decide_eq_false_iff_not, wrI_nonneg]
      constructor
      · intro e hn
        obtain ⟨t, ht, hp2, hpw⟩ := wrs_mem.1 hp
        have := hn t ht p hp2
        unfold isWr at this
        simp [hpw, e1, e2, e] at this
      · intro hn
        have : ∃ q ∈ wrs h, q.key = o.key ∧ q.val = o.val := Classical.byContradiction fun hno => hn fun t ht q hq => by
          unfold isWr
          cases hqw : q.wr
          · rfl
          · cases hqk : q.key == o.key
            · rfl
            · cases hqv : q.val == o.val
              · rfl
              · exact absurd ⟨q, wrs_mem.2 ⟨t, ht, hq, hqw⟩, by simpa using hqk, by simpa using hqv⟩ hno
        obtain ⟨q, hq, e3, e4⟩ := this
        have := okW_inj hw hp hq (by rw [e1, e4])
        subst this
        rw [← e2, e3]
  · rfl
/-- Stamps that are unlike. -/
def Apart (a t : TxnV) : Prop := a.b ≠ t.b ∧ a.b ≠ t.c ∧ a.c ≠ t.b ∧ a.c ≠ t.c
theorem apartB_iff (a t : TxnV) : apartB a t = true ↔ Apart a t ∧ ¬ (a.s = t.s ∧ t.b < a.c) := by
  unfold apartB Apart
  simp only [Bool.and_eq_true, bne_iff_ne, Bool.not_eq_true', Bool.and_eq_false_iff, beq_eq_false_iff_ne, decide_eq_false_iff_not, Classical.not_and_iff_not_or_not, ne_eq]
theorem stL_mem {h : List TxnV} {x : Int} : x ∈ stL h ↔ ∃ t ∈ h, x = t.b ∨ x = t.c := by unfold stL; simp
theorem st_take {h : List TxnV} {k : Nat} (hd : (stL (h.take k)).Nodup) : ∀ i j, ∀ hj : j < k, ∀ hk : k ≤ h.length, ∀ hi : i < j, Apart (h[i]'(by omega)) (h[j]'(by omega)) := by
  intro i j hj hk hi
  have e : stL (h.take k) = stL (h.take (j + 1)) ++ stL ((h.take k).drop (j + 1)) := by
    unfold stL
    rw [← List.flatMap_append]
    congr 1
    rw [show h.take (j + 1) = (h.take k).take (j + 1) from by rw [List.take_take]; congr 1; omega]
    exact (List.take_append_drop _ _).symm
  rw [e] at hd
  have h1 := (List.nodup_append.1 hd).1
  rw [stL_succ h j (by omega)] at h1
  have h2 := (List.nodup_append.1 h1).2.2
  have mem : h[i]'(by omega) ∈ h.take j := by rw [List.mem_take_iff_getElem]; exact ⟨i, by omega, rfl⟩
  have mb : (h[i]'(by omega)).b ∈ stL (h.take j) := stL_mem.2 ⟨_, mem, .inl rfl⟩
  have mc : (h[i]'(by omega)).c ∈ stL (h.take j) := stL_mem.2 ⟨_, mem, .inr rfl⟩
  exact ⟨h2 _ mb _ (by simp), h2 _ mb _ (by simp), h2 _ mc _ (by simp), h2 _ mc _ (by simp)⟩
theorem st_nodup {h : List TxnV} (hbc : ∀ t ∈ h, t.b < t.c) (ha : ∀ i j, ∀ hj : j < h.length, ∀ hi : i < j, Apart (h[i]'(by omega)) h[j]) : ∀ k, k ≤ h.length → (stL (h.take k)).Nodup
  | 0, _ => by simp [stL]
  | k + 1, hk => by
    have hlt : k < h.length := by omega
    rw [stL_succ h k hlt, List.nodup_append]
    refine ⟨st_nodup hbc ha k (by omega), ?_, ?_⟩
    · have := hbc _ (List.getElem_mem hlt)
      simp; omega
    · intro x hx y hy
      obtain ⟨t, ht, hxt⟩ := stL_mem.1 hx
      rw [List.mem_take_iff_getElem] at ht
      obtain ⟨i, hi, rfl⟩ := ht
      have hA := ha i k hlt (by omega)
      unfold Apart at hA
      simp at hy
      rcases hxt with rfl | rfl <;> rcases hy with rfl | rfl
      · exact hA.1
      · exact hA.2.1
      · exact hA.2.2.1
      · exact hA.2.2.2
end Go.Proofs.Ytlkdojcimlfmdaa
