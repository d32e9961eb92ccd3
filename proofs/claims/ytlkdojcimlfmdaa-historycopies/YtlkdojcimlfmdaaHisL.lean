/- Plain facts: a history may be just if the reference says so. Nothing of the program. -/
import Derived.Test.YtlkdojcimlfmdaaHisK
namespace Go.Proofs.Ytlkdojcimlfmdaa
set_option maxRecDepth 100000
open Go.RowKit

theorem endF_find (h : List TxnV) (s : Int) : ∀ k, k ≤ h.length → match endF (h.take k) s with
    | none => ∀ j, ∀ hj : j < k, ∀ hk : k ≤ h.length, (h[j]'(by omega)).s ≠ s
    | some e => ∃ m, ∃ hm : m < k, ∃ hk : k ≤ h.length, (h[m]'(by omega)).s = s ∧ (h[m]'(by omega)).c = e ∧ ∀ j, ∀ hj : j < k, m < j → (h[j]'(by omega)).s ≠ s
  | 0, _ => by simp [endF]
  | k + 1, hk => by
    have hlt : k < h.length := by omega
    have ih := endF_find h s k (by omega)
    rw [endF_succ h k hlt]
    unfold putF
    by_cases e : s = h[k].s
    · rw [if_pos e]
      exact ⟨k, by omega, hk, e.symm, rfl, fun j hj hmj => by omega⟩
    · rw [if_neg e]
      cases hF : endF (h.take k) s with
      | none =>
        rw [hF] at ih
        intro j hj hk2
        rcases Nat.lt_or_eq_of_le (Nat.le_of_lt_succ hj) with h1 | rfl
        · exact ih j h1 (by omega)
        · exact fun e2 => e e2.symm
      | some c =>
        rw [hF] at ih
        obtain ⟨m, hm, hk2, h1, h2, h3⟩ := ih
        refine ⟨m, by omega, hk, h1, h2, fun j hj hmj => ?_⟩
        rcases Nat.lt_or_eq_of_le (Nat.le_of_lt_succ hj) with h4 | rfl
        · exact h3 j h4 hmj
        · exact fun e2 => e e2.symm
theorem ses_all {h : List TxnV} (hs : sesB h = true) (hbc : ∀ t ∈ h, t.b < t.c) : ∀ j, ∀ hj : j < h.length, ∀ i, ∀ hi : i < j, (h[i]'(by omega)).s = h[j].s → (h[i]'(by omega)).c < h[j].b := by
  intro j
  induction j using Nat.strongRecOn with
  | ind j ih =>
    intro hj i hi e
    have h1 := List.all_eq_true.1 hs j (List.mem_range.2 hj)
    rw [sesOk_at hj] at h1
    have h2 := endF_find h h[j].s j (by omega)
    cases hF : endF (h.take j) h[j].s with
    | none =>
      rw [hF] at h2
      exact absurd e (h2 i hi (by omega))
    | some c =>
      rw [hF] at h1 h2
      obtain ⟨m, hm, hk2, e1, e2, e3⟩ := h2
      simp only [decide_eq_true_eq] at h1
      rcases Nat.lt_trichotomy i m with h4 | rfl | h4
      · have h5 := ih m hm (by omega) i h4 (by rw [e1]; exact e)
        have h6 := hbc _ (List.getElem_mem (show m < h.length by omega))
        omega
      · omega
      · exact absurd e (e3 i hi h4)
theorem ses_mk {h : List TxnV} (ha : ∀ j, ∀ hj : j < h.length, ∀ i, ∀ hi : i < j, (h[i]'(by omega)).s = h[j].s → (h[i]'(by omega)).c < h[j].b) : sesB h = true := by
  refine sesB_all fun j hj => ?_
  rw [sesOk_at hj]
  have h2 := endF_find h h[j].s j (by omega)
  cases hF : endF (h.take j) h[j].s with
  | none => rfl
  | some c =>
    rw [hF] at h2
    obtain ⟨m, hm, hk2, e1, e2, e3⟩ := h2
    simp only [decide_eq_true_eq]
    rw [← e2]; exact ha j hj m hm e1
theorem mayT_bc {t : TxnV} (h : mayT t.s t.b t.c t.l = true) : t.b < t.c := by
  unfold mayT at h
  simp only [Bool.and_eq_true, decide_eq_true_eq] at h
  exact h.1.2.2.2.1
theorem right_ref (h : List TxnV) : rightB h = mayRef h := by
  rw [Bool.eq_iff_iff]
  constructor
  · intro hr
    unfold rightB at hr
    simp only [Bool.and_eq_true] at hr
    obtain ⟨hp, hv, hst, hse⟩ := hr
    unfold valuesB at hv
    simp only [Bool.and_eq_true] at hv
    obtain ⟨hw, hro⟩ := hv
    have hP : ∀ t ∈ h, mayT t.s t.b t.c t.l = true := List.all_eq_true.1 hp
    have hbc : ∀ t ∈ h, t.b < t.c := fun t ht => mayT_bc (hP t ht)
    refine mayRef_yes fun k hk => ?_
    unfold rowR
    rw [hP _ (List.getElem_mem hk), Bool.true_and, Bool.and_eq_true]
    constructor
    · rw [List.all_eq_true]
      intro a ha
      rw [List.mem_take_iff_getElem] at ha
      obtain ⟨i, hi, rfl⟩ := ha
      rw [apartB_iff]
      unfold stampsB at hst
      rw [decide_eq_true_eq, ← List.take_length (l := h)] at hst
      refine ⟨st_take hst i k hk (Nat.le_refl _) (by omega), fun hh => ?_⟩
      have := ses_all hse hbc k hk i (by omega) hh.1
      omega
    · rw [List.all_eq_true]
      intro o ho
      unfold opR
      cases how : o.wr
      · have h1 := List.all_eq_true.1 (List.all_eq_true.1 hro _ (List.getElem_mem hk)) o ho
        rw [rd_iff hw o, how] at h1
        simpa using h1
      · simp only [if_true, beq_iff_eq]
        exact okW_count.1 hw _ (List.getElem_mem hk) o ho how
  · intro hm
    have hrow : ∀ k, ∀ hk : k < h.length, rowR h k h[k] = true := fun k hk => by
      have := List.all_eq_true.1 hm k (List.mem_range.2 hk)
      rwa [List.getElem?_eq_getElem hk] at this
    have hP : ∀ t ∈ h, mayT t.s t.b t.c t.l = true := fun t ht => by
      obtain ⟨k, hk, rfl⟩ := List.getElem_of_mem ht
      have := hrow k hk
      unfold rowR at this
      simp only [Bool.and_eq_true] at this
      exact this.1
    have hbc : ∀ t ∈ h, t.b < t.c := fun t ht => mayT_bc (hP t ht)
    have hA : ∀ i j, ∀ hj : j < h.length, ∀ hi : i < j, Apart (h[i]'(by omega)) h[j] ∧ ¬ ((h[i]'(by omega)).s = h[j].s ∧ h[j].b < (h[i]'(by omega)).c) := fun i j hj hi => by
      have := hrow j hj
      unfold rowR at this
      simp only [Bool.and_eq_true] at this
      exact (apartB_iff _ _).1 (List.all_eq_true.1 this.2.1 _ (by rw [List.mem_take_iff_getElem]; exact ⟨i, by omega, rfl⟩))
    have hO : ∀ t ∈ h, ∀ o ∈ t.l, opR h o = true := fun t ht => by
      obtain ⟨k, hk, rfl⟩ := List.getElem_of_mem ht
      have := hrow k hk
      unfold rowR at this
      simp only [Bool.and_eq_true] at this
      exact List.all_eq_true.1 this.2.2
    have hw : okW h = true := okW_count.2 fun t ht o ho how => by
      have := hO t ht o ho
      unfold opR at this
      rw [how] at this
      simpa using this
    unfold rightB
    simp only [Bool.and_eq_true]
    refine ⟨List.all_eq_true.2 hP, ?_, ?_, ?_⟩
    · unfold valuesB
      rw [hw, Bool.true_and, List.all_eq_true]
      intro t ht
      unfold rowOk
      rw [List.all_eq_true]
      intro o ho
      rw [rd_iff hw o]
      have := hO t ht o ho
      unfold opR at this
      cases how : o.wr
      · rw [how] at this
        simpa using this
      · rfl
    · unfold stampsB
      rw [decide_eq_true_eq]
      have := st_nodup hbc (fun i j hj hi => (hA i j hj hi).1) h.length (Nat.le_refl _)
      rwa [List.take_length] at this
    · refine ses_mk fun j hj i hi e => ?_
      obtain ⟨h1, h2⟩ := hA i j hj hi
      have h3 : ¬ h[j].b < (h[i]'(by omega)).c := fun hh => h2 ⟨e, hh⟩
      have h4 := h1.2.2.1
      omega
def checkR (h : List TxnV) : Int := if 64 < h.length ∨ 1024 < opsN h then 3 else if mayRef h then 0 else 2
theorem check_ref (h : List TxnV) : checkI h = checkR h := by unfold checkI checkR; rw [right_ref]
end Go.Proofs.Ytlkdojcimlfmdaa
