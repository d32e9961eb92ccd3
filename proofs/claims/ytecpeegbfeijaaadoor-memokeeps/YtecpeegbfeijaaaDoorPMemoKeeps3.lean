/- Walks and plain facts that the proof of the statement MemoKeeps uses, joined: HisK HisL HisM HisN HisO OpQ TxnI TxnJ TxnK HisP OrdR OrdS OrdX HisQ HisR OrdV OrdZ OrdAC LeaD RelS RelT LeaE RelX RelY LeaF LeaG AxiA AxiB AxiC LevA AxiD LevB LevC LevE AxiE LeaB RelU OrdAA LeaH TblA AxiF PlaA AxiG PlaC AxiH OrdP LesA LesB AxhA PlaD PlaE MemA MemC OrdAJ MemD. Conditions: each theorem's own. -/
import Derived.Test.YtecpeegbfeijaaaDoorProg
import Derived.Laws.StructEq
import Derived.Deep.RegionHeld3
import Derived.Deep.CutRange
import Derived.Deep.AppendLies
import Derived.Deep.LoopGhost
import Derived.ChangeKeysEq
import Derived.Deep.RegionLaw
import Derived.Great.BuildSlice
import Derived.KernelRfl
import Derived.Laws.Bits128
import Derived.WalkKit
import Derived.WalkSpells
import Derived.WalkLawsBesides
import Derived.Lib.Hide
import Derived.Laws.Tables
import Derived.Laws.CopyOwn
import Derived.Deep.QuietTactic
import Derived.BigQuiet
import Derived.Test.YtecpeegbfeijaaaDoorPMemoKeeps0
import Derived.Test.YtecpeegbfeijaaaDoorPMemoKeeps1
import Derived.Test.YtecpeegbfeijaaaDoorPMemoKeeps2
namespace Go.Proofs.YtecpeegbfeijaaaDoor
set_option maxRecDepth 100000
open Go.RowKit

/-- All writes, one behind the other. -/
def wrs (h : List TxnV) : List OpV := h.flatMap fun t => t.l.filter (·.wr)
theorem wvH_map (h : List TxnV) : wvH h = (wrs h).map (·.val) := by unfold wvH wrs wv; rw [List.map_flatMap]
theorem wrs_mem {h : List TxnV} {o : OpV} : o ∈ wrs h ↔ ∃ t ∈ h, o ∈ t.l ∧ o.wr = true := by unfold wrs; simp
theorem inj_val : ∀ {L : List OpV}, (L.map (·.val)).Nodup → ∀ {o p : OpV}, o ∈ L → p ∈ L → o.val = p.val → o = p
  | a :: L, hd, o, p, ho, hp, e => by
    rw [List.map_cons, List.nodup_cons] at hd
    rcases List.mem_cons.1 ho with rfl | ho
    · rcases List.mem_cons.1 hp with rfl | hp
      · rfl
      · exact absurd (List.mem_map.2 ⟨p, hp, e.symm⟩) hd.1
    · rcases List.mem_cons.1 hp with hpe | hp
      · exact absurd (List.mem_map.2 ⟨o, ho, by rw [e, hpe]⟩) hd.1
      · exact inj_val hd.2 ho hp e
theorem okW_inj {h : List TxnV} (hw : okW h = true) {o p : OpV} (ho : o ∈ wrs h) (hp : p ∈ wrs h) (e : o.val = p.val) : o = p := by
  unfold okW at hw
  rw [decide_eq_true_eq, wvH_map] at hw
  exact inj_val hw ho hp e
theorem okW_count {h : List TxnV} : okW h = true ↔ ∀ t ∈ h, ∀ o ∈ t.l, o.wr = true → tmH o.val h = 1 := by
  unfold okW tmH
  rw [decide_eq_true_eq]
  constructor
  · intro hd t ht o ho hw
    rw [List.Nodup.count hd, if_pos]
    rw [wvH_map]
    exact List.mem_map.2 ⟨o, wrs_mem.2 ⟨t, ht, ho, hw⟩, rfl⟩
  · intro hc
    rw [List.nodup_iff_count]
    intro x
    by_cases hx : x ∈ wvH h
    · have hx2 := hx
      rw [wvH_map] at hx2
      obtain ⟨o, ho, rfl⟩ := List.mem_map.1 hx2
      obtain ⟨t, ht, ho2, hw⟩ := wrs_mem.1 ho
      exact Nat.le_of_eq (hc t ht o ho2 hw)
    · rw [List.count_eq_zero_of_not_mem hx]; omega
/-- What is told of each value is a write that there is. -/
def Real (h : List TxnV) (F : Int → Option WV) : Prop := ∀ x u, F x = some u → ∃ o ∈ wrs h, o.val = x ∧ o.key = u.key
theorem real_put {h : List TxnV} {F : Int → Option WV} (hF : Real h F) {o : OpV} (ho : o ∈ wrs h) (i : Int) (b : Bool) : Real h (putF F o.val ⟨i, o.key, b⟩) := by
  intro x u hx
  unfold putF at hx
  split at hx
  · rename_i e
    cases hx
    exact ⟨o, ho, e.symm, rfl⟩
  · exact hF x u hx
theorem real_add {h : List TxnV} (i : Int) : ∀ (l : List OpV) (F : Int → Option WV), Real h F → (∀ o ∈ l, o.wr = true → o ∈ wrs h) → Real h (addF i F l)
  | [], F, hF, _ => hF
  | a :: l, F, hF, hl => by
    show Real h (addF i (addOne i F a) l)
    refine real_add i l _ ?_ (fun o ho => hl o (List.mem_cons_of_mem _ ho))
    unfold addOne
    split
    · rename_i hw
      exact real_put hF (hl a List.mem_cons_self hw) i false
    · exact hF
theorem real_fin {h : List TxnV} (i : Int) : ∀ (l : List OpV) (F : Int → Option WV), Real h F → (∀ o ∈ l, o ∈ wrs h) → Real h (finF i F l)
  | [], F, hF, _ => hF
  | a :: l, F, hF, hl => by
    show Real h (finF i (putF F a.val ⟨i, a.key, true⟩) l)
    exact real_fin i l _ (real_put hF (hl a List.mem_cons_self) i true) (fun o ho => hl o (List.mem_cons_of_mem _ ho))
theorem refWrites_mem {l : List OpV} {o : OpV} (h : o ∈ refWrites l) : o ∈ l ∧ o.wr = true := by
  unfold refWrites at h
  obtain ⟨k, _, hk⟩ := upTo_mem.1 h
  have := lastW_key (l := l) (x := k) hk
  exact ⟨this.2.2, this.2.1⟩
theorem real_wr (h : List TxnV) : ∀ k, k ≤ h.length → Real h (wrTo h k)
  | 0, _ => fun x u hx => by simp [wrTo] at hx
  | k + 1, hk => by
    have hlt : k < h.length := by omega
    rw [wrTo_succ, opsAt_eq hlt]
    have hm : ∀ o ∈ h[k].l, o.wr = true → o ∈ wrs h := fun o ho hw => wrs_mem.2 ⟨_, List.getElem_mem hlt, ho, hw⟩
    exact real_fin _ _ _ (real_add _ _ _ (real_wr h k (by omega)) hm) (fun o ho => hm o (refWrites_mem ho).1 (refWrites_mem ho).2)
theorem dom_add (i : Int) : ∀ (l : List OpV) (F : Int → Option WV) (x : Int), (addF i F l x).isSome = ((F x).isSome || decide (x ∈ wv l))
  | [], F, x => by simp [addF, wv]
  | a :: l, F, x => by
    show (addF i (addOne i F a) l x).isSome = _
    rw [dom_add i l]
    have hc : wv (a :: l) = (if a.wr then [a.val] else []) ++ wv l := by
      unfold wv
      cases hw : a.wr <;> simp [hw]
    rw [hc]
    unfold addOne putF
    cases hw : a.wr
    · simp
    · by_cases e : x = a.val <;> simp [e]
theorem dom_fin (i : Int) : ∀ (l : List OpV) (F : Int → Option WV) (x : Int), (finF i F l x).isSome = ((F x).isSome || decide (x ∈ l.map (·.val)))
  | [], F, x => by simp [finF]
  | a :: l, F, x => by
    show (finF i (putF F a.val ⟨i, a.key, true⟩) l x).isSome = _
    rw [dom_fin i l]
    unfold putF
    by_cases e : x = a.val <;> simp [e]
theorem dom_wr (h : List TxnV) : ∀ k, k ≤ h.length → ∀ x, (wrTo h k x).isSome = decide (x ∈ wvH (h.take k))
  | 0, _ => fun x => by simp [wrTo, wvH]
  | k + 1, hk => fun x => by
    have hlt : k < h.length := by omega
    rw [wrTo_succ, opsAt_eq hlt, dom_fin, dom_add, dom_wr h k (by omega), wvH_succ h k hlt]
    have : x ∈ (refWrites h[k].l).map (·.val) → x ∈ wv h[k].l := fun hx => by
      obtain ⟨o, ho, rfl⟩ := List.mem_map.1 hx
      exact wv_mem.2 ⟨o, (refWrites_mem ho).1, (refWrites_mem ho).2, rfl⟩
    rw [Bool.eq_iff_iff]
    simp only [Bool.or_eq_true, decide_eq_true_eq, List.mem_append]
    constructor
    · rintro ((h1 | h1) | h1)
      · exact .inl h1
      · exact .inr h1
      · exact .inr (this h1)
    · rintro (h1 | h1)
      · exact .inl (.inl h1)
      · exact .inl (.inr h1)
theorem rd_iff {h : List TxnV} (hw : okW h = true) (o : OpV) : rdOk (wrTo h h.length) o = (o.wr || o.val == 0 || !decide (wrI o.key o.val h < 0)) := by
  unfold rdOk
  cases hv : (o.wr || o.val == 0)
  · rw [Bool.false_or, Bool.false_or]
    have hd := dom_wr h h.length (Nat.le_refl _) o.val
    rw [List.take_length] at hd
    cases hF : wrTo h h.length o.val with
    | none =>
      rw [hF] at hd
      simp only
      symm
      rw [Bool.not_eq_false', decide_eq_true_eq, wrI_nonneg]
      intro t ht p hp
      unfold isWr
      cases hpw : p.wr
      · rfl
      · have hne : ¬ p.val = o.val := fun e => by
          have : o.val ∈ wvH h := by rw [wvH_map]; exact List.mem_map.2 ⟨p, wrs_mem.2 ⟨t, ht, hp, hpw⟩, e⟩
          simp [this] at hd
        simp [hne]
    | some u =>
      obtain ⟨p, hp, e1, e2⟩ := real_wr h h.length (Nat.le_refl _) _ _ hF
      simp only
      rw [Bool.eq_iff_iff, beq_iff_eq, Bool.not_eq_true', decide_eq_false_iff_not, wrI_nonneg]
      constructor
      · intro e hn
        obtain ⟨t, ht, hp2, hpw⟩ := wrs_mem.1 hp
        have := hn t ht p hp2
        unfold isWr at this
        simp [hpw, e1, e2, e] at this
      · intro hn
        have : ∃ q ∈ wrs h, q.key = o.key ∧ q.val = o.val := Classical.byContradiction fun hno => hn fun t ht q hq => by
          unfold isWr
          cases hqw : q.wr
          · rfl
          · cases hqk : q.key == o.key
            · rfl
            · cases hqv : q.val == o.val
              · rfl
              · exact absurd ⟨q, wrs_mem.2 ⟨t, ht, hq, hqw⟩, by simpa using hqk, by simpa using hqv⟩ hno
        obtain ⟨q, hq, e3, e4⟩ := this
        have := okW_inj hw hp hq (by rw [e1, e4])
        subst this
        rw [← e2, e3]
  · rfl
/-- Stamps that are unlike. -/
def Apart (a t : TxnV) : Prop := a.b ≠ t.b ∧ a.b ≠ t.c ∧ a.c ≠ t.b ∧ a.c ≠ t.c
theorem apartB_iff (a t : TxnV) : apartB a t = true ↔ Apart a t ∧ ¬ (a.s = t.s ∧ t.b < a.c) := by
  unfold apartB Apart
  simp only [Bool.and_eq_true, bne_iff_ne, Bool.not_eq_true', Bool.and_eq_false_iff, beq_eq_false_iff_ne, decide_eq_false_iff_not, Classical.not_and_iff_not_or_not, ne_eq]
theorem stL_mem {h : List TxnV} {x : Int} : x ∈ stL h ↔ ∃ t ∈ h, x = t.b ∨ x = t.c := by unfold stL; simp
theorem st_take {h : List TxnV} {k : Nat} (hd : (stL (h.take k)).Nodup) : ∀ i j, ∀ hj : j < k, ∀ hk : k ≤ h.length, ∀ hi : i < j, Apart (h[i]'(by omega)) (h[j]'(by omega)) := by
  intro i j hj hk hi
  have e : stL (h.take k) = stL (h.take (j + 1)) ++ stL ((h.take k).drop (j + 1)) := by
    unfold stL
    rw [← List.flatMap_append]
    congr 1
    rw [show h.take (j + 1) = (h.take k).take (j + 1) from by rw [List.take_take]; congr 1; omega]
    exact (List.take_append_drop _ _).symm
  rw [e] at hd
  have h1 := (List.nodup_append.1 hd).1
  rw [stL_succ h j (by omega)] at h1
  have h2 := (List.nodup_append.1 h1).2.2
  have mem : h[i]'(by omega) ∈ h.take j := by rw [List.mem_take_iff_getElem]; exact ⟨i, by omega, rfl⟩
  have mb : (h[i]'(by omega)).b ∈ stL (h.take j) := stL_mem.2 ⟨_, mem, .inl rfl⟩
  have mc : (h[i]'(by omega)).c ∈ stL (h.take j) := stL_mem.2 ⟨_, mem, .inr rfl⟩
  exact ⟨h2 _ mb _ (by simp), h2 _ mb _ (by simp), h2 _ mc _ (by simp), h2 _ mc _ (by simp)⟩
theorem st_nodup {h : List TxnV} (hbc : ∀ t ∈ h, t.b < t.c) (ha : ∀ i j, ∀ hj : j < h.length, ∀ hi : i < j, Apart (h[i]'(by omega)) h[j]) : ∀ k, k ≤ h.length → (stL (h.take k)).Nodup
  | 0, _ => by simp [stL]
  | k + 1, hk => by
    have hlt : k < h.length := by omega
    rw [stL_succ h k hlt, List.nodup_append]
    refine ⟨st_nodup hbc ha k (by omega), ?_, ?_⟩
    · have := hbc _ (List.getElem_mem hlt)
      simp; omega
    · intro x hx y hy
      obtain ⟨t, ht, hxt⟩ := stL_mem.1 hx
      rw [List.mem_take_iff_getElem] at ht
      obtain ⟨i, hi, rfl⟩ := ht
      have hA := ha i k hlt (by omega)
      unfold Apart at hA
      simp at hy
      rcases hxt with rfl | rfl <;> rcases hy with rfl | rfl
      · exact hA.1
      · exact hA.2.1
      · exact hA.2.2.1
      · exact hA.2.2.2
end Go.Proofs.YtecpeegbfeijaaaDoor

namespace Go.Proofs.YtecpeegbfeijaaaDoor
set_option maxRecDepth 100000
open Go.RowKit

theorem endF_find (h : List TxnV) (s : Int) : ∀ k, k ≤ h.length → match endF (h.take k) s with
    | none => ∀ j, ∀ hj : j < k, ∀ hk : k ≤ h.length, (h[j]'(by omega)).s ≠ s
    | some e => ∃ m, ∃ hm : m < k, ∃ hk : k ≤ h.length, (h[m]'(by omega)).s = s ∧ (h[m]'(by omega)).c = e ∧ ∀ j, ∀ hj : j < k, m < j → (h[j]'(by omega)).s ≠ s
  | 0, _ => by simp [endF]
  | k + 1, hk => by
    have hlt : k < h.length := by omega
    have ih := endF_find h s k (by omega)
    rw [endF_succ h k hlt]
    unfold putF
    by_cases e : s = h[k].s
    · rw [if_pos e]
      exact ⟨k, by omega, hk, e.symm, rfl, fun j hj hmj => by omega⟩
    · rw [if_neg e]
      cases hF : endF (h.take k) s with
      | none =>
        rw [hF] at ih
        intro j hj hk2
        rcases Nat.lt_or_eq_of_le (Nat.le_of_lt_succ hj) with h1 | rfl
        · exact ih j h1 (by omega)
        · exact fun e2 => e e2.symm
      | some c =>
        rw [hF] at ih
        obtain ⟨m, hm, hk2, h1, h2, h3⟩ := ih
        refine ⟨m, by omega, hk, h1, h2, fun j hj hmj => ?_⟩
        rcases Nat.lt_or_eq_of_le (Nat.le_of_lt_succ hj) with h4 | rfl
        · exact h3 j h4 hmj
        · exact fun e2 => e e2.symm
theorem ses_all {h : List TxnV} (hs : sesB h = true) (hbc : ∀ t ∈ h, t.b < t.c) : ∀ j, ∀ hj : j < h.length, ∀ i, ∀ hi : i < j, (h[i]'(by omega)).s = h[j].s → (h[i]'(by omega)).c < h[j].b := by
  intro j
  induction j using Nat.strongRecOn with
  | ind j ih =>
    intro hj i hi e
    have h1 := List.all_eq_true.1 hs j (List.mem_range.2 hj)
    rw [sesOk_at hj] at h1
    have h2 := endF_find h h[j].s j (by omega)
    cases hF : endF (h.take j) h[j].s with
    | none =>
      rw [hF] at h2
      exact absurd e (h2 i hi (by omega))
    | some c =>
      rw [hF] at h1 h2
      obtain ⟨m, hm, hk2, e1, e2, e3⟩ := h2
      simp only [decide_eq_true_eq] at h1
      rcases Nat.lt_trichotomy i m with h4 | rfl | h4
      · have h5 := ih m hm (by omega) i h4 (by rw [e1]; exact e)
        have h6 := hbc _ (List.getElem_mem (show m < h.length by omega))
        omega
      · omega
      · exact absurd e (e3 i hi h4)
theorem ses_mk {h : List TxnV} (ha : ∀ j, ∀ hj : j < h.length, ∀ i, ∀ hi : i < j, (h[i]'(by omega)).s = h[j].s → (h[i]'(by omega)).c < h[j].b) : sesB h = true := by
  refine sesB_all fun j hj => ?_
  rw [sesOk_at hj]
  have h2 := endF_find h h[j].s j (by omega)
  cases hF : endF (h.take j) h[j].s with
  | none => rfl
  | some c =>
    rw [hF] at h2
    obtain ⟨m, hm, hk2, e1, e2, e3⟩ := h2
    simp only [decide_eq_true_eq]
    rw [← e2]; exact ha j hj m hm e1
theorem mayT_bc {t : TxnV} (h : mayT t.s t.b t.c t.l = true) : t.b < t.c := by
  unfold mayT at h
  simp only [Bool.and_eq_true, decide_eq_true_eq] at h
  exact h.1.2.2.2.1
theorem right_ref (h : List TxnV) : rightB h = mayRef h := by
  rw [Bool.eq_iff_iff]
  constructor
  · intro hr
    unfold rightB at hr
    simp only [Bool.and_eq_true] at hr
    obtain ⟨hp, hv, hst, hse⟩ := hr
    unfold valuesB at hv
    simp only [Bool.and_eq_true] at hv
    obtain ⟨hw, hro⟩ := hv
    have hP : ∀ t ∈ h, mayT t.s t.b t.c t.l = true := List.all_eq_true.1 hp
    have hbc : ∀ t ∈ h, t.b < t.c := fun t ht => mayT_bc (hP t ht)
    refine mayRef_yes fun k hk => ?_
    unfold rowR
    rw [hP _ (List.getElem_mem hk), Bool.true_and, Bool.and_eq_true]
    constructor
    · rw [List.all_eq_true]
      intro a ha
      rw [List.mem_take_iff_getElem] at ha
      obtain ⟨i, hi, rfl⟩ := ha
      rw [apartB_iff]
      unfold stampsB at hst
      rw [decide_eq_true_eq, ← List.take_length (l := h)] at hst
      refine ⟨st_take hst i k hk (Nat.le_refl _) (by omega), fun hh => ?_⟩
      have := ses_all hse hbc k hk i (by omega) hh.1
      omega
    · rw [List.all_eq_true]
      intro o ho
      unfold opR
      cases how : o.wr
      · have h1 := List.all_eq_true.1 (List.all_eq_true.1 hro _ (List.getElem_mem hk)) o ho
        rw [rd_iff hw o, how] at h1
        simpa using h1
      · simp only [if_true, beq_iff_eq]
        exact okW_count.1 hw _ (List.getElem_mem hk) o ho how
  · intro hm
    have hrow : ∀ k, ∀ hk : k < h.length, rowR h k h[k] = true := fun k hk => by
      have := List.all_eq_true.1 hm k (List.mem_range.2 hk)
      rwa [List.getElem?_eq_getElem hk] at this
    have hP : ∀ t ∈ h, mayT t.s t.b t.c t.l = true := fun t ht => by
      obtain ⟨k, hk, rfl⟩ := List.getElem_of_mem ht
      have := hrow k hk
      unfold rowR at this
      simp only [Bool.and_eq_true] at this
      exact this.1
    have hbc : ∀ t ∈ h, t.b < t.c := fun t ht => mayT_bc (hP t ht)
    have hA : ∀ i j, ∀ hj : j < h.length, ∀ hi : i < j, Apart (h[i]'(by omega)) h[j] ∧ ¬ ((h[i]'(by omega)).s = h[j].s ∧ h[j].b < (h[i]'(by omega)).c) := fun i j hj hi => by
      have := hrow j hj
      unfold rowR at this
      simp only [Bool.and_eq_true] at this
      exact (apartB_iff _ _).1 (List.all_eq_true.1 this.2.1 _ (by rw [List.mem_take_iff_getElem]; exact ⟨i, by omega, rfl⟩))
    have hO : ∀ t ∈ h, ∀ o ∈ t.l, opR h o = true := fun t ht => by
      obtain ⟨k, hk, rfl⟩ := List.getElem_of_mem ht
      have := hrow k hk
      unfold rowR at this
      simp only [Bool.and_eq_true] at this
      exact List.all_eq_true.1 this.2.2
    have hw : okW h = true := okW_count.2 fun t ht o ho how => by
      have := hO t ht o ho
      unfold opR at this
      rw [how] at this
      simpa using this
    unfold rightB
    simp only [Bool.and_eq_true]
    refine ⟨List.all_eq_true.2 hP, ?_, ?_, ?_⟩
    · unfold valuesB
      rw [hw, Bool.true_and, List.all_eq_true]
      intro t ht
      unfold rowOk
      rw [List.all_eq_true]
      intro o ho
      rw [rd_iff hw o]
      have := hO t ht o ho
      unfold opR at this
      cases how : o.wr
      · rw [how] at this
        simpa using this
      · rfl
    · unfold stampsB
      rw [decide_eq_true_eq]
      have := st_nodup hbc (fun i j hj hi => (hA i j hj hi).1) h.length (Nat.le_refl _)
      rwa [List.take_length] at this
    · refine ses_mk fun j hj i hi e => ?_
      obtain ⟨h1, h2⟩ := hA i j hj hi
      have h3 : ¬ h[j].b < (h[i]'(by omega)).c := fun hh => h2 ⟨e, hh⟩
      have h4 := h1.2.2.1
      omega
end Go.Proofs.YtecpeegbfeijaaaDoor

namespace Go.Proofs.YtecpeegbfeijaaaDoor
set_option maxRecDepth 100000
open Go.RowKit

theorem Row.take {w : World} {ao : Option Addr} {n size cap : Nat} {cs : List Value} (h : Row w (.slice ao n cap) n size cs) {k : Nat} (hk : k ≤ n) : Row w (.slice ao k cap) k size (cs.take (k * size)) := by
  obtain ⟨hl, ao', cap', he, hm, hno, hc⟩ := h
  obtain ⟨rfl, rfl⟩ : ao = ao' ∧ cap = cap' := by simpa using he
  have hks : k * size ≤ n * size := Nat.mul_le_mul_right _ hk
  refine ⟨by rw [List.length_take]; omega, ao, cap, rfl, ⟨by omega, hm.2⟩, fun h0 => ⟨by have := hno h0; omega, (hno h0).2⟩, fun h0 => ?_⟩
  obtain ⟨b, off, hb, hcell⟩ := hc (by omega)
  exact ⟨b, off, hb, fun i hi => by rw [hcell i (by omega), List.getElem?_take, if_pos hi]⟩
theorem txV_take : ∀ (h : List TxnV) (k : Nat), txV (h.take k) = (txV h).take (k * 4)
  | [], _ => by simp [txV]
  | t :: h, 0 => by simp [txV]
  | t :: h, k + 1 => by
    have := txV_take h k
    have e : (k + 1) * 4 = k * 4 + 1 + 1 + 1 + 1 := by omega
    unfold txV at this ⊢
    rw [e, List.take_succ_cons, List.flatMap_cons, List.flatMap_cons, this]
    simp
theorem Txns.take {w : World} {ao : Option Addr} {n cap : Nat} {h : List TxnV} (hT : Txns w (.slice ao n cap) h) {k : Nat} (hk : k ≤ h.length) : Txns w (.slice ao k cap) (h.take k) := by
  obtain ⟨hR, hO⟩ := hT
  have hn : n = h.length := by obtain ⟨_, ao', cap', he, _⟩ := hR; simp at he; exact he.2.1
  subst hn
  have hl : (h.take k).length = k := by rw [List.length_take]; omega
  refine ⟨?_, fun t ht => hO t (List.mem_of_mem_take ht)⟩
  rw [hl, txV_take]; exact hR.take hk
end Go.Proofs.YtecpeegbfeijaaaDoor

namespace Go.Proofs.YtecpeegbfeijaaaDoor
set_option maxRecDepth 100000
open Go.RowKit

instance : DecidableEq OpV := fun a b => by
  obtain ⟨a1, a2, a3⟩ := a
  obtain ⟨b1, b2, b3⟩ := b
  exact if h : a1 = b1 ∧ a2 = b2 ∧ a3 = b3 then .isTrue (by obtain ⟨rfl, rfl, rfl⟩ := h; rfl) else .isFalse (fun e => by cases e; exact h ⟨rfl, rfl, rfl⟩)
end Go.Proofs.YtecpeegbfeijaaaDoor

namespace Go.Proofs.YtecpeegbfeijaaaDoor
set_option maxRecDepth 100000
open Go.RowKit

/-- The place of the last write so far. -/
def LastAt (l : List OpV) (k j : Nat) (i : Int) : Prop := (i = -1 ∧ lastW (l.take j) k = none) ∨ ∃ p : Nat, ∃ h : p < l.length, i = p ∧ lastW (l.take j) k = some l[p]
theorem LastAt.yes {l : List OpV} {k j : Nat} (h : j < l.length) (h1 : l[j].key = k) (h2 : l[j].wr = true) : LastAt l k (j + 1) j :=
  .inr ⟨j, h, rfl, by rw [take_snoc l j h, lastW_snoc, if_pos h2, h1, putF_same]⟩
theorem LastAt.no {l : List OpV} {k j : Nat} {i : Int} (hL : LastAt l k j i) (h : j < l.length) (h1 : ¬ (l[j].key = k ∧ l[j].wr = true)) : LastAt l k (j + 1) i := by
  have e : lastW (l.take (j + 1)) k = lastW (l.take j) k := by
    rw [take_snoc l j h, lastW_snoc]
    cases hw : l[j].wr
    · rfl
    · simp only [if_true]; rw [putF_other]; exact fun e => h1 ⟨e.symm, hw⟩
  unfold LastAt at *
  rw [e]; exact hL
end Go.Proofs.YtecpeegbfeijaaaDoor

namespace Go.Proofs.YtecpeegbfeijaaaDoor
set_option maxRecDepth 100000
open Go.RowKit

/-- What a transaction leaves at a key. -/
def vOf (l : List OpV) (k : Int) : Int := (((refWrites l).find? fun o => o.key == k).map (·.val)).getD 0
theorem wv_cons (a : OpV) (l : List OpV) : wv (a :: l) = (if a.wr then [a.val] else []) ++ wv l := by
  unfold wv; cases h : a.wr <;> simp [h]
theorem addF_cons (i : Int) (F : Int → Option WV) (a : OpV) (l : List OpV) : addF i F (a :: l) = addF i (addOne i F a) l := rfl
theorem finF_cons (i : Int) (F : Int → Option WV) (a : OpV) (l : List OpV) : finF i F (a :: l) = finF i (putF F a.val ⟨i, a.key, true⟩) l := rfl
theorem addF_out (i : Int) {x : Int} : ∀ (l : List OpV) (F : Int → Option WV), ¬ x ∈ wv l → addF i F l x = F x
  | [], _, _ => rfl
  | a :: l, F, h => by
    rw [wv_cons] at h
    rw [addF_cons, addF_out i l _ (fun hh => h (List.mem_append_right _ hh))]
    unfold addOne
    cases hw : a.wr
    · rfl
    · simp only [if_true]
      exact putF_other _ _ (fun e => h (by rw [hw, e]; simp))
theorem addF_in (i : Int) {o : OpV} (ho : o.wr = true) : ∀ (l : List OpV) (F : Int → Option WV), (wv l).Nodup → o ∈ l → addF i F l o.val = some ⟨i, o.key, false⟩
  | a :: l, F, hn, hin => by
    rw [wv_cons] at hn
    rw [addF_cons]
    rcases List.mem_cons.1 hin with rfl | h
    · rw [ho] at hn
      simp only [if_true, List.singleton_append, List.nodup_cons] at hn
      rw [addF_out i l _ hn.1]
      unfold addOne
      rw [ho]
      simp only [if_true]
      exact putF_same _ _ _
    · exact addF_in i ho l _ (List.nodup_append.1 hn).2.1 h
theorem finF_out (i : Int) {x : Int} : ∀ (R : List OpV) (F : Int → Option WV), (∀ o ∈ R, o.val ≠ x) → finF i F R x = F x
  | [], _, _ => rfl
  | a :: R, F, h => by
    rw [finF_cons, finF_out i R _ (fun o ho => h o (List.mem_cons_of_mem _ ho))]
    exact putF_other _ _ (fun e => h a List.mem_cons_self e.symm)
theorem finF_in (i : Int) {x k : Int} : ∀ (R : List OpV) (F : Int → Option WV), (∀ o ∈ R, o.val = x → o.key = k) → (∃ o ∈ R, o.val = x) → finF i F R x = some ⟨i, k, true⟩
  | a :: R, F, h, hex => by
    rw [finF_cons]
    by_cases hr : ∃ o ∈ R, o.val = x
    · exact finF_in i R _ (fun o ho => h o (List.mem_cons_of_mem _ ho)) hr
    · have hn : ∀ o ∈ R, o.val ≠ x := fun o ho e => hr ⟨o, ho, e⟩
      obtain ⟨o, ho, e⟩ := hex
      rcases List.mem_cons.1 ho with rfl | h1
      · rw [finF_out i R _ hn, e, putF_same, h _ List.mem_cons_self e]
      · exact (hn o h1 e).elim
theorem wv_inj {l : List OpV} (hn : (wv l).Nodup) {o p : OpV} (ho : o ∈ l) (hp : p ∈ l) (wo : o.wr = true) (wp : p.wr = true) (e : o.val = p.val) : o.key = p.key := by
  have h1 := addF_in 0 wo l (fun _ => none) hn ho
  have h2 := addF_in 0 wp l (fun _ => none) hn hp
  rw [e, h2] at h1
  have := Option.some.inj h1
  exact (congrArg WV.key this).symm
theorem lastW_some (l : List OpV) {o : OpV} (wo : o.wr = true) : ∀ k, k ≤ l.length → o ∈ l.take k → (lastW (l.take k) o.key).isSome = true
  | 0, _, h => by simp at h
  | k + 1, hk, h => by
    have hlt : k < l.length := by omega
    rw [take_snoc l k hlt] at h ⊢
    rw [lastW_snoc]
    cases hw : l[k].wr with
    | false =>
      simp only [Bool.false_eq_true, if_false]
      rcases List.mem_append.1 h with h1 | h1
      · exact lastW_some l wo k (by omega) h1
      · simp at h1; rw [h1, hw] at wo; cases wo
    | true =>
      simp only [if_true]
      by_cases e : o.key = l[k].key
      · rw [e, putF_same]; rfl
      · rw [putF_other _ _ e]
        rcases List.mem_append.1 h with h1 | h1
        · exact lastW_some l wo k (by omega) h1
        · simp at h1; rw [h1] at e; exact (e rfl).elim
/-- What one transaction's turn lays at the value of one of its writes. -/
theorem turn_at (i : Int) (F : Int → Option WV) {l : List OpV} (hk : keysIn l) (hn : (wv l).Nodup) {o : OpV} (ho : o ∈ l) (wo : o.wr = true) :
    finF i (addF i F l) (refWrites l) o.val = some ⟨i, o.key, vOf l o.key == o.val⟩ := by
  have hR := refWrites_rise hk
  have hmem : ∀ p ∈ refWrites l, p ∈ l ∧ p.wr = true := fun p hp => refWrites_mem hp
  have huq : ∀ p ∈ refWrites l, ∀ q ∈ refWrites l, p.key = q.key → p = q := fun p hp q hq e => by
    have h1 := ((hR.2 p).1 hp).1
    have h2 := ((hR.2 q).1 hq).1
    rw [e, h2] at h1
    exact (Option.some.inj h1).symm
  have hex : ∃ p ∈ refWrites l, p.key = o.key := by
    have h1 := lastW_some l wo l.length (Nat.le_refl _) (by rw [List.take_length]; exact ho)
    rw [List.take_length] at h1
    obtain ⟨p, hp⟩ := Option.isSome_iff_exists.1 h1
    have h2 := lastW_key hp
    exact ⟨p, (hR.2 p).2 ⟨by rw [h2.1]; exact hp, h2.2.1⟩, h2.1⟩
  obtain ⟨p, hp, hpk⟩ := hex
  have hv : vOf l o.key = p.val := by
    unfold vOf
    cases hf : (refWrites l).find? (fun q => q.key == o.key) with
    | none => have := List.find?_eq_none.1 hf p hp; simp [hpk] at this
    | some q =>
      have h1 := List.find?_some hf
      have h2 := List.mem_of_find?_eq_some hf
      have : q = p := huq q h2 p hp (by simpa [hpk] using h1)
      rw [this]; rfl
  by_cases he : p.val = o.val
  · rw [finF_in (k := o.key) i _ _ (fun q hq e => wv_inj hn (hmem q hq).1 ho (hmem q hq).2 wo e) ⟨p, hp, he⟩, hv, he]
    simp
  · rw [finF_out i _ _ (fun q hq e => he ?_), addF_in i wo l F hn ho, hv]
    · simp [he]
    · have := wv_inj hn (hmem q hq).1 ho (hmem q hq).2 wo e
      rw [← huq q hq p hp (by rw [this, hpk])]; exact e
theorem wrTo_at {h : List TxnV} (hk : ∀ t ∈ h, keysIn t.l) : ∀ n, n ≤ h.length → (wvH (h.take n)).Nodup → ∀ i, ∀ hi : i < h.length, i < n → ∀ o ∈ h[i].l, o.wr = true → wrTo h n o.val = some ⟨i, o.key, vOf h[i].l o.key == o.val⟩
  | 0, _, _, i, _, hin, _, _, _ => by omega
  | n + 1, hn, hd, i, hi, hin, o, ho, wo => by
    have hlt : n < h.length := by omega
    rw [wvH_succ h n hlt] at hd
    have hd3 := List.nodup_append.1 hd
    rw [wrTo_succ, opsAt_eq hlt]
    by_cases e : i = n
    · subst e
      exact turn_at _ _ (hk _ (List.getElem_mem _)) hd3.2.1 ho wo
    · have hin2 : o.val ∈ wvH (h.take n) := by
        unfold wvH
        rw [List.mem_flatMap]
        refine ⟨h[i], ?_, wv_mem.2 ⟨o, ho, wo, rfl⟩⟩
        rw [List.mem_take_iff_getElem]
        exact ⟨i, by omega, rfl⟩
      have hout : ¬ o.val ∈ wv h[n].l := fun hh => hd3.2.2 _ hin2 _ hh rfl
      have hR := refWrites_rise (hk _ (List.getElem_mem hlt))
      rw [finF_out _ _ _ (fun q hq e2 => hout (by rw [← e2]; exact wv_mem.2 ⟨q, (refWrites_mem hq).1, (refWrites_mem hq).2, rfl⟩)), addF_out _ _ _ hout]
      exact wrTo_at hk n (by omega) hd3.1 i hi (by omega) o ho wo
end Go.Proofs.YtecpeegbfeijaaaDoor

namespace Go.Proofs.YtecpeegbfeijaaaDoor
set_option maxRecDepth 100000
open Go.RowKit

/-- Of whom a value is read, and what is read of others, as the reference says it. -/
def fromR (h : List TxnV) (o : OpV) : Int := if o.val = 0 then -1 else wrI o.key o.val h
def rdR (h : List TxnV) (i : Int) (l : List OpV) : List (Int × Int) := (l.filter fun o => fromR h o != i).map fun o => (o.key, fromR h o)
end Go.Proofs.YtecpeegbfeijaaaDoor

namespace Go.Proofs.YtecpeegbfeijaaaDoor
set_option maxRecDepth 100000
open Go.RowKit

/-- Does k read of i, as the reference says it? -/
def froR (h : List TxnV) (i k : Nat) : Bool := (rdR h k (refReads (opsAt h k))).any fun r => decide (r.2 = (i : Int))
end Go.Proofs.YtecpeegbfeijaaaDoor

namespace Go.Proofs.YtecpeegbfeijaaaDoor
set_option maxRecDepth 100000
open Go.RowKit

/-- Does transaction i write to a key; do two write to one key, as the reference says it? -/
def wrsR (h : List TxnV) (i : Nat) (key : Int) : Bool := vOf (opsAt h i) key != 0
def rivR (h : List TxnV) (i k : Nat) : Bool := (List.range 64).any fun n => wrsR h i (n : Int) && wrsR h k (n : Int)
end Go.Proofs.YtecpeegbfeijaaaDoor

namespace Go.Proofs.YtecpeegbfeijaaaDoor
set_option maxRecDepth 100000
open Go.RowKit

theorem may_parts {h : List TxnV} (hm : mayRef h = true) : okW h = true ∧ ∀ t ∈ h, keysIn t.l := by
  rw [← right_ref] at hm
  unfold rightB valuesB at hm
  simp only [Bool.and_eq_true] at hm
  exact ⟨hm.2.1.1, parts_keys hm.1⟩
end Go.Proofs.YtecpeegbfeijaaaDoor

namespace Go.Proofs.YtecpeegbfeijaaaDoor
set_option maxRecDepth 100000
open Go.RowKit

theorem wrI_at {key x : Int} {h : List TxnV} (hn : ¬ wrI key x h < 0) : ∃ i, ∃ hi : i < h.length, wrI key x h = i ∧ ∃ o ∈ h[i].l, isWr key x o = true := by
  unfold wrI at hn ⊢
  cases hf : h.findIdx? (fun t => t.l.any (isWr key x)) with
  | none => rw [hf] at hn; exact absurd (by decide) hn
  | some i =>
    rw [List.findIdx?_eq_some_iff_getElem] at hf
    obtain ⟨hi, h1, _⟩ := hf
    obtain ⟨o, ho, hw⟩ := List.any_eq_true.1 h1
    exact ⟨i, hi, rfl, o, ho, hw⟩
theorem isWr_iff {key x : Int} {o : OpV} : isWr key x o = true ↔ o.wr = true ∧ o.key = key ∧ o.val = x := by unfold isWr; simp
theorem may_rows {h : List TxnV} (hm : mayRef h = true) : ∀ k, ∀ hk : k < h.length, rowR h k h[k] = true := fun k hk => by
  have := List.all_eq_true.1 hm k (List.mem_range.2 hk)
  rwa [List.getElem?_eq_getElem hk] at this
theorem rowR_iff {h : List TxnV} {k : Nat} {t : TxnV} : rowR h k t = true ↔ mayT t.s t.b t.c t.l = true ∧ (h.take k).all (fun a => apartB a t) = true ∧ ∀ o ∈ t.l, opR h o = true := by
  unfold rowR
  rw [Bool.and_eq_true, Bool.and_eq_true, List.all_eq_true (p := opR h)]
theorem may_wr {h : List TxnV} (hm : mayRef h = true) {i : Nat} (hi : i < h.length) {o : OpV} (ho : o ∈ h[i].l) (wo : o.wr = true) : wrTo h h.length o.val = some ⟨i, o.key, vOf h[i].l o.key == o.val⟩ := by
  obtain ⟨hw, hk⟩ := may_parts hm
  exact wrTo_at hk h.length (Nat.le_refl _) (by rw [List.take_length]; unfold okW at hw; simpa using hw) i hi hi o ho wo
/-- What is told of a value that is read: who wrote it, to that key; of 0 nothing. -/
theorem reads_F {h : List TxnV} (hm : mayRef h = true) {k : Nat} (hk : k < h.length) {o : OpV} (ho : o ∈ h[k].l) (wo : o.wr = false) :
    (o.val = 0 ∧ wrTo h h.length 0 = none) ∨ (o.val ≠ 0 ∧ ∃ u, wrTo h h.length o.val = some u ∧ u.key = o.key ∧ wrI o.key o.val h = u.i) := by
  by_cases h0 : o.val = 0
  · refine .inl ⟨h0, ?_⟩
    cases hF : wrTo h h.length 0 with
    | none => rfl
    | some u =>
      obtain ⟨p, hp, hpv, _⟩ := real_wr h h.length (Nat.le_refl _) 0 u hF
      obtain ⟨t, ht, hpt, hpw⟩ := wrs_mem.1 hp
      obtain ⟨i, hi, rfl⟩ := List.getElem_of_mem ht
      have h1 := (rowR_iff.1 (may_rows hm i hi)).1
      unfold mayT at h1
      simp only [Bool.and_eq_true] at h1
      have h2 := (mayO_iff p).1 (List.all_eq_true.1 h1.2 p hpt)
      exact absurd hpv (h2.2.2 hpw)
  · refine .inr ⟨h0, ?_⟩
    have h1 := (rowR_iff.1 (may_rows hm k hk)).2.2 o ho
    unfold opR at h1
    rw [wo] at h1
    have h2 : ¬ wrI o.key o.val h < 0 := by simpa [h0] using h1
    obtain ⟨i, hi, he, p, hp, hpw⟩ := wrI_at h2
    obtain ⟨q1, q2, q3⟩ := isWr_iff.1 hpw
    have h3 := may_wr hm hi hp q1
    rw [q3, q2] at h3
    exact ⟨_, h3, rfl, he⟩
end Go.Proofs.YtecpeegbfeijaaaDoor

namespace Go.Proofs.YtecpeegbfeijaaaDoor
set_option maxRecDepth 100000
open Go.RowKit

theorem may_of {h : List TxnV} (hc : checkI h = 0) : mayRef h = true := by
  rw [← right_ref]
  unfold checkI at hc
  split at hc
  · cases hc
  · cases hr : rightB h with
    | true => rfl
    | false => rw [hr] at hc; cases hc
theorem from_same {h : List TxnV} (hc : checkI h = 0) {k : Nat} (hk : k < h.length) {o : OpV} (ho : o ∈ h[k].l) (wo : o.wr = false) : fromO (wrTo h h.length) o.val = fromR h o := by
  unfold fromO fromR
  rcases reads_F (may_of hc) hk ho wo with ⟨h0, hn⟩ | ⟨h0, u, hu, _, hw⟩
  · rw [if_pos h0, h0, hn]; rfl
  · rw [if_neg h0, hu, hw]; rfl
theorem rd_congr {h : List TxnV} {F : Int → Option WV} {i : Int} : ∀ (l : List OpV), (∀ o ∈ l, fromO F o.val = fromR h o) → rdFr F i l = rdR h i l
  | [], _ => rfl
  | a :: l, hl => by
    have ih := rd_congr (i := i) l (fun o ho => hl o (List.mem_cons_of_mem _ ho))
    have ha := hl a List.mem_cons_self
    unfold rdFr rdR at *
    rw [List.filter_cons, List.filter_cons, ha]
    split
    · rw [List.map_cons, List.map_cons, ih, ha]
    · exact ih
theorem refReads_in {l : List OpV} {o : OpV} (ho : o ∈ refReads l) : o ∈ l ∧ o.wr = false := by
  obtain ⟨k, _, hk⟩ := upTo_mem.1 ho
  obtain ⟨h1, h2⟩ := rdK_some.1 hk
  exact ⟨(firstO_key h1).2, h2⟩
theorem reads_same {h : List TxnV} (hc : checkI h = 0) {k : Nat} (hk : k < h.length) : readsOf h k = rdR h k (refReads h[k].l) := by
  unfold readsOf
  rw [opsAt_eq hk]
  refine rd_congr _ fun o ho => ?_
  obtain ⟨h1, h2⟩ := refReads_in ho
  exact from_same hc hk h1 h2
end Go.Proofs.YtecpeegbfeijaaaDoor

namespace Go.Proofs.YtecpeegbfeijaaaDoor
set_option maxRecDepth 100000
open Go.RowKit

theorem rivS_bit (F : Int → Option Nat) (j : Nat) : ∀ (xs : List Int) (s : Nat), (xs.foldl (fun s x => s ||| (F x).getD 0) s).testBit j = (s.testBit j || xs.any fun x => ((F x).getD 0).testBit j)
  | [], s => by simp
  | x :: xs, s => by
    rw [List.foldl_cons, rivS_bit F j xs, Nat.testBit_or, List.any_cons, Bool.or_assoc]
theorem wrsRow_bit (i : Nat) (hi : i < 64) (j : Nat) (y : Int) : ∀ (xs : List Int) (F : Int → Option Nat), ((wrsRow i F xs y).getD 0).testBit j = (((F y).getD 0).testBit j || (decide (y ∈ xs) && decide (i = j)))
  | [], F => by simp [wrsRow]
  | x :: xs, F => by
    have ih := wrsRow_bit i hi j y xs (putF F x (withS ((F x).getD 0) i))
    show ((wrsRow i (putF F x (withS ((F x).getD 0) i)) xs y).getD 0).testBit j = _
    rw [ih]
    by_cases e : y = x
    · subst e
      rw [putF_same, Option.getD_some, testBit_withS, Int.toNat_natCast]
      have : decide (0 ≤ (i : Int) ∧ (i : Int) < 64) = true := by simp; omega
      rw [this]
      cases ((F y).getD 0).testBit j <;> by_cases h : i = j <;> simp [h]
    · rw [putF_other F _ e]
      simp [e]
theorem wrsTo_bit (K : List KRow) (j : Nat) (y : Int) : ∀ m, m ≤ 64 → m ≤ K.length → ((wrsTo K m y).getD 0).testBit j = (decide (j < m) && decide (y ∈ ((K[j]?).map (·.2)).getD []))
  | 0, _, _ => by simp [wrsTo]
  | m + 1, h64, hm => by
    have ih := wrsTo_bit K j y m (by omega) (by omega)
    have hlt : m < K.length := by omega
    rw [wrsTo_succ hlt, wrsRow_bit m (by omega) j y, ih]
    by_cases e : m = j
    · subst e
      simp [List.getElem?_eq_getElem hlt]
    · by_cases h : j < m
      · have h2 : j < m + 1 := by omega
        simp [h, h2, e]
      · have h2 : ¬ j < m + 1 := by omega
        simp [h, h2, e]
theorem keysOf_iff {h : List TxnV} (hc : checkI h = 0) {i : Nat} (hi : i < h.length) (y : Int) : y ∈ keysOf (opsAt h i) ↔ wrsR h i y = true := by
  unfold keysOf wrsR vOf
  generalize hl : opsAt h i = l
  rw [opsAt_eq hi] at hl
  constructor
  · intro hy
    obtain ⟨o, ho, rfl⟩ := List.mem_map.1 hy
    cases hf : (refWrites l).find? (fun p => p.key == o.key) with
    | none => have := List.find?_eq_none.1 hf o ho; simp at this
    | some p =>
      have hp := List.mem_of_find?_eq_some hf
      obtain ⟨h1, h2⟩ := refWrites_mem hp
      have h3 := (rowR_iff.1 (may_rows (may_of hc) i hi)).1
      unfold mayT at h3
      simp only [Bool.and_eq_true] at h3
      have h4 := (mayO_iff p).1 (List.all_eq_true.1 h3.2 p (by rw [hl]; exact h1))
      simpa using h4.2.2 h2
  · intro hy
    cases hf : (refWrites l).find? (fun p => p.key == y) with
    | none => rw [hf] at hy; simp at hy
    | some p =>
      have hp := List.mem_of_find?_eq_some hf
      have hk := List.find?_some hf
      exact List.mem_map.2 ⟨p, hp, by simpa using hk⟩
theorem keys_at {h : List TxnV} {K : List KRow} (hK : K.map (·.2) = keysTo h h.length) {k : Nat} (hk : k < h.length) : ((K[k]?).map (·.2)).getD [] = keysOf (opsAt h k) := by
  rw [← List.getElem?_map, hK]
  unfold keysTo
  simp [hk]
theorem keys_len {h : List TxnV} {K : List KRow} (hK : K.map (·.2) = keysTo h h.length) : K.length = h.length := by
  have := congrArg List.length hK
  simpa [keysTo] using this
theorem riv_same {h : List TxnV} {K : List KRow} (hc : checkI h = 0) (hK : K.map (·.2) = keysTo h h.length) {i k : Nat} (hi : i < h.length) (hk : k < h.length) (hne : i ≠ k) :
    hasB (woS (rivS (wrsTo K K.length) (((K[i]?).map (·.2)).getD [])) (i : Int)) (k : Int) = rivR h i k := by
  obtain ⟨h64, _, _, hks⟩ := check_zero hc
  have hl := keys_len hK
  unfold hasB
  rw [Int.toNat_natCast, testBit_woS, Int.toNat_natCast]
  have e1 : decide (0 ≤ (k : Int) ∧ (k : Int) < 64) = true := by simp; omega
  rw [e1, Bool.true_and]
  have e2 : decide (i = k) = false := decide_eq_false hne
  rw [e2, Bool.and_false, Bool.not_false, Bool.and_true]
  unfold rivS
  rw [rivS_bit, Nat.zero_testBit, Bool.false_or, keys_at hK hi, Bool.eq_iff_iff, List.any_eq_true]
  unfold rivR
  rw [List.any_eq_true]
  have hb : ∀ y, ((wrsTo K K.length y).getD 0).testBit k = true ↔ wrsR h k y = true := fun y => by
    rw [wrsTo_bit K k y K.length (by omega) (Nat.le_refl _), keys_at hK hk]
    have : k < K.length := by omega
    simp only [this, decide_true, Bool.true_and, decide_eq_true_eq]
    exact keysOf_iff hc hk y
  constructor
  · rintro ⟨y, hy, hbt⟩
    have h1 := (keysOf_iff hc hi y).1 hy
    have h2 := (hb y).1 hbt
    obtain ⟨o, ho, rfl⟩ := List.mem_map.1 hy
    have h3 := (refWrites_mem ho).1
    rw [opsAt_eq hi] at h3
    obtain ⟨h4, h5⟩ := hks _ (List.getElem_mem hi) o h3
    refine ⟨o.key.toNat, List.mem_range.2 (by omega), ?_⟩
    rw [Int.toNat_of_nonneg h4, h1, h2]; rfl
  · rintro ⟨n, _, hn⟩
    rw [Bool.and_eq_true] at hn
    exact ⟨(n : Int), (keysOf_iff hc hi _).2 hn.1, (hb _).2 hn.2⟩
end Go.Proofs.YtecpeegbfeijaaaDoor

namespace Go.Proofs.YtecpeegbfeijaaaDoor
set_option maxRecDepth 100000
open Go.RowKit

/-- Who writes to a key that a transaction writes to. -/
def rivB (h : List TxnV) (i k : Nat) : Bool := decide (i < h.length) && (decide (k < h.length) && (decide (i ≠ k) && rivR h i k))
def rivN (h : List TxnV) (i : Nat) : Nat := mkS (rivB h i)
theorem rivN_set (h : List TxnV) (i : Nat) : IsSet (rivN h i) := isSet_mkS _
theorem rivN_none {h : List TxnV} {i : Nat} (hi : h.length ≤ i) : rivN h i = 0 := by
  unfold rivN
  have : rivB h i = fun _ => false := by
    funext k
    unfold rivB
    rw [decide_eq_false (by omega)]; rfl
  rw [this]; exact mkS_false
theorem keys_int {h : List TxnV} {K : List KRow} (hc : checkI h = 0) (hK : K.map (·.2) = keysTo h h.length) : ∀ p ∈ K, ∀ x ∈ p.2, InI x := by
  obtain ⟨_, _, _, hks⟩ := check_zero hc
  intro p hp x hx
  have h1 : p.2 ∈ keysTo h h.length := by rw [← hK]; exact List.mem_map.2 ⟨p, hp, rfl⟩
  unfold keysTo at h1
  obtain ⟨i, hi, e⟩ := List.mem_map.1 h1
  have hi := List.mem_range.1 hi
  rw [← e] at hx
  unfold keysOf at hx
  obtain ⟨o, ho, rfl⟩ := List.mem_map.1 hx
  have h2 := (refWrites_mem ho).1
  rw [opsAt_eq hi] at h2
  obtain ⟨h3, h4⟩ := hks _ (List.getElem_mem hi) o h2
  refine inI_of ?_
  unfold IntOk
  omega
theorem riv_eq {h : List TxnV} {K : List KRow} (hc : checkI h = 0) (hK : K.map (·.2) = keysTo h h.length) {i : Nat} (hi : i < h.length) (hA : AllSet (wrsTo K K.length)) :
    woS (rivS (wrsTo K K.length) (((K[i]?).map (·.2)).getD [])) (i : Int) = rivN h i := by
  have hl := keys_len hK
  have h64 := (check_zero hc).1
  refine mkS_eq ?_ (fun k hk => ?_)
  · have h1 : IsSet (rivS (wrsTo K K.length) (((K[i]?).map (·.2)).getD [])) := by
      have := rivS_set hA (((K[i]?).map (·.2)).getD []) (((K[i]?).map (·.2)).getD []).length (Nat.le_refl _)
      rwa [List.take_length] at this
    exact isSet_woS h1
  · by_cases hkn : k < h.length
    · by_cases e : i = k
      · subst e
        unfold rivB
        rw [testBit_woS, Int.toNat_natCast]
        simp; intros; omega
      · have h2 := riv_same hc hK hi hkn e
        unfold hasB at h2
        rw [Int.toNat_natCast] at h2
        have e1 : decide (0 ≤ (k : Int) ∧ (k : Int) < 64) = true := by simp; omega
        rw [e1, Bool.true_and] at h2
        rw [h2]
        unfold rivB
        simp [hi, hkn, e]
    · rw [testBit_woS]
      have h3 : (rivS (wrsTo K K.length) (((K[i]?).map (·.2)).getD [])).testBit k = false := by
        unfold rivS
        rw [rivS_bit, Nat.zero_testBit, Bool.false_or]
        refine List.any_eq_false.2 (fun y _ => ?_)
        rw [wrsTo_bit K k y K.length (by omega) (Nat.le_refl _)]
        have : ¬ k < K.length := by omega
        simp [this]
      rw [h3]
      unfold rivB
      simp [hkn]
theorem ordis_rivals {w : World} {B b : Nat} {h : List TxnV} (hO : OrdIs w B b h) (hc : checkI h = 0) (i : Nat) :
    Calls Tryd.prog 53 #[.pointer (some ⟨B, 0, none⟩), .int .i64 i] w fun e w' => e = .returned (.int .u64 ((rivN h i : Nat) : Int)) ∧ Below w.heap.size w w' := by
  obtain ⟨bm, m, c, vk, vr, K, R, h1, h2, h3, h4, h5, h6⟩ := hO
  have hl := keys_len h5
  by_cases hi : i < h.length
  · have hiK : i < K.length := by omega
    have hh := orivals_any i h1 h2 h3 h4.rws (keys_int hc h5) hiK
    have e := riv_eq hc h5 hi h3
    rw [List.getElem?_eq_getElem hiK] at e
    simp only [Option.map_some, Option.getD_some] at e
    rw [e] at hh
    exact hh
  · rw [rivN_none (by omega)]
    exact orivals_none (i : Int) h1 h4.rws (.inr (by omega))
end Go.Proofs.YtecpeegbfeijaaaDoor

namespace Go.Proofs.YtecpeegbfeijaaaDoor
set_option maxRecDepth 100000
open Go.RowKit

theorem yields_rel {ops : Array Oper} {S : World → Prop} {o : Oper} {a : Act} {g : Nat} {R : Mat} (hw : Region.wanted o (yielded ops a.tmps) = true) (x : Operand) (ho : o.op = .load 68 x)
    (hx : a.eval x = .pointer (some ⟨g, 0, none⟩)) (hS : ∀ w, S w → RelAt w g 68 R) : YieldsIf Tryd.prog ops S o (.agg (rowsA R)) a :=
  .inl ⟨hw, fun w hw' => by
    unfold execOp
    simp only [ho, hx, Instr.loadAt, Instr.sureAddr, Sem.run_bind, Sem.run_pure, Result.andThen_ok, run_loadVar_row w g _ _ _ _ _ (hS w hw') Tryd.underlying68 rfl (infoRel' _)]⟩
end Go.Proofs.YtecpeegbfeijaaaDoor

namespace Go.Proofs.YtecpeegbfeijaaaDoor
set_option maxRecDepth 100000
open Go.RowKit

/-- Both relations and both lists of pairs lie where they lie; nothing older has changed. -/
def St (w0 : World) (g h : Nat) (R S : Mat) (v x : Value) (m n : List Pr) (w : World) : Prop :=
  RelAt w g 68 R ∧ RelAt w h 68 S ∧ Prs w v m ∧ Prs w x n ∧ Below w0.heap.size w0 w
theorem St.below {w0 : World} {g h : Nat} {R S : Mat} {v x : Value} {m n : List Pr} {w w' : World} (hs : St w0 g h R S v x m n w) (hb : Below w.heap.size w w') : St w0 g h R S v x m n w' :=
  ⟨hs.1.below hb hs.1.lt, hs.2.1.below hb hs.2.1.lt, hs.2.2.1.below hb, hs.2.2.2.1.below hb, hs.2.2.2.2.trans (hb.mono hs.2.2.2.2.size)⟩
theorem St.alloc {w0 : World} {g h : Nat} {R S : Mat} {v x : Value} {m n : List Pr} {w : World} (hs : St w0 g h R S v x m n w) (o : Obj) : St w0 g h R S v x m n (w.alloc o) :=
  hs.below ((Below.refl _ _).alloc (Nat.le_refl _) _)
/-- A slice of pairs lies where it lies, whatever becomes of one block. -/
def Off (q : Nat) (w : World) (v : Value) (l : List Pr) : Prop := ∀ w', w.grownBy w' (some q) → Prs w' v l
theorem grownBy_of_below {w w' : World} (hb : Below w.heap.size w w') (q : Option Nat) : w.grownBy w' q := ⟨hb.os, hb.tape, hb.output, hb.size, fun k hk _ => hb.block k hk⟩
theorem Off.below {q : Nat} {w w' : World} {v : Value} {l : List Pr} (h : Off q w v l) (hb : Below w.heap.size w w') : Off q w' v l :=
  fun w2 hg => h w2 ((grownBy_of_below hb (some q)).trans hg)
theorem Off.of_owns {q base : Nat} {w : World} {e : TypeId} {v : Value} {n : Nat} {l : List Pr} (h : w.ownsRow base e 2 v n (prV l)) (hq : q < base) : Off q w v l :=
  fun w2 hg => Prs.of_owns (h.kept hg (by
    rcases ho : v.ownBlock with _ | g
    · exact .inl rfl
    · right; have := (h.lt g ho).1; intro e; cases e; omega))
end Go.Proofs.YtecpeegbfeijaaaDoor

namespace Go.Proofs.YtecpeegbfeijaaaDoor
set_option maxRecDepth 100000
open Go.RowKit

theorem RelAt.as {w : World} {g : Nat} {t : TypeId} {R S : Mat} (h : RelAt w g t R) (e : rowsA R = rowsA S) : RelAt w g t S := by
  unfold RelAt at *; rw [← e]; exact h
end Go.Proofs.YtecpeegbfeijaaaDoor

namespace Go.Proofs.YtecpeegbfeijaaaDoor
set_option maxRecDepth 100000
open Go.RowKit

/-- What a round has come to: the start, and only what must be seen. -/
structure Grown (V A : Mat) (tr pf : Bool) (U : Mat) : Prop where
  h : ∀ i j, V i j = true → U i j = true
  m : ∀ i j, i < 64 → j < 64 → U i j = true → Must V A tr pf i j
theorem Grown.start (V A : Mat) (tr pf : Bool) : Grown V A tr pf V := ⟨fun _ _ h => h, fun _ _ _ _ h => .base h⟩
section
variable {V A U : Mat} {tr pf : Bool}
theorem Grown.next (g : Grown V A tr pf U) : Grown V A tr pf (moreM U A tr pf) := ⟨fun i j h => moreM_grows (g.h i j h), fun i j hi hj h => moreM_sound g.m i j hi hj h⟩
theorem Grown.count (_ : Grown V A tr pf U) (hf : rowsA (moreM U A tr pf) ≠ rowsA U) : cntP U < cntP (moreM U A tr pf) := cntP_lt (fun _ _ h => moreM_grows h) (fun e => hf e.symm)
theorem Grown.done (g : Grown V A tr pf U) (hf : rowsA (moreM U A tr pf) = rowsA U) : ∀ i j, i < 64 → j < 64 → (U i j = true ↔ Must V A tr pf i j) := fun i j hi hj => ⟨g.m i j hi hj, fun h => more_done (fun i j _ _ h => g.h i j h) hf h hi hj⟩
end
end Go.Proofs.YtecpeegbfeijaaaDoor

namespace Go.Proofs.YtecpeegbfeijaaaDoor
set_option maxRecDepth 100000
open Go.RowKit

theorem ints_at {w : World} {ao : Option Addr} {n cap : Nat} {L : List Nat} (h : Ints w (.slice ao n cap) (L.map Int.ofNat)) {k : Nat} (hk : k < L.length) :
    ∃ b off, ao = some ⟨b, off, none⟩ ∧ w.cell? ⟨b, off + k, none⟩ = some (.int .i64 (L[k] : Int)) := by
  obtain ⟨b, off, h1, h2⟩ := h.at (k := k) (by simpa using hk)
  refine ⟨b, off, h1, ?_⟩
  rw [h2, List.getElem_map]; rfl
theorem Ints.grown {w w' : World} {v : Value} {xs : List Int} {row : Option Nat} (h : Ints w v xs) (hg : w.grownBy w' row) (hne : ∀ b, row = some b → v.ownBlock ≠ some b) : Ints w' v xs := by
  obtain ⟨hl, ao, cap, rfl, hm, hno, hc⟩ := h
  refine ⟨hl, ao, cap, rfl, hm, hno, fun hn => ?_⟩
  obtain ⟨b, off, rfl, hcell⟩ := hc hn
  refine ⟨b, off, rfl, fun i hi => ?_⟩
  have h2 := hcell i hi
  rw [List.getElem?_eq_getElem (by omega)] at h2 ⊢
  exact hg.cell h2 (fun e => hne b e.symm rfl)
theorem Ints.news {w : World} {g o n cap : Nat} {L : List Nat} (h : Ints w (.slice (some ⟨g, o, none⟩) n cap) (L.map Int.ofNat)) (k : Nat) :
    ∀ i u, ((L.drop k).map fun i : Nat => Value.int .i64 (i : Int))[i]? = some u → w.cell? ((⟨g, o + k, none⟩ : Addr).add i) = some u := by
  intro i u hu
  have hi : i < (L.drop k).length := by have := (List.getElem?_eq_some_iff.1 hu).1; simpa using this
  rw [List.length_drop] at hi
  obtain ⟨b, off, h1, h2⟩ := ints_at h (k := k + i) (by omega)
  cases h1
  rw [Addr.add_lit, Nat.add_assoc, h2, ← hu, List.getElem?_map, List.getElem?_drop, List.getElem?_eq_getElem (by omega)]
  rfl
end Go.Proofs.YtecpeegbfeijaaaDoor

namespace Go.Proofs.YtecpeegbfeijaaaDoor
set_option maxRecDepth 100000
open Go.RowKit

/-- Those that stand to a number, of the numbers below k. -/
def seeTo (R : Mat) (i : Int) (k : Nat) : Nat := (List.range k).foldl (fun (s : Nat) (a : Nat) => if hasR R (a : Int) i then withS s (a : Int) else s) 0
theorem seeTo_succ (R : Mat) (i : Int) (k : Nat) : seeTo R i (k + 1) = if hasR R (k : Int) i then withS (seeTo R i k) (k : Int) else seeTo R i k := by
  unfold seeTo; rw [List.range_succ, List.foldl_append]; rfl
theorem seeTo_set (R : Mat) (i : Int) : ∀ k, IsSet (seeTo R i k)
  | 0 => by unfold seeTo IsSet; simp
  | k + 1 => by
    rw [seeTo_succ]
    split
    · exact isSet_withS (seeTo_set R i k)
    · exact seeTo_set R i k
theorem seeTo_bit (R : Mat) (i : Int) (j : Nat) : ∀ k, k ≤ 64 → (seeTo R i k).testBit j = (decide (j < k) && hasR R (j : Int) i)
  | 0, _ => by simp [seeTo]
  | k + 1, hk => by
    have ih := seeTo_bit R i j k (by omega)
    rw [seeTo_succ]
    by_cases e : j = k
    · subst e
      have h1 : decide (0 ≤ (j : Int) ∧ (j : Int) < 64) = true := by simp; omega
      cases hh : hasR R (j : Int) i with
      | true => rw [if_pos rfl, testBit_withS, h1, Int.toNat_natCast]; simp
      | false => rw [if_neg (by simp), ih]; simp [hh]
    · have h1 : decide (j < k + 1) = decide (j < k) := by rw [decide_eq_decide]; omega
      split
      · have h2 : decide ((k : Int).toNat = j) = false := decide_eq_false (by rw [Int.toNat_natCast]; omega)
        rw [testBit_withS, ih, h1, h2, Bool.and_false, Bool.or_false]
      · rw [ih, h1]
set_option maxHeartbeats 4000000 in
theorem lsees_any (R : Mat) (i : Int) (w : World) :
    Calls Tryd.prog 46 #[.agg (rowsA R), .int .i64 i] w fun e w' => e = .returned (.int .u64 ((seeTo R i 64 : Nat) : Int)) ∧ Below w.heap.size w w' := by
  have r0 : RelAt (w.alloc (.cells (rowsA R) 68)) w.heap.size 68 R := RelAt.made w _ _ rfl rfl
  have hb0 := box_below w (.cells (rowsA R) 68)
  go_enter Tryd.func46, Tryd.ntmps46
  go_wp2_with fail
  go_loopw [5, 7] (fun s k wr => ∃ n : Nat, n ≤ 64 ∧ k = .int .i64 n ∧ s = .int .u64 ((seeTo R i n : Nat) : Int) ∧ RelAt wr w.heap.size 68 R ∧ Below w.heap.size w wr) (fun _ k _ => 64 - (intOf k).toNat)
  case atStart => exact ⟨0, by omega, rfl, rfl, r0, hb0⟩
  case round =>
    obtain ⟨n, hn, rfl, rfl, hr, hb⟩ := hrel
    clear r0 hb0
    have hset := seeTo_set R i n
    by_cases hlt : n < 64
    · have hni : (n : Int) < 64 := by omega
      have HS := Lib.hid (seeTo_succ R i n)
      go_wp2_with (with_reducible refine wpList_load_rel hr rfl _ rfl rfl ?_)
      refine (rhasR_any _ _ _ _).mono ?_
      rintro e w1 ⟨rfl, hb1⟩
      have hr1 := hr.below hb1 hr.lt
      have hbb := hb.trans (hb1.mono hb.size)
      clear hr hb
      cases hh : hasR R (n : Int) i with
      | true =>
        have HV : Hid (withS (seeTo R i n) (n : Int) = seeTo R i (n + 1)) := Lib.hid (by rw [HS.out, hh]; rfl)
        clear hh HS
        generalize seeTo R i n = a at *
        go_wp2_with fail
        refine (with_any _ _ _ hset).mono ?_
        rintro e w2 ⟨rfl, rfl⟩
        go_wp2_with fail
        go_roundw
        case rel => exact ⟨n + 1, by omega, by go_num, by rw [HV.out], hr1, hbb⟩
        case measure => simp [intOf]; omega
      | false =>
        have HV : Hid (seeTo R i n = seeTo R i (n + 1)) := Lib.hid (by rw [HS.out, hh]; rfl)
        clear hh HS
        go_wp2_with fail
        go_roundw
        case rel => exact ⟨n + 1, by omega, by go_num, by rw [HV.out], hr1, hbb⟩
        case measure => simp [intOf]; omega
    · have hn2 : n = 64 := by omega
      subst hn2
      go_wp2_with fail
      go_ret
      exact ⟨rfl, hb⟩
end Go.Proofs.YtecpeegbfeijaaaDoor

namespace Go.Proofs.YtecpeegbfeijaaaDoor
set_option maxRecDepth 100000
open Go.RowKit

/-- Who writes to a key. -/
def wrtN (h : List TxnV) (y : Int) : Nat := mkS fun j => decide (j < h.length) && decide (y ∈ keysOf (opsAt h j))
theorem wrtN_set (h : List TxnV) (y : Int) : IsSet (wrtN h y) := isSet_mkS _
theorem wrt_eq {h : List TxnV} {K : List KRow} (hc : checkI h = 0) (hK : K.map (·.2) = keysTo h h.length) (hA : AllSet (wrsTo K K.length)) (y : Int) : (wrsTo K K.length y).getD 0 = wrtN h y := by
  have hl := keys_len hK
  have h64 := (check_zero hc).1
  refine mkS_eq (hA y) fun j hj => ?_
  rw [wrsTo_bit K j y K.length (by omega) (Nat.le_refl _), hl]
  by_cases hjn : j < h.length
  · rw [keys_at hK hjn]
  · simp [hjn]
theorem reads_key {h : List TxnV} (hc : checkI h = 0) {i : Nat} (hi : i < h.length) {r : Int × Int} (hr : r ∈ readsOf h i) : 0 ≤ r.1 ∧ r.1 < 64 := by
  obtain ⟨_, _, _, hks⟩ := check_zero hc
  unfold readsOf rdFr at hr
  obtain ⟨o, ho, rfl⟩ := List.mem_map.1 hr
  have h1 := (refReads_in (List.mem_filter.1 ho).1).1
  rw [opsAt_eq hi] at h1
  exact hks _ (List.getElem_mem hi) o h1
end Go.Proofs.YtecpeegbfeijaaaDoor

namespace Go.Proofs.YtecpeegbfeijaaaDoor
set_option maxRecDepth 100000
open Go.RowKit

/-- What follows of what is asked, of a number below 64. -/
def clN (k : Nat) : Nat :=
  let a := if k.testBit 4 then k ||| 12 else k
  let b := if a.testBit 2 then a ||| 2 else a
  if b.testBit 5 then b ||| 1 else b
def clI (x : Int) : Nat := clN (x % 64).toNat
theorem and63 (n : Int) : bits .and .i64 n 63 = n % 64 := by
  have h1 : (BitVec.ofInt 64 63) = 63#64 := by decide
  show IntKind.i64.wrap ((BitVec.ofInt 64 n &&& BitVec.ofInt 64 63).toNat : Int) = _
  have h2 : (BitVec.ofInt 64 n &&& BitVec.ofInt 64 63).toNat = (BitVec.ofInt 64 n).toNat % 64 := by
    rw [BitVec.toNat_and, h1]
    exact Nat.and_two_pow_sub_one_eq_mod _ 6
  rw [h2, BitVec.toNat_ofInt, IntKind.wrap_i64]
  omega
theorem i64_and_nat (a b : Nat) (ha : a < 9223372036854775808) (hb : b < 9223372036854775808) : bits .and .i64 (a : Int) (b : Int) = ((a &&& b : Nat) : Int) := by
  have hx : a &&& b ≤ a := Nat.and_le_left
  have h1 : (BitVec.ofInt 64 (a : Int)).toNat = a := by
    rw [BitVec.ofInt_natCast, BitVec.toNat_ofNat]; exact Nat.mod_eq_of_lt (by omega)
  have h2 : (BitVec.ofInt 64 (b : Int)).toNat = b := by
    rw [BitVec.ofInt_natCast, BitVec.toNat_ofNat]; exact Nat.mod_eq_of_lt (by omega)
  show IntKind.i64.wrap ((BitVec.ofInt 64 (a : Int) &&& BitVec.ofInt 64 (b : Int)).toNat : Int) = _
  rw [BitVec.toNat_and, h1, h2, IntKind.wrap_i64]
  omega
theorem i64_or_nat (a b : Nat) (ha : a < 2 ^ 63) (hb : b < 2 ^ 63) : bits .or .i64 (a : Int) (b : Int) = ((a ||| b : Nat) : Int) := by
  have hx : a ||| b < 2 ^ 63 := Nat.or_lt_two_pow ha hb
  have h1 : (BitVec.ofInt 64 (a : Int)).toNat = a := by
    rw [BitVec.ofInt_natCast, BitVec.toNat_ofNat]; exact Nat.mod_eq_of_lt (by omega)
  have h2 : (BitVec.ofInt 64 (b : Int)).toNat = b := by
    rw [BitVec.ofInt_natCast, BitVec.toNat_ofNat]; exact Nat.mod_eq_of_lt (by omega)
  show IntKind.i64.wrap ((BitVec.ofInt 64 (a : Int) ||| BitVec.ofInt 64 (b : Int)).toNat : Int) = _
  rw [BitVec.toNat_or, h1, h2, IntKind.wrap_i64]
  omega
end Go.Proofs.YtecpeegbfeijaaaDoor

namespace Go.Proofs.YtecpeegbfeijaaaDoor
set_option maxRecDepth 100000
open Go.RowKit

theorem cl_bits : ∀ k : Fin 64, (k.val &&& 16 = if k.val.testBit 4 then 16 else 0) ∧ (k.val &&& 4 = if k.val.testBit 2 then 4 else 0) ∧ (k.val &&& 32 = if k.val.testBit 5 then 32 else 0) ∧ (k.val ||| 12 < 64) ∧ (k.val ||| 2 < 64) ∧ (k.val ||| 1 < 64) := by decide +kernel
theorem cl_i64 (k : Nat) (hk : k < 64) : bits .and .i64 (k : Int) 16 = (if k.testBit 4 then 16 else 0) ∧ bits .and .i64 (k : Int) 4 = (if k.testBit 2 then 4 else 0) ∧ bits .and .i64 (k : Int) 32 = (if k.testBit 5 then 32 else 0) ∧
    bits .or .i64 (k : Int) 12 = ((k ||| 12 : Nat) : Int) ∧ bits .or .i64 (k : Int) 2 = ((k ||| 2 : Nat) : Int) ∧ bits .or .i64 (k : Int) 1 = ((k ||| 1 : Nat) : Int) ∧ (k ||| 12 < 64) ∧ (k ||| 2 < 64) := by
  obtain ⟨h1, h2, h3, h4, h5, h6⟩ := cl_bits ⟨k, hk⟩
  simp only at h1 h2 h3 h4 h5 h6
  refine ⟨?_, ?_, ?_, ?_, ?_, ?_, h4, h5⟩
  · rw [show (16 : Int) = ((16 : Nat) : Int) from rfl, i64_and_nat k 16 (by omega) (by omega), h1]; split <;> rfl
  · rw [show (4 : Int) = ((4 : Nat) : Int) from rfl, i64_and_nat k 4 (by omega) (by omega), h2]; split <;> rfl
  · rw [show (32 : Int) = ((32 : Nat) : Int) from rfl, i64_and_nat k 32 (by omega) (by omega), h3]; split <;> rfl
  · exact i64_or_nat k 12 (by omega) (by omega)
  · exact i64_or_nat k 2 (by omega) (by omega)
  · exact i64_or_nat k 1 (by omega) (by omega)
theorem cl_parts (x : Int) : ∃ k a b : Nat, bits .and .i64 x 63 = (k : Int) ∧
    ((bits .and .i64 (k : Int) 16 = 16 ∧ bits .or .i64 (k : Int) 12 = (a : Int)) ∨ (bits .and .i64 (k : Int) 16 = 0 ∧ a = k)) ∧
    ((bits .and .i64 (a : Int) 4 = 4 ∧ bits .or .i64 (a : Int) 2 = (b : Int)) ∨ (bits .and .i64 (a : Int) 4 = 0 ∧ b = a)) ∧
    ((bits .and .i64 (b : Int) 32 = 32 ∧ bits .or .i64 (b : Int) 1 = ((clI x : Nat) : Int)) ∨ (bits .and .i64 (b : Int) 32 = 0 ∧ clI x = b)) := by
  obtain ⟨k, hkx, hk⟩ : ∃ k : Nat, x % 64 = (k : Int) ∧ k < 64 := ⟨(x % 64).toNat, by omega, by omega⟩
  obtain ⟨k1, _, _, k4, _, _, ha, _⟩ := cl_i64 k hk
  obtain ⟨a, hA⟩ : ∃ a : Nat, a = if k.testBit 4 then k ||| 12 else k := ⟨_, rfl⟩
  have hal : a < 64 := by rw [hA]; split <;> omega
  obtain ⟨_, a2, _, _, a5, _, _, hb⟩ := cl_i64 a hal
  obtain ⟨b, hB⟩ : ∃ b : Nat, b = if a.testBit 2 then a ||| 2 else a := ⟨_, rfl⟩
  have hbl : b < 64 := by rw [hB]; split <;> omega
  obtain ⟨_, _, b3, _, _, b6, _, _⟩ := cl_i64 b hbl
  have hC : clI x = if b.testBit 5 then b ||| 1 else b := by unfold clI; rw [hkx, Int.toNat_natCast]; unfold clN; simp only; rw [← hA, ← hB]
  refine ⟨k, a, b, by rw [and63, hkx], ?_, ?_, ?_⟩
  · cases t : k.testBit 4
    · exact .inr ⟨by rw [k1, t]; rfl, by rw [hA, t]; rfl⟩
    · exact .inl ⟨by rw [k1, t]; rfl, by rw [k4, hA, t]; rfl⟩
  · cases t : a.testBit 2
    · exact .inr ⟨by rw [a2, t]; rfl, by rw [hB, t]; rfl⟩
    · exact .inl ⟨by rw [a2, t]; rfl, by rw [a5, hB, t]; rfl⟩
  · cases t : b.testBit 5
    · exact .inr ⟨by rw [b3, t]; rfl, by rw [hC, t]; rfl⟩
    · exact .inl ⟨by rw [b3, t]; rfl, by rw [b6, hC, t]; rfl⟩
theorem lclosed_any (x : Int) (w : World) : Calls Tryd.prog 44 #[.int .i64 x] w fun e w' => e = .returned (.int .i64 (clI x)) ∧ w = w' := by
  obtain ⟨k, a, b, e0, h1, h2, h3⟩ := cl_parts x
  generalize clI x = c at *
  rcases h1 with ⟨e1, e2⟩ | ⟨e1, rfl⟩ <;> rcases h2 with ⟨e3, e4⟩ | ⟨e3, rfl⟩ <;> rcases h3 with ⟨e5, e6⟩ | ⟨e5, rfl⟩
  all_goals
    go_enter Tryd.func44, Tryd.ntmps44
    go_wp2
    go_ret
    exact ⟨rfl, rfl⟩
end Go.Proofs.YtecpeegbfeijaaaDoor

namespace Go.Proofs.YtecpeegbfeijaaaDoor
set_option maxRecDepth 100000
open Go.RowKit

/-- Is a thing asked, by its number? -/
def hasT (k t : Nat) : Bool := decide (k / t % 2 = 1)
end Go.Proofs.YtecpeegbfeijaaaDoor

namespace Go.Proofs.YtecpeegbfeijaaaDoor
set_option maxRecDepth 100000
open Go.RowKit

/-- What is asked and isn't kept. -/
def lackN (a b : Nat) : Nat := a ^^^ (a &&& b)
end Go.Proofs.YtecpeegbfeijaaaDoor

namespace Go.Proofs.YtecpeegbfeijaaaDoor
set_option maxRecDepth 100000
open Go.RowKit

/-- One stands ahead of another one in a row. -/
def Ahead : List Int → Int → Int → Prop
  | [], _, _ => False
  | c :: L, a, b => Ahead L a b ∨ (c = a ∧ b ∈ L)
theorem Ahead.mem {a b : Int} : ∀ {L : List Int}, Ahead L a b → a ∈ L ∧ b ∈ L
  | [], h => h.elim
  | c :: L, h => by
    rcases h with h | ⟨rfl, h⟩
    · exact ⟨List.mem_cons_of_mem _ (Ahead.mem h).1, List.mem_cons_of_mem _ (Ahead.mem h).2⟩
    · exact ⟨List.mem_cons_self, List.mem_cons_of_mem _ h⟩
theorem Ahead.trans {a m b : Int} : ∀ {L : List Int}, Ahead L a m → Ahead L m b → ¬ Ahead L m m → Ahead L a b
  | [], h, _, _ => h.elim
  | c :: L, h, k, hno => by
    rcases h with h | ⟨rfl, h⟩
    · rcases k with k | ⟨rfl, k⟩
      · exact .inl (Ahead.trans h k fun x => hno (.inl x))
      · exact absurd (.inr ⟨rfl, h.mem.2⟩) hno
    · rcases k with k | ⟨rfl, k⟩
      · exact .inr ⟨rfl, k.mem.2⟩
      · exact .inr ⟨rfl, k⟩
end Go.Proofs.YtecpeegbfeijaaaDoor

namespace Go.Proofs.YtecpeegbfeijaaaDoor
set_option maxRecDepth 100000
open Go.RowKit

theorem nat_bit (x k : Nat) : (x &&& 2 ^ k = 0) ↔ x.testBit k = false := by
  constructor
  · intro h
    have h1 : (x &&& 2 ^ k).testBit k = false := by rw [h]; exact Nat.zero_testBit k
    rw [Nat.testBit_and, Nat.testBit_two_pow] at h1
    simpa using h1
  · intro h
    refine Nat.eq_of_testBit_eq fun i => ?_
    rw [Nat.testBit_and, Nat.testBit_two_pow, Nat.zero_testBit]
    by_cases e : k = i
    · subst e; rw [h]; rfl
    · simp [e]
theorem bit_zero (x k : Nat) (hx : x < 9223372036854775808) (hk : 2 ^ k < 9223372036854775808) : bits .and .i64 (x : Int) ((2 ^ k : Nat) : Int) = 0 ↔ x.testBit k = false := by
  rw [i64_and_nat x (2 ^ k) hx hk, ← nat_bit]
  omega
theorem bit_1 (x : Nat) (hx : x < 9223372036854775808) : bits .and .i64 (x : Int) 1 = 0 ↔ x.testBit 0 = false := bit_zero x 0 hx (by omega)
theorem bit_32 (x : Nat) (hx : x < 9223372036854775808) : bits .and .i64 (x : Int) 32 = 0 ↔ x.testBit 5 = false := bit_zero x 5 hx (by omega)
theorem baseM_iff (h : List TxnV) (x : Nat) (hx : x < 9223372036854775808) (i j : Nat) : baseM h (x : Int) i j = true ↔ froM h i j = true ∨ (x.testBit 0 = true ∧ sesM h i j = true) ∨ (x.testBit 5 = true ∧ timM h i j = true) := by
  have h1 := bit_1 x hx
  have h5 := bit_32 x hx
  unfold baseM baseQ
  cases e0 : x.testBit 0 <;> cases e5 : x.testBit 5
  · rw [if_pos (h5.2 e5), if_pos (h1.2 e0)]; simp
  · rw [if_neg (fun e => by rw [h5.1 e] at e5; cases e5), if_pos (h1.2 e0), orR_iff]; simp
  · rw [if_pos (h5.2 e5), if_neg (fun e => by rw [h1.1 e] at e0; cases e0), orR_iff]; simp
  · rw [if_neg (fun e => by rw [h5.1 e] at e5; cases e5), if_neg (fun e => by rw [h1.1 e] at e0; cases e0), orR_iff, orR_iff]; simp [or_assoc]
theorem hasR_nat (R : Mat) (i j : Nat) (hi : i < 64) (hj : j < 64) : hasR R (i : Int) (j : Int) = R i j := by
  unfold hasR mayB
  rw [Int.toNat_natCast, hasB_mkS _ _ hj, decide_eq_true (by omega), Bool.true_and]
end Go.Proofs.YtecpeegbfeijaaaDoor

namespace Go.Proofs.YtecpeegbfeijaaaDoor
set_option maxRecDepth 100000
open Go.RowKit

theorem lack_iff (a b : Nat) : lackN a b = 0 ↔ ∀ k, a.testBit k = true → b.testBit k = true := by
  unfold lackN
  constructor
  · intro e k hk
    have t := congrArg (fun x => Nat.testBit x k) e
    simp only [Nat.testBit_xor, Nat.testBit_and, Nat.zero_testBit, hk, Bool.true_and] at t
    cases hb : b.testBit k
    · rw [hb] at t; exact absurd t (by decide)
    · rfl
  · intro H
    apply Nat.eq_of_testBit_eq
    intro k
    rw [Nat.testBit_xor, Nat.testBit_and, Nat.zero_testBit]
    cases ha : a.testBit k
    · rfl
    · rw [H k ha]; rfl
end Go.Proofs.YtecpeegbfeijaaaDoor

namespace Go.Proofs.YtecpeegbfeijaaaDoor
set_option maxRecDepth 100000
open Go.RowKit

/-- All that stand in a table by some numbers. -/
def joinL (F : Nat → Nat) (l : List Nat) : Nat := l.foldl (fun s k => s ||| F k) 0
def joinN (F : Nat → Nat) (s : Nat) : Nat := joinL F (lst s)
theorem joinL_nil (F : Nat → Nat) : joinL F [] = 0 := rfl
theorem joinF_bit (F : Nat → Nat) (j : Nat) : ∀ (l : List Nat) (s : Nat), (l.foldl (fun s k => s ||| F k) s).testBit j = (s.testBit j || l.any fun k => (F k).testBit j)
  | [], s => by simp
  | k :: l, s => by rw [List.foldl_cons, joinF_bit F j l, Nat.testBit_or, List.any_cons, Bool.or_assoc]
theorem joinL_bit (F : Nat → Nat) (l : List Nat) (j : Nat) : (joinL F l).testBit j = l.any fun k => (F k).testBit j := by
  unfold joinL; rw [joinF_bit]; simp
theorem joinL_set {F : Nat → Nat} {l : List Nat} (h : ∀ k ∈ l, IsSet (F k)) : IsSet (joinL F l) := by
  apply isSet_of_bits
  intro i hi
  rw [joinL_bit, List.any_eq_false]
  intro k hk
  rw [(h k hk).high hi]; simp
theorem joinN_set {F : Nat → Nat} {s : Nat} (h : ∀ k, k < 64 → IsSet (F k)) : IsSet (joinN F s) := joinL_set fun k hk => h k (mem_lst.1 hk).1
theorem joinN_iff {F : Nat → Nat} {s : Nat} {j : Nat} : (joinN F s).testBit j = true ↔ ∃ k, k < 64 ∧ s.testBit k = true ∧ (F k).testBit j = true := by
  unfold joinN
  rw [joinL_bit, List.any_eq_true]
  exact ⟨fun ⟨k, hk, hj⟩ => ⟨k, (mem_lst.1 hk).1, (mem_lst.1 hk).2, hj⟩, fun ⟨k, h1, h2, h3⟩ => ⟨k, mem_lst.2 ⟨h1, h2⟩, h3⟩⟩
theorem joinN_congr {F G : Nat → Nat} {s : Nat} (h : ∀ k, k < 64 → s.testBit k = true → F k = G k) : joinN F s = joinN G s := by
  apply Nat.eq_of_testBit_eq
  intro j
  rw [Bool.eq_iff_iff, joinN_iff, joinN_iff]
  exact ⟨fun ⟨k, h1, h2, h3⟩ => ⟨k, h1, h2, by rw [← h k h1 h2]; exact h3⟩, fun ⟨k, h1, h2, h3⟩ => ⟨k, h1, h2, by rw [h k h1 h2]; exact h3⟩⟩
/-- Those of a row, the last one first, as a set. -/
def plS : List Nat → Nat
  | [] => 0
  | i :: r => withS (plS r) (i : Int)
theorem plS_set : ∀ r, IsSet (plS r)
  | [] => by unfold plS IsSet; omega
  | i :: r => isSet_withS (plS_set r)
theorem plS_bit (j : Nat) : ∀ (r : List Nat), (∀ i ∈ r, i < 64) → (plS r).testBit j = decide (j ∈ r)
  | [], _ => by unfold plS; simp
  | i :: r, h => by
    have h1 : decide (0 ≤ (i : Int) ∧ (i : Int) < 64) = true := by have := h i (List.mem_cons_self ..); simp; omega
    unfold plS
    rw [testBit_withS, plS_bit j r (fun a ha => h a (List.mem_cons_of_mem _ ha)), h1, Int.toNat_natCast, Bool.true_and, Bool.eq_iff_iff]
    simp only [Bool.or_eq_true, decide_eq_true_eq, List.mem_cons]
    exact ⟨fun q => q.elim .inr (fun e => .inl e.symm), fun q => q.elim (fun e => .inr e.symm) .inl⟩
theorem plS_pop {i : Nat} {r : List Nat} (hi : i ∉ r) (h : ∀ a ∈ i :: r, a < 64) : woS (plS (i :: r)) (i : Int) = plS r := by
  apply Nat.eq_of_testBit_eq
  intro j
  have h1 : decide (0 ≤ (i : Int) ∧ (i : Int) < 64) = true := by have := h i (List.mem_cons_self ..); simp; omega
  rw [testBit_woS, plS_bit j _ h, plS_bit j r (fun a ha => h a (List.mem_cons_of_mem _ ha)), h1, Int.toNat_natCast, Bool.true_and, Bool.eq_iff_iff]
  simp only [Bool.and_eq_true, decide_eq_true_eq, List.mem_cons, Bool.not_eq_true', decide_eq_false_iff_not]
  constructor
  · rintro ⟨rfl | q, hne⟩
    · exact (hne rfl).elim
    · exact q
  · intro q
    exact ⟨.inr q, fun e => hi (by rw [e]; exact q)⟩
/-- Whom one would see, step by step: what it must see, all, who writes to the same key, whom those see, who is ahead of those. -/
def wld1 (b pl C : Nat) : Nat := if C.testBit 4 then b ||| pl else b
def wld2 (b pl rv C : Nat) : Nat := if C.testBit 3 then wld1 b pl C ||| (rv &&& pl) else wld1 b pl C
def wld3 (b pl rv C : Nat) (sF : Nat → Nat) : Nat := if C.testBit 1 then wld2 b pl rv C ||| joinN sF (wld2 b pl rv C) else wld2 b pl rv C
def wld4 (b pl rv C : Nat) (sF aF : Nat → Nat) : Nat := if C.testBit 2 then wld3 b pl rv C sF ||| joinN aF (wld3 b pl rv C sF) else wld3 b pl rv C sF
section
variable {b pl rv C : Nat} {sF aF : Nat → Nat}
theorem wld1_set (hb : IsSet b) (hp : IsSet pl) : IsSet (wld1 b pl C) := by unfold wld1; split; exact isSet_or hb hp; exact hb
theorem wld2_set (hb : IsSet b) (hp : IsSet pl) (hr : IsSet rv) : IsSet (wld2 b pl rv C) := by unfold wld2; split; exact isSet_or (wld1_set hb hp) (isSet_and hr); exact wld1_set hb hp
theorem wld3_set (hb : IsSet b) (hp : IsSet pl) (hr : IsSet rv) (hs : ∀ k, k < 64 → IsSet (sF k)) : IsSet (wld3 b pl rv C sF) := by unfold wld3; split; exact isSet_or (wld2_set hb hp hr) (joinN_set hs); exact wld2_set hb hp hr
theorem wld4_set (hb : IsSet b) (hp : IsSet pl) (hr : IsSet rv) (hs : ∀ k, k < 64 → IsSet (sF k)) (ha : ∀ k, k < 64 → IsSet (aF k)) : IsSet (wld4 b pl rv C sF aF) := by unfold wld4; split; exact isSet_or (wld3_set hb hp hr hs) (joinN_set ha); exact wld3_set hb hp hr hs
/-- Whom one would see is placed, as far as whom it must see is. -/
theorem wld1_in (hb : ∀ j, b.testBit j = true → pl.testBit j = true) {j : Nat} (h : (wld1 b pl C).testBit j = true) : pl.testBit j = true := by
  unfold wld1 at h
  split at h
  · rw [Nat.testBit_or, Bool.or_eq_true] at h; exact h.elim (hb j) id
  · exact hb j h
theorem wld2_in (hb : ∀ j, b.testBit j = true → pl.testBit j = true) {j : Nat} (h : (wld2 b pl rv C).testBit j = true) : pl.testBit j = true := by
  unfold wld2 at h
  split at h
  · rw [Nat.testBit_or, Bool.or_eq_true, Nat.testBit_and, Bool.and_eq_true] at h; exact h.elim (wld1_in hb) And.right
  · exact wld1_in hb h
theorem wld3_in (hb : ∀ j, b.testBit j = true → pl.testBit j = true) (hs : ∀ k j, pl.testBit k = true → (sF k).testBit j = true → pl.testBit j = true) {j : Nat} (h : (wld3 b pl rv C sF).testBit j = true) : pl.testBit j = true := by
  unfold wld3 at h
  split at h
  · rw [Nat.testBit_or, Bool.or_eq_true, joinN_iff] at h
    rcases h with h | ⟨k, _, h1, h2⟩
    · exact wld2_in hb h
    · exact hs k j (wld2_in hb h1) h2
  · exact wld2_in hb h
theorem wld4_in (hb : ∀ j, b.testBit j = true → pl.testBit j = true) (hs : ∀ k j, pl.testBit k = true → (sF k).testBit j = true → pl.testBit j = true) (ha : ∀ k j, pl.testBit k = true → (aF k).testBit j = true → pl.testBit j = true) {j : Nat} (h : (wld4 b pl rv C sF aF).testBit j = true) : pl.testBit j = true := by
  unfold wld4 at h
  split at h
  · rw [Nat.testBit_or, Bool.or_eq_true, joinN_iff] at h
    rcases h with h | ⟨k, _, h1, h2⟩
    · exact wld3_in hb hs h
    · exact ha k j (wld3_in hb hs h1) h2
  · exact wld3_in hb hs h
theorem wld3_congr {sG : Nat → Nat} (hb : ∀ j, b.testBit j = true → pl.testBit j = true) (h : ∀ k, k < 64 → pl.testBit k = true → sF k = sG k) : wld3 b pl rv C sF = wld3 b pl rv C sG := by
  unfold wld3
  rw [joinN_congr fun k hk hb2 => h k hk (wld2_in hb hb2)]
theorem wld4_congr {sG aG : Nat → Nat} (hb : ∀ j, b.testBit j = true → pl.testBit j = true) (h : ∀ k, k < 64 → pl.testBit k = true → sF k = sG k ∧ aF k = aG k) (hs : ∀ k j, pl.testBit k = true → (sF k).testBit j = true → pl.testBit j = true) : wld4 b pl rv C sF aF = wld4 b pl rv C sG aG := by
  have e : wld3 b pl rv C sF = wld3 b pl rv C sG := wld3_congr hb fun k hk hp => (h k hk hp).1
  unfold wld4
  rw [← e, joinN_congr (F := aF) (G := aG) fun k hk hb2 => (h k hk (wld3_in hb hs hb2)).2]
end
/-- What one must see, whatever the order is. -/
def baseN (h : List TxnV) (C i : Nat) : Nat := seeTo (baseM h (C : Int)) (i : Int) 64
theorem baseN_set (h : List TxnV) (C i : Nat) : IsSet (baseN h C i) := seeTo_set _ _ _
/-- Of each of a row, the last one first: who is ahead of it, and whom it sees. -/
def aheadL : List Nat → Nat → Nat
  | [], _ => 0
  | i :: r, k => if k = i then plS r else aheadL r k
def plSee (h : List TxnV) (C : Nat) : List Nat → Nat → Nat
  | [], _ => 0
  | i :: r, k => if k = i then wld4 (baseN h C i) (plS r) (rivN h i) C (plSee h C r) (aheadL r) else plSee h C r k
def nextN (h : List TxnV) (C : Nat) (r : List Nat) (i : Nat) : Nat := wld4 (baseN h C i) (plS r) (rivN h i) C (plSee h C r) (aheadL r)
theorem aheadL_set : ∀ (r : List Nat) (k : Nat), IsSet (aheadL r k)
  | [], _ => by unfold aheadL IsSet; omega
  | i :: r, k => by
    unfold aheadL
    split
    · exact plS_set r
    · exact aheadL_set r k
theorem plSee_set (h : List TxnV) (C : Nat) : ∀ (r : List Nat) (k : Nat), IsSet (plSee h C r k)
  | [], _ => by unfold plSee IsSet; omega
  | i :: r, k => by
    unfold plSee
    split
    · exact wld4_set (baseN_set h C i) (plS_set r) (rivN_set h i) (fun k _ => plSee_set h C r k) (fun k _ => aheadL_set r k)
    · exact plSee_set h C r k
/-- Would one read of a key what the last one wrote that it sees? -/
def readW (h : List TxnV) (aF : Nat → Nat) (seen : Nat) (r : Int × Int) : Nat := if 0 ≤ r.2 then lackN (seen &&& wrtN h r.1) (withS (aF r.2.toNat) r.2) else seen &&& wrtN h r.1
def readP (h : List TxnV) (aF : Nat → Nat) (seen : Nat) (r : Int × Int) : Bool := decide (readW h aF seen r = 0)
def readsP (h : List TxnV) (aF : Nat → Nat) (seen i : Nat) : Bool := (readsOf h i).all (readP h aF seen)
/-- May one come next? -/
def tryP (h : List TxnV) (C : Nat) (r : List Nat) (i : Nat) : Bool := decide (i < h.length) && (!decide (i ∈ r) && (inB (baseN h C i) (plS r) && readsP h (aheadL r) (nextN h C r i) i))
/-- The cells of the block, one by one. -/
def plF (B C : Nat) (vb vr : Value) (pl : Nat) (aF sF : Nat → Nat) (i : Nat) : Value :=
  if i = 0 then .pointer (some ⟨B, 0, none⟩) else if i = 1 then .int .i64 (C : Int) else if i = 2 then vb else if i = 3 then vr else if i = 4 then .int .u64 (pl : Int) else
  if i < 69 then .int .u64 ((aF (i - 5) : Nat) : Int) else .int .u64 ((sF (i - 69) : Nat) : Int)
/-- The block that holds a state. -/
def PlAt (w : World) (S B C : Nat) (vb vr : Value) (pl : Nat) (aF sF : Nat → Nat) : Prop := ∀ i, i < 133 → w.cell? ⟨S, i, none⟩ = some (plF B C vb vr pl aF sF i) ∧ w.frozen? ⟨S, i, none⟩ = false
section
variable {w : World} {S B C : Nat} {vb vr : Value} {pl : Nat} {aF sF : Nat → Nat}
theorem PlAt.lt (h : PlAt w S B C vb vr pl aF sF) : S < w.heap.size := block_lt (h 0 (by omega)).1
theorem PlAt.below {w' : World} {B' : Nat} (h : PlAt w S B C vb vr pl aF sF) (hb : Below B' w w') (hB : S < B') : PlAt w' S B C vb vr pl aF sF := fun i hi => by
  rw [hb.cell (p := ⟨S, i, none⟩) hB, hb.frozen (p := ⟨S, i, none⟩) hB]; exact h i hi
theorem PlAt.grown {w' : World} {row : Option Nat} (h : PlAt w S B C vb vr pl aF sF) (hg : w.grownBy w' row) (hne : some S ≠ row) : PlAt w' S B C vb vr pl aF sF := fun i hi => by
  obtain ⟨h1, h2⟩ := h i hi
  have hb := hg.block S h.lt hne
  have e1 : w'.cell? ⟨S, i, none⟩ = w.cell? ⟨S, i, none⟩ := by simp only [World.cell?]; rw [hb]
  have e2 : w'.frozen? ⟨S, i, none⟩ = w.frozen? ⟨S, i, none⟩ := by simp only [World.frozen?]; rw [hb]
  rw [e1, e2]; exact ⟨h1, h2⟩
theorem PlAt.cO (h : PlAt w S B C vb vr pl aF sF) : w.cell? ⟨S, 0, none⟩ = some (.pointer (some ⟨B, 0, none⟩)) := (h 0 (by omega)).1
theorem PlAt.cC (h : PlAt w S B C vb vr pl aF sF) : w.cell? ⟨S, 1, none⟩ = some (.int .i64 (C : Int)) := (h 1 (by omega)).1
theorem PlAt.cB (h : PlAt w S B C vb vr pl aF sF) : w.cell? ⟨S, 2, none⟩ = some vb := (h 2 (by omega)).1
theorem PlAt.cR (h : PlAt w S B C vb vr pl aF sF) : w.cell? ⟨S, 3, none⟩ = some vr := (h 3 (by omega)).1
theorem PlAt.cP (h : PlAt w S B C vb vr pl aF sF) : w.cell? ⟨S, 4, none⟩ = some (.int .u64 (pl : Int)) := (h 4 (by omega)).1
theorem PlAt.cA (h : PlAt w S B C vb vr pl aF sF) {k : Nat} (hk : k < 64) : w.cell? ⟨S, 5 + k, none⟩ = some (.int .u64 ((aF k : Nat) : Int)) := by
  rw [(h (5 + k) (by omega)).1]; unfold plF
  rw [if_neg (by omega), if_neg (by omega), if_neg (by omega), if_neg (by omega), if_neg (by omega), if_pos (by omega), Nat.add_sub_cancel_left]
theorem PlAt.cS (h : PlAt w S B C vb vr pl aF sF) {k : Nat} (hk : k < 64) : w.cell? ⟨S, 69 + k, none⟩ = some (.int .u64 ((sF k : Nat) : Int)) := by
  rw [(h (69 + k) (by omega)).1]; unfold plF
  rw [if_neg (by omega), if_neg (by omega), if_neg (by omega), if_neg (by omega), if_neg (by omega), if_neg (by omega), Nat.add_sub_cancel_left]
theorem PlAt.free (h : PlAt w S B C vb vr pl aF sF) {i : Nat} (hi : i < 133) : w.frozen? ⟨S, i, none⟩ = false := (h i hi).2
theorem PlAt.put (h : PlAt w S B C vb vr pl aF sF) (k : Nat) (v : Value) {vb' vr' : Value} {pl' : Nat} {aF' sF' : Nat → Nat} (h1 : plF B C vb' vr' pl' aF' sF' k = v)
    (h2 : ∀ i, i < 133 → i ≠ k → plF B C vb' vr' pl' aF' sF' i = plF B C vb vr pl aF sF i) : PlAt (w.setCell ⟨S, k, none⟩ v) S B C vb' vr' pl' aF' sF' := fun i hi => by
  refine ⟨?_, by rw [World.frozen?_setCell]; exact (h i hi).2⟩
  by_cases e : i = k
  · subst e
    rw [World.cell?_setCell_same _ _ _ (h i hi).1, h1]
  · have hne : (⟨S, k, none⟩ : Addr) ≠ ⟨S, i, none⟩ := by
      intro q
      injection q with _ q2
      exact e q2.symm
    rw [World.cell?_setCell_other _ _ _ _ hne, h2 i hi e]
    exact (h i hi).1
theorem PlAt.setB (h : PlAt w S B C vb vr pl aF sF) (v : Value) : PlAt (w.setCell ⟨S, 2, none⟩ v) S B C v vr pl aF sF := h.put 2 v rfl (fun i _ e => by unfold plF; simp [e])
theorem PlAt.setR (h : PlAt w S B C vb vr pl aF sF) (v : Value) : PlAt (w.setCell ⟨S, 3, none⟩ v) S B C vb v pl aF sF := h.put 3 v rfl (fun i _ e => by unfold plF; simp [e])
theorem PlAt.setP (h : PlAt w S B C vb vr pl aF sF) (s : Nat) : PlAt (w.setCell ⟨S, 4, none⟩ (.int .u64 (s : Int))) S B C vb vr s aF sF := h.put 4 _ rfl (fun i _ e => by unfold plF; simp [e])
/-- A table with one number anew. -/
def updN (F : Nat → Nat) (i s : Nat) : Nat → Nat := fun k => if k = i then s else F k
theorem PlAt.setA (h : PlAt w S B C vb vr pl aF sF) {k : Nat} (hk : k < 64) (s : Nat) : PlAt (w.setCell ⟨S, 5 + k, none⟩ (.int .u64 (s : Int))) S B C vb vr pl (updN aF k s) sF := h.put (5 + k) _
  (by unfold plF updN; rw [if_neg (by omega), if_neg (by omega), if_neg (by omega), if_neg (by omega), if_neg (by omega), if_pos (by omega), if_pos (by omega)])
  (fun i _ e => by
    unfold plF updN
    by_cases h5 : i < 5
    · have : i = 0 ∨ i = 1 ∨ i = 2 ∨ i = 3 ∨ i = 4 := by omega
      rcases this with rfl | rfl | rfl | rfl | rfl <;> rfl
    · have : ¬ i - 5 = k := by omega
      simp only [this, if_false])
theorem PlAt.setS (h : PlAt w S B C vb vr pl aF sF) {k : Nat} (hk : k < 64) (s : Nat) : PlAt (w.setCell ⟨S, 69 + k, none⟩ (.int .u64 (s : Int))) S B C vb vr pl aF (updN sF k s) := h.put (69 + k) _
  (by unfold plF updN; rw [if_neg (by omega), if_neg (by omega), if_neg (by omega), if_neg (by omega), if_neg (by omega), if_neg (by omega), if_pos (by omega)])
  (fun i _ e => by
    unfold plF updN
    by_cases h5 : i < 69
    · by_cases h6 : i < 5
      · have : i = 0 ∨ i = 1 ∨ i = 2 ∨ i = 3 ∨ i = 4 := by omega
        rcases this with rfl | rfl | rfl | rfl | rfl <;> rfl
      · simp only [h5, if_true]
    · have : ¬ i - 69 = k := by omega
      simp only [this, if_false])
end
/-- A state: of a history, what is asked, and those that are placed, the last one first. What lay there ahead of it is W. -/
structure PlIs (W : World) (S B b : Nat) (h : List TxnV) (C : Nat) (r : List Nat) (vb vr : Value) (aF sF : Nat → Nat) (w : World) : Prop where
  o : OrdIs W B b h
  t : Tab W
  bel : Below W.heap.size W w
  low : W.heap.size ≤ S
  a : PlAt w S B C vb vr (plS r) aF sF
  ba : w.ownsRow (S + 1) 36 1 vb h.length ((List.range h.length).map fun i => .int .u64 ((baseN h C i : Nat) : Int))
  rw : w.ownsRow (S + 1) 3 1 vr r.length (r.reverse.map fun i : Nat => .int .i64 (i : Int))
  ne : ∀ g, vb.ownBlock = some g → vr.ownBlock ≠ some g
  set : ∀ k, k < 64 → IsSet (aF k) ∧ IsSet (sF k)
  eq : ∀ k ∈ r, aF k = aheadL r k ∧ sF k = plSee h C r k
  nd : r.Nodup
  lt : ∀ k ∈ r, k < h.length
  base : ∀ k ∈ r, ∀ j, (baseN h C k).testBit j = true → (aheadL r k).testBit j = true
/-- A step that changes a state alone, and lays new blocks. -/
structure PlStep (S : Nat) (vr vr' : Value) (w w' : World) : Prop where
  os : w'.os = w.os
  tape : w'.tape = w.tape
  output : w'.output = w.output
  size : w.heap.size ≤ w'.heap.size
  block : ∀ k, k < w.heap.size → k ≠ S → vr.ownBlock ≠ some k → w'.heap[k]? = w.heap[k]?
  own : ∀ g, vr'.ownBlock = some g → vr.ownBlock = some g ∨ w.heap.size ≤ g
theorem PlStep.of_below {S : Nat} {vr : Value} {w w' : World} (hb : Below w.heap.size w w') : PlStep S vr vr w w' := ⟨hb.os, hb.tape, hb.output, hb.size, fun k hk _ _ => hb.block k hk, fun _ hg => .inl hg⟩
theorem PlStep.refl (S : Nat) (vr : Value) (w : World) : PlStep S vr vr w w := .of_below (Below.refl _ _)
theorem PlStep.trans {S : Nat} {v1 v2 v3 : Value} {w1 w2 w3 : World} (h : PlStep S v1 v2 w1 w2) (k : PlStep S v2 v3 w2 w3) : PlStep S v1 v3 w1 w3 := by
  refine ⟨k.os.trans h.os, k.tape.trans h.tape, k.output.trans h.output, Nat.le_trans h.size k.size, fun j hj hs hv => ?_, fun g hg => ?_⟩
  · refine (k.block j (Nat.lt_of_lt_of_le hj h.size) hs (fun e => ?_)).trans (h.block j hj hs hv)
    rcases h.own j e with q | q
    · exact hv q
    · omega
  · rcases k.own g hg with q | q
    · exact h.own g q
    · exact .inr (Nat.le_trans h.size q)
/-- A slice apart from a state. -/
def RowX (S : Nat) (vr : Value) (w : World) (v : Value) (n size : Nat) (cs : List Value) : Prop := Row w v n size cs ∧ (0 < n → 0 < size → ∀ g, v.ownBlock = some g → g ≠ S ∧ vr.ownBlock ≠ some g)
theorem RowX.step {S : Nat} {v1 v2 : Value} {w w' : World} {v : Value} {n size : Nat} {cs : List Value} (h : RowX S v1 w v n size cs) (hs : 0 < size) (k : PlStep S v1 v2 w w') : RowX S v2 w' v n size cs := by
  obtain ⟨⟨hl, ao, cap, rfl, hm, hno, hc⟩, hx⟩ := h
  refine ⟨⟨hl, ao, cap, rfl, hm, hno, fun hn => ?_⟩, fun hn h0 g hg => ?_⟩
  · obtain ⟨b, off, rfl, hcell⟩ := hc hn
    obtain ⟨x1, x2⟩ := hx hn hs b rfl
    refine ⟨b, off, rfl, fun i hi => ?_⟩
    have h1 := hcell i hi
    have h2 : cs[i]? = some cs[i] := List.getElem?_eq_getElem (by omega)
    have hlt := block_lt (h1.trans h2)
    rw [← h1]
    show w'.cell? _ = w.cell? _
    simp only [World.cell?]
    rw [k.block b hlt x1 x2]
  · obtain ⟨b, off, rfl, hcell⟩ := hc hn
    obtain rfl : b = g := by injection hg
    obtain ⟨x1, x2⟩ := hx hn hs b rfl
    have hpos : 0 < n * size := Nat.mul_pos hn hs
    have h1 := hcell 0 hpos
    have h2 : cs[0]? = some cs[0] := List.getElem?_eq_getElem (by omega)
    have hlt := block_lt (h1.trans h2)
    refine ⟨x1, fun e => ?_⟩
    rcases k.own b e with q | q
    · exact x2 q
    · have : b < w.heap.size := hlt
      omega
section
variable {W : World} {S B b : Nat} {h : List TxnV} {C : Nat} {r : List Nat} {vb vr : Value} {aF sF : Nat → Nat} {w w' : World}
theorem pl_far {base : Nat} {e : TypeId} {size n : Nat} {v : Value} {xs : List Value} (hr : w.ownsRow base e size v n xs) {p : Addr} (hp : p.block < base) (u : Value) : (w.setCell p u).ownsRow base e size v n xs :=
  ownsRow_setCell_other hr (fun e => by have := (hr.lt _ e).1; omega) u
theorem PlIs.below (p : PlIs W S B b h C r vb vr aF sF w) (hb : Below w.heap.size w w') : PlIs W S B b h C r vb vr aF sF w' :=
  ⟨p.o, p.t, p.bel.trans (hb.mono p.bel.size), p.low, p.a.below hb p.a.lt, owns_below p.ba hb, owns_below p.rw hb, p.ne, p.set, p.eq, p.nd, p.lt, p.base⟩
theorem PlIs.ord (p : PlIs W S B b h C r vb vr aF sF w) : OrdIs w B b h := p.o.below p.bel
theorem PlIs.tab (p : PlIs W S B b h C r vb vr aF sF w) : Tab w := p.t.below p.bel (p.t.pos)
/-- All that are ahead of one, and all that it sees, are placed. -/
theorem ahead_in {r : List Nat} (hlt : ∀ k ∈ r, k < 64) : ∀ {k j : Nat}, (aheadL r k).testBit j = true → (plS r).testBit j = true := by
  induction r with
  | nil => intro k j hj; unfold aheadL at hj; simp at hj
  | cons i r ih =>
    intro k j hj
    have hlt' : ∀ a ∈ r, a < 64 := fun a ha => hlt a (List.mem_cons_of_mem _ ha)
    have : (plS r).testBit j = true := by
      unfold aheadL at hj
      split at hj
      · exact hj
      · exact ih hlt' hj
    rw [plS_bit j _ hlt', decide_eq_true_eq] at this
    rw [plS_bit j _ hlt, decide_eq_true_eq]
    exact List.mem_cons_of_mem _ this
theorem base_tail {i : Nat} (hi : i ∉ r) (hb : ∀ k ∈ i :: r, ∀ j, (baseN h C k).testBit j = true → (aheadL (i :: r) k).testBit j = true) : (∀ k ∈ r, ∀ j, (baseN h C k).testBit j = true → (aheadL r k).testBit j = true) ∧ ∀ j, (baseN h C i).testBit j = true → (plS r).testBit j = true := by
  constructor
  · intro k hk j hj
    have := hb k (List.mem_cons_of_mem _ hk) j hj
    unfold aheadL at this
    rwa [if_neg (fun e => hi (by rw [← e]; exact hk))] at this
  · intro j hj
    have := hb i (List.mem_cons_self ..) j hj
    unfold aheadL at this
    rwa [if_pos rfl] at this
/-- Whom one sees is ahead of it. -/
theorem sees_ahead {r : List Nat} (hlt : ∀ k ∈ r, k < 64) (hnd : r.Nodup) (hb : ∀ k ∈ r, ∀ j, (baseN h C k).testBit j = true → (aheadL r k).testBit j = true) : ∀ {k j : Nat}, (plSee h C r k).testBit j = true → (aheadL r k).testBit j = true := by
  induction r with
  | nil => intro k j hj; unfold plSee at hj; simp at hj
  | cons i r ih =>
    intro k j hj
    have hlt' : ∀ a ∈ r, a < 64 := fun a ha => hlt a (List.mem_cons_of_mem _ ha)
    obtain ⟨hi, hnd'⟩ := List.nodup_cons.1 hnd
    obtain ⟨hb', hbi⟩ := base_tail hi hb
    unfold plSee at hj
    unfold aheadL
    split at hj
    · rename_i e
      rw [if_pos e]
      exact wld4_in hbi (fun k j _ hj => ahead_in hlt' (ih hlt' hnd' hb' hj)) (fun k j _ hj => ahead_in hlt' hj) hj
    · rename_i e
      rw [if_neg e]
      exact ih hlt' hnd' hb' hj
end
end Go.Proofs.YtecpeegbfeijaaaDoor

namespace Go.Proofs.YtecpeegbfeijaaaDoor
set_option maxRecDepth 100000
open Go.RowKit

section
variable {b pl rv C : Nat} {sF aF : Nat → Nat}
theorem wld2_up {j : Nat} (h : (wld1 b pl C).testBit j = true) : (wld2 b pl rv C).testBit j = true := by
  unfold wld2; split
  · rw [Nat.testBit_or, h]; rfl
  · exact h
theorem wld3_up {j : Nat} (h : (wld2 b pl rv C).testBit j = true) : (wld3 b pl rv C sF).testBit j = true := by
  unfold wld3; split
  · rw [Nat.testBit_or, h]; rfl
  · exact h
theorem wld4_up {j : Nat} (h : (wld3 b pl rv C sF).testBit j = true) : (wld4 b pl rv C sF aF).testBit j = true := by
  unfold wld4; split
  · rw [Nat.testBit_or, h]; rfl
  · exact h
theorem wld4_all {j : Nat} (hc : C.testBit 4 = true) (h : pl.testBit j = true) : (wld4 b pl rv C sF aF).testBit j = true := by
  refine wld4_up (wld3_up (wld2_up ?_))
  unfold wld1
  rw [if_pos hc, Nat.testBit_or, h, Bool.or_true]
end
/-- A row, the last one first, of those each of which must see none but those ahead of it. -/
structure RowG (h : List TxnV) (C : Nat) (r : List Nat) : Prop where
  nd : r.Nodup
  lt : ∀ k ∈ r, k < 64
  base : ∀ k ∈ r, ∀ j, (baseN h C k).testBit j = true → (aheadL r k).testBit j = true
section
variable {h : List TxnV} {C : Nat}
theorem RowG.tail {i : Nat} {r : List Nat} (g : RowG h C (i :: r)) : RowG h C r :=
  ⟨(List.nodup_cons.1 g.nd).2, fun k hk => g.lt k (List.mem_cons_of_mem _ hk), (base_tail (List.nodup_cons.1 g.nd).1 g.base).1⟩
theorem RowG.head {i : Nat} {r : List Nat} (g : RowG h C (i :: r)) : ∀ j, (baseN h C i).testBit j = true → (plS r).testBit j = true := (base_tail (List.nodup_cons.1 g.nd).1 g.base).2
theorem aheadL_tail {i k : Nat} {r : List Nat} (hne : k ≠ i) : aheadL (i :: r) k = aheadL r k := by rw [aheadL, if_neg hne]
theorem plSee_tail {i k : Nat} {r : List Nat} (hne : k ≠ i) : plSee h C (i :: r) k = plSee h C r k := by rw [plSee, if_neg hne]
theorem plS_mem {r : List Nat} (hlt : ∀ k ∈ r, k < 64) {j : Nat} (hj : (plS r).testBit j = true) : j ∈ r := by rw [plS_bit j r hlt, decide_eq_true_eq] at hj; exact hj
theorem aheadL_mem {r : List Nat} (hlt : ∀ k ∈ r, k < 64) {k j : Nat} (hj : (aheadL r k).testBit j = true) : j ∈ r := plS_mem hlt (ahead_in hlt hj)
theorem aheadL_trans : ∀ {r : List Nat}, r.Nodup → (∀ k ∈ r, k < 64) → ∀ {k m j : Nat}, (aheadL r k).testBit m = true → (aheadL r m).testBit j = true → (aheadL r k).testBit j = true
  | [], _, _, k, m, j, h1, _ => by unfold aheadL at h1; simp at h1
  | i :: r, hnd, hlt, k, m, j, h1, h2 => by
    obtain ⟨hi, hnd'⟩ := List.nodup_cons.1 hnd
    have hlt' : ∀ a ∈ r, a < 64 := fun a ha => hlt a (List.mem_cons_of_mem _ ha)
    by_cases e : k = i
    · subst e
      rw [aheadL, if_pos rfl] at h1 ⊢
      have hm := plS_mem hlt' h1
      rw [aheadL_tail (fun e => hi (by rw [← e]; exact hm))] at h2
      exact ahead_in hlt' h2
    · rw [aheadL_tail e] at h1 ⊢
      have hm := aheadL_mem hlt' h1
      rw [aheadL_tail (fun e => hi (by rw [← e]; exact hm))] at h2
      exact aheadL_trans hnd' hlt' h1 h2
/-- Whom one sees, by the whole row. -/
theorem sees_fix : ∀ {r : List Nat}, RowG h C r → ∀ k, k ∈ r → plSee h C r k = wld4 (baseN h C k) (aheadL r k) (rivN h k) C (plSee h C r) (aheadL r)
  | [], _, k, hk => by cases hk
  | i :: r, g, k, hk => by
    obtain ⟨hi, hnd'⟩ := List.nodup_cons.1 g.nd
    have gt := g.tail
    have hS : ∀ k j, (plSee h C r k).testBit j = true → (plS r).testBit j = true := fun k j hj => ahead_in gt.lt (sees_ahead gt.lt gt.nd gt.base hj)
    by_cases e : k = i
    · subst e
      rw [show aheadL (k :: r) k = plS r by rw [aheadL, if_pos rfl]]
      conv => lhs; rw [plSee, if_pos rfl]
      refine wld4_congr g.head (fun m hm hp => ?_) (fun m j _ => hS m j)
      have hne : m ≠ k := fun e => hi (by rw [← e]; exact plS_mem gt.lt hp)
      rw [plSee_tail hne, aheadL_tail hne]; exact ⟨rfl, rfl⟩
    · have hkr : k ∈ r := by rcases List.mem_cons.1 hk with q | q; exact (e q).elim; exact q
      rw [plSee_tail e, aheadL_tail e, sees_fix gt k hkr]
      refine wld4_congr (gt.base k hkr) (fun m hm hp => ?_) (fun m j hp hj => aheadL_trans gt.nd gt.lt hp (sees_ahead gt.lt gt.nd gt.base hj))
      have hne : m ≠ i := fun e => hi (by rw [← e]; exact aheadL_mem gt.lt hp)
      rw [plSee_tail hne, aheadL_tail hne]; exact ⟨rfl, rfl⟩
end
end Go.Proofs.YtecpeegbfeijaaaDoor

namespace Go.Proofs.YtecpeegbfeijaaaDoor
set_option maxRecDepth 100000
open Go.RowKit

/-- Where one stands in a row, from a place on; -1: nowhere. -/
def placeF : List Int → Int → Nat → Int
  | [], _, _ => -1
  | a :: r, i, k => if a = i then (k : Int) else placeF r i (k + 1)
def placeI (l : List Int) (i : Int) : Int := placeF l i 0
end Go.Proofs.YtecpeegbfeijaaaDoor

namespace Go.Proofs.YtecpeegbfeijaaaDoor
set_option maxRecDepth 100000
open Go.RowKit

/-- Does one come ahead of another one in a row, as the reference says it? -/
def ahR (l : List Int) (i k : Int) : Bool := decide (placeI l i < placeI l k)
/-- Must one be seen by another one, whatever else is, as the reference says it? -/
def mustR (h : List TxnV) (x : Nat) (l : List Int) (i k : Nat) : Bool := ((froR h i k || (hasT x 1 && sesP h i k)) || (hasT x 32 && timP h i k)) || (ahR l (i : Int) (k : Int) && (hasT x 16 || (hasT x 8 && rivR h i k)))
end Go.Proofs.YtecpeegbfeijaaaDoor

namespace Go.Proofs.YtecpeegbfeijaaaDoor
set_option maxRecDepth 100000
open Go.RowKit

/-- All pairs of numbers below n. -/
def gridP (n : Nat) : List Pr := (List.range n).flatMap fun i => (List.range n).map fun k => (((i : Nat) : Int), ((k : Nat) : Int))
theorem gridP_len (n : Nat) : (gridP n).length = n * n := by
  unfold gridP
  rw [List.length_flatMap]
  have : ((List.range n).map fun i => ((List.range n).map fun k => ((((i : Nat) : Int), ((k : Nat) : Int)) : Pr)).length) = (List.range n).map fun _ => n := by simp
  rw [this, List.map_const']
  have hr : ∀ n k : Nat, (List.replicate n k).sum = n * k := by
    intro n k; induction n with
    | zero => simp
    | succ n ih => rw [List.replicate_succ, List.sum_cons, ih, Nat.succ_mul]; omega
  rw [hr, List.length_range]
theorem mem_gridP {n : Nat} {p : Pr} : p ∈ gridP n ↔ ∃ i k : Nat, i < n ∧ k < n ∧ p = ((i : Int), (k : Int)) := by
  unfold gridP
  rw [List.mem_flatMap]
  constructor
  · rintro ⟨i, hi, h⟩
    obtain ⟨k, hk, e⟩ := List.mem_map.1 h
    exact ⟨i, k, List.mem_range.1 hi, List.mem_range.1 hk, e.symm⟩
  · rintro ⟨i, k, hi, hk, rfl⟩
    exact ⟨i, List.mem_range.2 hi, List.mem_map.2 ⟨k, List.mem_range.2 hk, rfl⟩⟩
/-- Each once, of numbers below n, and each is one of M. -/
def InM (n : Nat) (M : Nat → Nat → Prop) (m : List Pr) : Prop := m.Nodup ∧ ∀ p ∈ m, ∃ i k : Nat, i < n ∧ k < n ∧ p = ((i : Int), (k : Int)) ∧ M i k
theorem InM.len {n : Nat} {M : Nat → Nat → Prop} {m : List Pr} (h : InM n M m) : m.length ≤ n * n := by
  rw [← gridP_len]
  refine nodup_le m (gridP n) h.1 fun p hp => ?_
  obtain ⟨i, k, hi, hk, e, _⟩ := h.2 p hp
  exact mem_gridP.2 ⟨i, k, hi, hk, e⟩
theorem InM.put {n : Nat} {M : Nat → Nat → Prop} {m : List Pr} (h : InM n M m) {i k : Nat} (hi : i < n) (hk : k < n) (hM : M i k) : InM n M (putP m (i : Int) (k : Int)) := by
  refine ⟨putP_nodup h.1, fun p hp => ?_⟩
  rcases mem_putP.1 hp with hp | rfl
  · exact h.2 p hp
  · exact ⟨i, k, hi, hk, rfl, hM⟩
/-- What must be seen of the start, what comes ahead, as the reference says it. -/
def staR (h : List TxnV) (x : Nat) (l : List Int) (n : Nat) : Mat := fun i k => decide (i < n) && decide (k < n) && decide (i ≠ k) && mustR h x l i k
/-- Are all pairs ahead of a place looked at: each is there, or isn't wanted? -/
def DoneTo (n : Nat) (P : Nat → Nat → Prop) (i0 k0 : Nat) : Prop := ∀ i k : Nat, i < n → k < n → (i < i0 ∨ (i = i0 ∧ k < k0)) → P i k
theorem DoneTo.row {n : Nat} {P : Nat → Nat → Prop} {i0 : Nat} (h : DoneTo n P i0 n) : DoneTo n P (i0 + 1) 0 := fun i k hi hk hlt => h i k hi hk (by omega)
theorem DoneTo.next {n : Nat} {P : Nat → Nat → Prop} {i0 k0 : Nat} (h : DoneTo n P i0 k0) (hp : P i0 k0) : DoneTo n P i0 (k0 + 1) := fun i k hi hk hlt => by
  by_cases e : i = i0 ∧ k = k0
  · rw [e.1, e.2]; exact hp
  · exact h i k hi hk (by omega)
theorem DoneTo.none {n : Nat} {P : Nat → Nat → Prop} : DoneTo n P 0 0 := fun i k _ _ h => by omega
theorem DoneTo.mono {n : Nat} {P Q : Nat → Nat → Prop} {i0 k0 : Nat} (h : DoneTo n P i0 k0) (hp : ∀ i k, P i k → Q i k) : DoneTo n Q i0 k0 := fun i k hi hk hlt => hp i k (h i k hi hk hlt)
theorem DoneTo.all {n : Nat} {P : Nat → Nat → Prop} {k0 : Nat} (h : DoneTo n P n k0) (i k : Nat) (hi : i < n) (hk : k < n) : P i k := h i k hi hk (.inl hi)
/-- The first round: what must be seen of the start. -/
def FirP (h : List TxnV) (x : Nat) (l : List Int) (n : Nat) (m : List Pr) (i k : Nat) : Prop := staR h x l n i k = true → ((i : Int), (k : Int)) ∈ m
theorem FirP.put {h : List TxnV} {x : Nat} {l : List Int} {n : Nat} {m : List Pr} {a b : Int} {i k : Nat} (hf : FirP h x l n m i k) : FirP h x l n (putP m a b) i k := fun hs => mem_putP.2 (.inl (hf hs))
end Go.Proofs.YtecpeegbfeijaaaDoor

namespace Go.Proofs.YtecpeegbfeijaaaDoor
set_option maxRecDepth 100000
open Go.RowKit

theorem all_congr {α : Type} {p q : α → Bool} : ∀ (l : List α), (∀ a ∈ l, p a = q a) → l.all p = l.all q
  | [], _ => rfl
  | a :: l, h => by rw [List.all_cons, List.all_cons, h a List.mem_cons_self, all_congr l (fun b hb => h b (List.mem_cons_of_mem _ hb))]
end Go.Proofs.YtecpeegbfeijaaaDoor

namespace Go.Proofs.YtecpeegbfeijaaaDoor
set_option maxRecDepth 100000
open Go.RowKit

theorem baseN_bit {h : List TxnV} {C i j : Nat} (hi : i < 64) : (baseN h C i).testBit j = true ↔ j < 64 ∧ baseM h (C : Int) j i = true := by
  unfold baseN
  rw [seeTo_bit _ _ _ _ (Nat.le_refl 64), Bool.and_eq_true, decide_eq_true_eq]
  exact ⟨fun ⟨a, b⟩ => ⟨a, by rwa [hasR_nat _ _ _ a hi] at b⟩, fun ⟨a, b⟩ => ⟨a, by rw [hasR_nat _ _ _ a hi]; exact b⟩⟩
theorem rivN_bit {h : List TxnV} {i j : Nat} : (rivN h i).testBit j = true ↔ j < 64 ∧ rivB h i j = true := by
  unfold rivN
  rw [testBit_mkS, Bool.and_eq_true, decide_eq_true_eq]
section
variable {h : List TxnV} {C : Nat}
theorem RowG.drop : ∀ {p r : List Nat}, RowG h C (p ++ r) → RowG h C r
  | [], _, g => g
  | _ :: p, _, g => RowG.drop (p := p) g.tail
theorem aheadL_drop : ∀ {p r : List Nat}, (p ++ r).Nodup → ∀ {k : Nat}, k ∈ r → aheadL (p ++ r) k = aheadL r k
  | [], _, _, _, _ => rfl
  | i :: p, r, hn, k, hk => by
    obtain ⟨hi, hn'⟩ := List.nodup_cons.1 (show (i :: (p ++ r)).Nodup from hn)
    show aheadL (i :: (p ++ r)) k = _
    rw [aheadL_tail (fun e => hi (by rw [← e]; exact List.mem_append_right _ hk)), aheadL_drop hn' hk]
end
/-- What one reads of others: nothing, or what another one wrote. -/
theorem read_from {h : List TxnV} (hc : checkI h = 0) {k : Nat} (hk : k < h.length) {x : Int × Int} (hx : x ∈ readsOf h k) : x.2 = -1 ∨ ∃ n : Nat, n < h.length ∧ x.2 = (n : Int) ∧ n ≠ k ∧ (wrtN h x.1).testBit n = true := by
  rw [reads_same hc hk] at hx
  unfold rdR at hx
  obtain ⟨o, ho, rfl⟩ := List.mem_map.1 hx
  obtain ⟨ho1, ho2⟩ := List.mem_filter.1 ho
  obtain ⟨h1, h2⟩ := refReads_in ho1
  rcases reads_F (may_of hc) hk h1 h2 with ⟨h0, hn⟩ | ⟨h0, u, hu, hku, hw⟩
  · left; unfold fromR; rw [if_pos h0]
  · right
    obtain ⟨p, hp, hpv, hpk⟩ := real_wr h h.length (Nat.le_refl _) o.val u hu
    obtain ⟨t, ht, hpt, hpw⟩ := wrs_mem.1 hp
    obtain ⟨n, hn, rfl⟩ := List.getElem_of_mem ht
    have h3 := may_wr (may_of hc) hn hpt hpw
    rw [hpv, hu] at h3
    have h4 := Option.some.inj h3
    have hui : u.i = (n : Int) := by rw [h4]
    have hfr : fromR h o = (n : Int) := by unfold fromR; rw [if_neg h0, hw, hui]
    refine ⟨n, hn, hfr, ?_, ?_⟩
    · rintro rfl
      rw [hfr] at ho2
      simp at ho2
    · have h64 := (check_zero hc).1
      show (wrtN h o.key).testBit n = true
      unfold wrtN
      rw [testBit_mkS, decide_eq_true (show n < 64 by omega), decide_eq_true hn, Bool.true_and, Bool.true_and, decide_eq_true_eq, opsAt_eq hn]
      unfold keysOf
      rw [← hku, ← hpk]
      obtain ⟨a, b⟩ := (check_zero hc).2.2.2 _ (List.getElem_mem hn) p hpt
      obtain ⟨q, hq⟩ := Option.isSome_iff_exists.1 (lastW_some h[n].l hpw h[n].l.length (Nat.le_refl _) (by rw [List.take_length]; exact hpt))
      rw [List.take_length] at hq
      refine List.mem_map.2 ⟨q, upTo_mem.2 ⟨p.key.toNat, by omega, ?_⟩, (lastW_key hq).1⟩
      unfold wrK
      rw [Int.toNat_of_nonneg a]; exact hq
theorem from_base {h : List TxnV} {C : Nat} (hC : C < 9223372036854775808) (h64 : h.length ≤ 64) {k n : Nat} (hk : k < h.length) (hn : n < h.length) {x : Int × Int} (hx : x ∈ readsOf h k) (he : x.2 = (n : Int)) : (baseN h C k).testBit n = true := by
  rw [baseN_bit (by omega)]
  refine ⟨by omega, (baseM_iff h C hC n k).2 (.inl ?_)⟩
  refine (prsTo_iff (froP h) h.length n k (by omega) (by omega) h.length).2 ⟨hn, hk, ?_⟩
  unfold froP
  rw [List.any_eq_true]
  exact ⟨x, hx, by rw [he]; simp⟩
theorem readsP_congr {h : List TxnV} {aF aG : Nat → Nat} {s k : Nat} (hc : ∀ x ∈ readsOf h k, 0 ≤ x.2 → aF x.2.toNat = aG x.2.toNat) : readsP h aF s k = readsP h aG s k := by
  unfold readsP
  refine all_congr _ fun x hx => ?_
  unfold readP readW
  by_cases h0 : 0 ≤ x.2
  · rw [if_pos h0, if_pos h0, hc x hx h0]
  · rw [if_neg h0, if_neg h0]
section
variable {h : List TxnV} {C : Nat}
theorem inB_bits {s t : Nat} (hs : IsSet s) : inB s t = true ↔ ∀ j, s.testBit j = true → t.testBit j = true := by
  rw [inB_iff hs]
  exact ⟨fun q j hj => q j (by by_cases e : j < 64; exact e; rw [hs.high (by omega)] at hj; cases hj) hj, fun q j _ hj => q j hj⟩
end
end Go.Proofs.YtecpeegbfeijaaaDoor

namespace Go.Proofs.YtecpeegbfeijaaaDoor
set_option maxRecDepth 100000
open Go.RowKit

/-- Those that write. -/
def wAllN (h : List TxnV) : Nat := mkS fun j => decide (j < h.length) && !(keysOf (opsAt h j)).isEmpty
theorem wAll_set (h : List TxnV) : IsSet (wAllN h) := isSet_mkS _
theorem wAll_bit {h : List TxnV} {j : Nat} : (wAllN h).testBit j = true ↔ j < 64 ∧ j < h.length ∧ keysOf (opsAt h j) ≠ [] := by
  unfold wAllN
  rw [testBit_mkS]
  simp
theorem wrt_all {h : List TxnV} {y : Int} {j : Nat} (hj : (wrtN h y).testBit j = true) : (wAllN h).testBit j = true := by
  unfold wrtN at hj
  rw [testBit_mkS] at hj
  simp only [Bool.and_eq_true, decide_eq_true_eq] at hj
  exact wAll_bit.2 ⟨hj.1, hj.2.1, fun e => by rw [e] at hj; cases hj.2.2⟩
theorem riv_all {h : List TxnV} (hc : checkI h = 0) {i k : Nat} (hr : (rivN h i).testBit k = true) : (wAllN h).testBit i = true ∧ (wAllN h).testBit k = true := by
  have h64 := (check_zero hc).1
  obtain ⟨hk, hr⟩ := rivN_bit.1 hr
  unfold rivB rivR at hr
  simp only [Bool.and_eq_true, decide_eq_true_eq, List.any_eq_true, List.mem_range] at hr
  obtain ⟨hi, hk2, _, n, _, h1, h2⟩ := hr
  have a1 := (keysOf_iff hc hi (n : Int)).2 h1
  have a2 := (keysOf_iff hc hk2 (n : Int)).2 h2
  exact ⟨wAll_bit.2 ⟨by omega, hi, fun e => by rw [e] at a1; cases a1⟩, wAll_bit.2 ⟨hk, hk2, fun e => by rw [e] at a2; cases a2⟩⟩
/-- Two rows alike in all that matters. -/
structure Sim (h : List TxnV) (C : Nat) (r s : List Nat) : Prop where
  mem : ∀ j, j ∈ r ↔ j ∈ s
  wr : ∀ k j, (wAllN h).testBit k = true → (wAllN h).testBit j = true → ((aheadL r k).testBit j = true ↔ (aheadL s k).testBit j = true)
  pf : C.testBit 2 = true → C.testBit 4 = false → ∀ k j, (wAllN h).testBit j = true → ((aheadL r k).testBit j = true ↔ (aheadL s k).testBit j = true)
section
variable {h : List TxnV} {C : Nat} {r s : List Nat}
theorem Sim.symm (q : Sim h C r s) : Sim h C s r := ⟨fun j => (q.mem j).symm, fun k j a b => (q.wr k j a b).symm, fun a b k j c => (q.pf a b k j c).symm⟩
theorem Sim.refl (h : List TxnV) (C : Nat) (r : List Nat) : Sim h C r r := ⟨fun _ => Iff.rfl, fun _ _ _ _ => Iff.rfl, fun _ _ _ _ _ => Iff.rfl⟩
theorem Sim.all (q : Sim h C r s) (hr : ∀ k ∈ r, k < 64) : plS r = plS s := by
  apply Nat.eq_of_testBit_eq
  intro j
  rw [plS_bit j r hr, plS_bit j s (fun k hk => hr k ((q.mem k).2 hk)), Bool.eq_iff_iff, decide_eq_true_eq, decide_eq_true_eq]
  exact q.mem j
theorem Sim.cons (q : Sim h C r s) (hr : ∀ k ∈ r, k < 64) (i : Nat) : Sim h C (i :: r) (i :: s) := by
  have e := q.all hr
  refine ⟨fun j => by rw [List.mem_cons, List.mem_cons, q.mem], fun k j a b => ?_, fun a b k j c => ?_⟩
  · unfold aheadL; split
    · rw [e]
    · exact q.wr k j a b
  · unfold aheadL; split
    · rw [e]
    · exact q.pf a b k j c
theorem wld2_bit {b pl rv j : Nat} (h4 : C.testBit 4 = false) : (wld2 b pl rv C).testBit j = true ↔ b.testBit j = true ∨ (C.testBit 3 = true ∧ rv.testBit j = true ∧ pl.testBit j = true) := by
  have e1 : wld1 b pl C = b := by unfold wld1; rw [h4]; rfl
  unfold wld2
  rw [e1]
  cases C.testBit 3 with
  | false => simp
  | true => simp [Nat.testBit_or, Nat.testBit_and]
theorem RowG.hin (g : RowG h C r) : ∀ k j, (plSee h C r k).testBit j = true → (aheadL r k).testBit j = true := fun _ _ hj => sees_ahead g.lt g.nd g.base hj
/-- Where neither all that come ahead are seen, nor all ahead of one that is seen: each sees just the same. -/
theorem Sim.sees (hc : checkI h = 0) (q : Sim h C r s) (g : RowG h C r) (g' : RowG h C s) (h4 : C.testBit 4 = false) (h2 : C.testBit 2 = false) : ∀ (t p : List Nat), p ++ t = r → ∀ k ∈ t, plSee h C r k = plSee h C s k
  | [], _, _, _, hk => by cases hk
  | i :: t, p, e, k, hk => by
    have ih := Sim.sees hc q g g' h4 h2 t (p ++ [i]) (by rw [List.append_assoc]; exact e)
    rcases List.mem_cons.1 hk with rfl | hk
    · have hkr : k ∈ r := by rw [← e]; simp
      have hks := (q.mem k).1 hkr
      have hnd : (p ++ k :: t).Nodup := by rw [e]; exact g.nd
      have hat : aheadL r k = plS t := by
        rw [← e, aheadL_drop hnd (List.mem_cons_self ..)]; unfold aheadL; rw [if_pos rfl]
      have ht64 : ∀ a ∈ t, a < 64 := fun a ha => g.lt a (by rw [← e]; simp [ha])
      rw [sees_fix g k hkr, sees_fix g' k hks]
      have e2 : wld2 (baseN h C k) (aheadL r k) (rivN h k) C = wld2 (baseN h C k) (aheadL s k) (rivN h k) C := by
        apply Nat.eq_of_testBit_eq
        intro j
        rw [Bool.eq_iff_iff, wld2_bit h4, wld2_bit h4]
        refine or_congr Iff.rfl (and_congr_right fun _ => and_congr_right fun hr => ?_)
        obtain ⟨a, b⟩ := riv_all hc hr
        exact q.wr k j a b
      have e3 : wld3 (baseN h C k) (aheadL r k) (rivN h k) C (plSee h C r) = wld3 (baseN h C k) (aheadL s k) (rivN h k) C (plSee h C s) := by
        unfold wld3
        rw [← e2, joinN_congr (F := plSee h C r) (G := plSee h C s) fun m _ hm => ih m ?_]
        have := wld2_in (g.base k hkr) hm
        rw [hat] at this
        exact plS_mem ht64 this
      unfold wld4
      rw [if_neg (by rw [h2]; simp), if_neg (by rw [h2]; simp)]
      exact e3
    · exact ih k hk
theorem nextN_in (g : RowG h C r) {i : Nat} (hb : ∀ j, (baseN h C i).testBit j = true → (plS r).testBit j = true) {j : Nat} (hj : (nextN h C r i).testBit j = true) : (plS r).testBit j = true :=
  wld4_in hb (fun k j _ hj => ahead_in g.lt (g.hin k j hj)) (fun _ _ _ hj => ahead_in g.lt hj) hj
/-- By Prefix: whom one sees that comes next. -/
theorem next_prefix (g : RowG h C r) (h2 : C.testBit 2 = true) (i j : Nat) : (nextN h C r i).testBit j = true ↔
    (wld2 (baseN h C i) (plS r) (rivN h i) C).testBit j = true ∨ ∃ m, (wld2 (baseN h C i) (plS r) (rivN h i) C).testBit m = true ∧ m < 64 ∧ (aheadL r m).testBit j = true := by
  unfold nextN
  constructor
  · intro hj
    have h3 : ∀ x, (wld3 (baseN h C i) (plS r) (rivN h i) C (plSee h C r)).testBit x = true → (wld2 (baseN h C i) (plS r) (rivN h i) C).testBit x = true ∨ ∃ m, (wld2 (baseN h C i) (plS r) (rivN h i) C).testBit m = true ∧ m < 64 ∧ (aheadL r m).testBit x = true := by
      intro x hx
      unfold wld3 at hx
      split at hx
      · rw [Nat.testBit_or, Bool.or_eq_true, joinN_iff] at hx
        rcases hx with hx | ⟨m, hm, a, b⟩
        · exact .inl hx
        · exact .inr ⟨m, a, hm, g.hin m x b⟩
      · exact .inl hx
    unfold wld4 at hj
    rw [if_pos h2, Nat.testBit_or, Bool.or_eq_true, joinN_iff] at hj
    rcases hj with hj | ⟨m, hm, a, b⟩
    · exact h3 j hj
    · rcases h3 m a with q | ⟨m2, q, hm2, q2⟩
      · exact .inr ⟨m, q, hm, b⟩
      · exact .inr ⟨m2, q, hm2, aheadL_trans g.nd g.lt q2 b⟩
  · rintro (hj | ⟨m, a, hm, b⟩)
    · exact wld4_up (wld3_up hj)
    · unfold wld4
      rw [if_pos h2, Nat.testBit_or, Bool.or_eq_true, joinN_iff]
      exact .inr ⟨m, hm, wld3_up a, b⟩
/-- Of those that write, one sees the same that comes next. -/
theorem Sim.next (hc : checkI h = 0) (q : Sim h C r s) (g : RowG h C r) (g' : RowG h C s) {i : Nat} (hb : ∀ j, (baseN h C i).testBit j = true → (plS r).testBit j = true) {j : Nat} (hj : (wAllN h).testBit j = true) :
    (nextN h C r i).testBit j = true ↔ (nextN h C s i).testBit j = true := by
  have e := q.all g.lt
  cases h4 : C.testBit 4 with
  | true => exact ⟨fun a => wld4_all h4 (by rw [← e]; exact nextN_in g hb a), fun a => wld4_all h4 (by rw [e]; exact nextN_in g' (by rw [← e]; exact hb) a)⟩
  | false =>
    cases h2 : C.testBit 2 with
    | true =>
      rw [next_prefix g h2, next_prefix g' h2, ← e]
      exact or_congr Iff.rfl ⟨fun ⟨m, a, b, c⟩ => ⟨m, a, b, (q.pf h2 h4 m j hj).1 c⟩, fun ⟨m, a, b, c⟩ => ⟨m, a, b, (q.pf h2 h4 m j hj).2 c⟩⟩
    | false =>
      have hs := Sim.sees hc q g g' h4 h2 r [] rfl
      have e3 : wld3 (baseN h C i) (plS r) (rivN h i) C (plSee h C r) = wld3 (baseN h C i) (plS r) (rivN h i) C (plSee h C s) := by
        unfold wld3
        rw [joinN_congr (F := plSee h C r) (G := plSee h C s) fun m _ hm => hs m (plS_mem g.lt (wld2_in hb hm))]
      unfold nextN wld4
      rw [h2, ← e, e3]
      simp only [Bool.false_eq_true, if_false]
theorem lack_bits (a b : Nat) : decide (lackN a b = 0) = true ↔ ∀ k, a.testBit k = true → b.testBit k = true := by rw [decide_eq_true_eq, lack_iff]
/-- Whoever may come in the one may come in the other one. -/
theorem Sim.try (hc : checkI h = 0) (q : Sim h C r s) (g : RowG h C r) (g' : RowG h C s) (i : Nat) : tryP h C r i = tryP h C s i := by
  have e := q.all g.lt
  have h64 := (check_zero hc).1
  unfold tryP
  by_cases hi : i < h.length
  · rw [decide_eq_true hi, Bool.true_and, Bool.true_and, show decide (i ∈ r) = decide (i ∈ s) by simp only [q.mem i], ← e]
    congr 1
    cases hbb : inB (baseN h C i) (plS r) with
    | false => rfl
    | true =>
      have hb := (inB_bits (baseN_set h C i)).1 hbb
      rw [Bool.true_and, Bool.true_and]
      unfold readsP
      refine all_congr _ fun x hx => ?_
      have hrf := read_from hc hi hx
      unfold readP readW
      by_cases h0 : 0 ≤ x.2
      · rw [if_pos h0, if_pos h0, Bool.eq_iff_iff, lack_bits, lack_bits]
        rcases hrf with hrf | ⟨n, hn, hx2, hni, hw⟩
        · omega
        have hWn := wrt_all hw
        rw [hx2, Int.toNat_natCast]
        have side : ∀ (a b : List Nat), (∀ k, (wAllN h).testBit k = true → ((nextN h C a i).testBit k = true → (nextN h C b i).testBit k = true)) → (∀ k, (wAllN h).testBit k = true → ((aheadL b n).testBit k = true → (aheadL a n).testBit k = true)) →
            (∀ k, (nextN h C b i &&& wrtN h x.1).testBit k = true → (withS (aheadL b n) (n : Int)).testBit k = true) → (∀ k, (nextN h C a i &&& wrtN h x.1).testBit k = true → (withS (aheadL a n) (n : Int)).testBit k = true) := by
          intro a b hab hba hB k hk
          rw [Nat.testBit_and, Bool.and_eq_true] at hk
          have hW := wrt_all hk.2
          have := hB k (by rw [Nat.testBit_and, Bool.and_eq_true]; exact ⟨hab k hW hk.1, hk.2⟩)
          rw [testBit_withS] at this ⊢
          simp only [Bool.or_eq_true] at this ⊢
          exact this.imp (hba k hW) id
        exact ⟨side s r (fun k hk a => (q.next hc g g' hb hk).2 a) (fun k hk a => (q.wr n k hWn hk).1 a), side r s (fun k hk a => (q.next hc g g' hb hk).1 a) (fun k hk a => (q.wr n k hWn hk).2 a)⟩
      · rw [if_neg h0, if_neg h0, Bool.eq_iff_iff, decide_eq_true_eq, decide_eq_true_eq]
        have side : ∀ (a b : List Nat), (∀ k, (wAllN h).testBit k = true → ((nextN h C a i).testBit k = true → (nextN h C b i).testBit k = true)) → nextN h C b i &&& wrtN h x.1 = 0 → nextN h C a i &&& wrtN h x.1 = 0 := by
          intro a b hab hB
          apply Nat.eq_of_testBit_eq
          intro k
          rw [Nat.zero_testBit, Nat.testBit_and]
          cases hw : (wrtN h x.1).testBit k with
          | false => rw [Bool.and_false]
          | true =>
            cases hn : (nextN h C a i).testBit k with
            | false => rfl
            | true =>
              have : (nextN h C b i &&& wrtN h x.1).testBit k = true := by rw [Nat.testBit_and, hab k (wrt_all hw) hn, hw]; rfl
              rw [hB, Nat.zero_testBit] at this; cases this
        exact ⟨side s r (fun k hk a => (q.next hc g g' hb hk).2 a), side r s (fun k hk a => (q.next hc g g' hb hk).1 a)⟩
  · rw [decide_eq_false hi]; rfl
end
end Go.Proofs.YtecpeegbfeijaaaDoor

namespace Go.Proofs.YtecpeegbfeijaaaDoor
set_option maxRecDepth 100000
open Go.RowKit

/-- Those of a row that write; of each of a row how many of these are ahead of it. -/
def wrOf (h : List TxnV) (r : List Nat) : List Nat := r.filter fun i => (wAllN h).testBit i
def aheadC (h : List TxnV) : List Nat → Nat → Nat
  | [], _ => 0
  | i :: r, k => if k = i then (wrOf h r).length else aheadC h r k
def reachB (C : Nat) : Bool := C.testBit 2 && !C.testBit 4
def keyL (h : List TxnV) (C : Nat) (r : List Nat) : List Nat := (wrOf h r).reverse ++ if reachB C then (lst (lackN (plS r) (wAllN h))).map (aheadC h r) else []
def byteB (l : List Nat) : ByteArray := ⟨(l.map fun n => UInt8.ofNat n).toArray⟩
def keyB (h : List TxnV) (C : Nat) (r : List Nat) : ByteArray := byteB (keyL h C r)
section
variable {h : List TxnV} {C : Nat} {r s : List Nat}
theorem wrOf_cons (i : Nat) (r : List Nat) : wrOf h (i :: r) = if (wAllN h).testBit i then i :: wrOf h r else wrOf h r := by
  unfold wrOf; rw [List.filter_cons]
end
end Go.Proofs.YtecpeegbfeijaaaDoor

namespace Go.Proofs.YtecpeegbfeijaaaDoor
set_option maxRecDepth 100000
open Go.RowKit

/-- The map says who writes. -/
def WrsIs (F : Int → Option Nat) (h : List TxnV) : Prop := ∀ y j, ((F y).getD 0).testBit j = (decide (j < h.length) && decide (y ∈ keysOf (opsAt h j)))
theorem wrsIs_of {h : List TxnV} {K : List KRow} (hc : checkI h = 0) (hK : K.map (·.2) = keysTo h h.length) : WrsIs (wrsTo K K.length) h := fun y j => by
  have h64 := (check_zero hc).1
  have hl := keys_len hK
  rw [wrsTo_bit K j y K.length (by omega) (Nat.le_refl _), hl]
  by_cases hj : j < h.length
  · rw [keys_at hK hj]
  · simp [hj]
/-- The map of writers. -/
theorem ordis_map {w : World} {B b : Nat} {h : List TxnV} (hO : OrdIs w B b h) (hc : checkI h = 0) : ∃ bm m c F, w.cell? ⟨B, 193, none⟩ = some (.map (some bm)) ∧ MapI eS Tryd.prog 3 w bm m F c ∧ AllSet F ∧ WrsIs F h := by
  obtain ⟨bm, m, c, vk, vr, K, R, h1, h2, h3, h4, h5, h6⟩ := hO
  exact ⟨bm, m, c, _, h1.cM, h2, h3, wrsIs_of hc h5⟩
theorem keys_in {h : List TxnV} (hc : checkI h = 0) {j : Nat} (hj : j < h.length) {y : Int} (hy : y ∈ keysOf (opsAt h j)) : 0 ≤ y ∧ y < 64 := by
  obtain ⟨_, _, _, hks⟩ := check_zero hc
  obtain ⟨o, ho, rfl⟩ := List.mem_map.1 hy
  have h3 := (refWrites_mem ho).1
  rw [opsAt_eq hj] at h3
  exact hks _ (List.getElem_mem hj) o h3
end Go.Proofs.YtecpeegbfeijaaaDoor

namespace Go.Proofs.YtecpeegbfeijaaaDoor
set_option maxRecDepth 100000
open Go.RowKit

theorem keyIM : Tryd.prog.underlying 3 = some (.int .i64) := by kernel_rfl
theorem mapISM : Tryd.prog.underlying 69 = some (.map 3 36) := by kernel_rfl
theorem eS_injM : ∀ x y : Nat, eS x = eS y → x = y := fun x y e => by
  unfold eS at e
  injection e with _ e
  exact_mod_cast e
/-- All that write to keys that are no longer to come. -/
def Alls (F : Int → Option Nat) (left : Int → Bool) (s : Nat) : Prop := IsSet s ∧ ∀ j, s.testBit j = true ↔ ∃ x u, InI x ∧ F x = some u ∧ left x = false ∧ u.testBit j = true
theorem Alls.start (F : Int → Option Nat) : Alls F (fun x => (F x).isSome) 0 := ⟨by unfold IsSet; omega, fun j => ⟨fun q => by simp at q, fun ⟨x, u, _, h1, h2, _⟩ => by
  have h2 : (F x).isSome = false := h2
  rw [h1] at h2; cases h2⟩⟩
theorem Alls.step {F : Int → Option Nat} {left : Int → Bool} {s : Nat} (h : Alls F left s) (hA : AllSet F) {x : Int} {u : Nat} (hx : InI x) (hf : F x = some u) : Alls F (fun y => left y && !decide (y = x)) (s ||| u) := by
  have hu := hA x
  rw [hf] at hu
  refine ⟨isSet_or h.1 hu, fun j => ?_⟩
  rw [Nat.testBit_or, Bool.or_eq_true, h.2 j]
  constructor
  · rintro (⟨y, v, h1, h2, h3, h4⟩ | h4)
    · exact ⟨y, v, h1, h2, by show (left y && _) = false; rw [h3]; rfl, h4⟩
    · exact ⟨x, u, hx, hf, by simp, h4⟩
  · rintro ⟨y, v, h1, h2, h3, h4⟩
    by_cases e : y = x
    · subst e; rw [hf] at h2; cases h2; exact .inr h4
    · have h3 : (left y && !decide (y = x)) = false := h3
      rw [decide_eq_false e] at h3
      exact .inl ⟨y, v, h1, h2, by simpa using h3, h4⟩
theorem Alls.done {F : Int → Option Nat} {left : Int → Bool} {s : Nat} {h : List TxnV} (q : Alls F left s) (hc : checkI h = 0) (hW : WrsIs F h) (hl : ∀ x, InI x → left x = false) : s = wAllN h := by
  have h64 := (check_zero hc).1
  apply Nat.eq_of_testBit_eq
  intro j
  rw [Bool.eq_iff_iff, q.2 j, wAll_bit]
  constructor
  · rintro ⟨x, u, h1, h2, h3, h4⟩
    have := hW x j
    rw [h2, Option.getD_some, h4] at this
    have := this.symm
    simp only [Bool.and_eq_true, decide_eq_true_eq] at this
    exact ⟨by omega, this.1, fun e => by rw [e] at this; cases this.2⟩
  · rintro ⟨h1, h2, h3⟩
    obtain ⟨y, l, e⟩ := List.exists_cons_of_ne_nil h3
    have hy : y ∈ keysOf (opsAt h j) := by rw [e]; exact List.mem_cons_self ..
    have := hW y j
    rw [decide_eq_true h2, decide_eq_true hy] at this
    have hyi := keys_in hc h2 hy
    have hI : InI y := WalkArith.wf_i64 (by omega)
    cases hF : F y with
    | none => rw [hF] at this; simp at this
    | some u => exact ⟨y, u, hI, hF, hl y hI, by rw [hF] at this; exact this⟩
set_option maxHeartbeats 4000000 in
theorem mwriters_any {w : World} {B b : Nat} {h : List TxnV} (hO : OrdIs w B b h) (hc : checkI h = 0) :
    Calls Tryd.prog 22 #[.pointer (some ⟨B, 0, none⟩)] w fun e w' => e = .returned (.int .u64 ((wAllN h : Nat) : Int)) ∧ Below w.heap.size w w' := by
  obtain ⟨bm, m, c, F, n0, hM, hA, hW⟩ := ordis_map hO hc
  have HD : Hid (∀ left s, (∀ x, InI x → left x = false) → Alls F left s → s = wAllN h) := Lib.hid (fun left s hl q => q.done hc hW hl)
  have HS : Hid (∀ left s x u, InI x → F x = some u → Alls F left s → Alls F (fun y => left y && !decide (y = x)) (s ||| u)) := Lib.hid (fun left s x u hx hf q => q.step hA hx hf)
  have HU : Hid (∀ x u, F x = some u → IsSet u) := Lib.hid (fun x u hf => by have := hA x; rw [hf] at this; exact this)
  have hbm := hM.lt
  clear hO hc hA hW
  go_enter Tryd.func22, Tryd.ntmps22
  go_wp2_with (first | (at_range; refine wpList_rangeI _ rfl _ 69 rfl 3 36 keyIM mapISM _ _ _ _ rfl hM ?_; intro w0 hR0 hg0 hs0) | go_in)
  try go_frame
  have hb0 := (Below.refl w.heap.size w).grown hg0 (Nat.le_refl _) (fun j hj => by cases hj)
  have hpr : w.heap.size ≤ w.heap.size := Nat.le_refl _
  clear hM hg0 hs0 n0
  go_loopw [3] (fun v wx => ∃ (left : Int → Bool) (cnt s : Nat), v = .int .u64 (s : Int) ∧ Hid (Alls F left s) ∧ RangeI eS Tryd.prog 3 wx bm w.heap.size m F left cnt ∧ Below w.heap.size w wx) (fun _ wx => wx.rangeLeft bm w.heap.size)
  case atStart => exact ⟨_, _, 0, rfl, Lib.hid (Alls.start F), hR0, hb0⟩
  case round =>
    clear hR0 hb0
    obtain ⟨left, cnt, s, rfl, HA, hR, hb⟩ := hrel
    have hs := HA.out.1
    go_wp2_with (first | (at_next; refine wpList_nextI _ rfl _ rfl 3 keyIM eS_injM _ _ _ _ _ _ rfl hR ?_ ?_) | go_in)
    · intro hc0 hl0
      have e := HD.out _ _ hl0 HA.out
      subst e
      clear hR hs HA HD HS HU
      go_wp2_with fail
      go_ret
      exact ⟨rfl, hb⟩
    · intro x u w1 cnt1 hx hlx hfu hR1 hlt1 hg1 hs1 hen
      have hu := HU.out x u hfu
      have HA2 := Lib.hid (HS.out _ _ _ _ hx hfu HA.out)
      have hor := bits_or_u64_nat s u hs hu
      have hb1 := hb.grown hg1 hb.size (fun j hj => by cases hj; exact hpr)
      have hle2 := hR.left_eq
      clear hR hb hg1 hs1 hlx hfu hx hu hs HA
      change Sem.run _ _ _ = Result.ok (Value.tuple #[.int .i64 x, .int .u64 (u : Int)]) _ at hen
      simp only [eS]
      go_wp2_with fail
      go_roundw
      case rel => exact ⟨_, _, _, rfl, HA2, hR1, hb1⟩
      case measure => rw [hR1.left_eq, hle2]; exact hlt1
end Go.Proofs.YtecpeegbfeijaaaDoor
