/- Walks and plain facts that the proof of the statement WholeEnough uses, joined: HisK HisL HisM HisN HisO OpQ TxnI TxnJ TxnK HisP OrdR OrdS OrdX HisQ HisR OrdV OrdZ OrdAC LeaD RelS RelT LeaE RelX RelY LeaF LeaG AxiA AxiB AxiC AxiD AxiE LeaB RelU OrdAA LeaH AxiF PlaA SeaC PlaB AxiG PlaC PlaH. Conditions: each theorem's own. -/
import Derived.Laws.StructEq
import Derived.Deep.RegionHeld3
import Derived.Deep.CutRange
import Derived.Deep.AppendLies
import Derived.Deep.LoopGhost
import Derived.ChangeKeysEq
import Derived.Deep.RegionLaw
import Derived.Great.BuildSlice
import Derived.KernelRfl
import Derived.OwnWalk
import Derived.Laws.CopyOwn
import Derived.Test.YtnhkjehfmbfmmaaGreatDoorPWholeEnough0
import Derived.Test.YtnhkjehfmbfmmaaGreatDoorPWholeEnough1
import Derived.Test.YtnhkjehfmbfmmaaGreatDoorPWholeEnough2
namespace Go.Proofs.YtnhkjehfmbfmmaaGreatDoor
set_option maxHeartbeats 32000000
set_option maxRecDepth 100000
set_option linter.unusedSimpArgs false
set_option linter.unusedVariables false
open Lib (hid)
section
open Go.RowKit
def wrs (h : List TxnV) : List OpV := h.flatMap fun t => t.l.filter (·.wr)
theorem wvH_map (h : List TxnV) : wvH h = (wrs h).map (·.val) := by unfold wvH wrs wv; rw [List.map_flatMap]
theorem wrs_mem {h : List TxnV} {o : OpV} : o ∈ wrs h ↔ ∃ t ∈ h, o ∈ t.l ∧ o.wr = true := by unfold wrs; simp
theorem inj_val : ∀ {L : List OpV}, (L.map (·.val)).Nodup → ∀ {o p : OpV}, o ∈ L → p ∈ L → o.val = p.val → o = p
 | a :: L, hd, o, p, ho, hp, e => by
  rw [List.map_cons, List.nodup_cons] at hd
  rcases List.mem_cons.1 ho with rfl | ho
  ·rcases List.mem_cons.1 hp with rfl | hp
   ·rfl
   ·exact absurd (List.mem_map.2 ⟨p, hp, e.symm⟩) hd.1
  ·rcases List.mem_cons.1 hp with hpe | hp
   ·exact absurd (List.mem_map.2 ⟨o, ho, by rw [e, hpe]⟩) hd.1
   ·exact inj_val hd.2 ho hp e
theorem okW_inj {h : List TxnV} (hw : okW h = true) {o p : OpV} (ho : o ∈ wrs h) (hp : p ∈ wrs h) (e : o.val = p.val) : o = p := by
 unfold okW at hw
 rw [decide_eq_true_eq, wvH_map] at hw
 exact inj_val hw ho hp e
theorem okW_count {h : List TxnV} : okW h = true ↔ ∀ t ∈ h, ∀ o ∈ t.l, o.wr = true → tmH o.val h = 1 := by
 unfold okW tmH
 rw [decide_eq_true_eq]
 constructor
 ·intro hd t ht o ho hw
  rw [List.Nodup.count hd, if_pos]
  rw [wvH_map]
  exact List.mem_map.2 ⟨o, wrs_mem.2 ⟨t, ht, ho, hw⟩, rfl⟩
 ·intro hc
  rw [List.nodup_iff_count]
  intro x
  by_cases hx : x ∈ wvH h
  ·have hx2 := hx
   rw [wvH_map] at hx2
   obtain ⟨o, ho, rfl⟩ := List.mem_map.1 hx2
   obtain ⟨t, ht, ho2, hw⟩ := wrs_mem.1 ho
   exact Nat.le_of_eq (hc t ht o ho2 hw)
  ·rw [List.count_eq_zero_of_not_mem hx]; omega
def Real (h : List TxnV) (F : Int → Option WV) : Prop := ∀ x u, F x = some u → ∃ o ∈ wrs h, o.val = x ∧ o.key = u.key
theorem real_put {h : List TxnV} {F : Int → Option WV} (hF : Real h F) {o : OpV} (ho : o ∈ wrs h) (i : Int) (b : Bool) : Real h (putF F o.val ⟨i, o.key, b⟩) := by
 intro x u hx
 unfold putF at hx
 split at hx
 ·rename_i e
  cases hx
  exact ⟨o, ho, e.symm, rfl⟩
 ·exact hF x u hx
theorem real_add {h : List TxnV} (i : Int) : ∀ (l : List OpV) (F : Int → Option WV), Real h F → (∀ o ∈ l, o.wr = true → o ∈ wrs h) → Real h (addF i F l)
 | [], F, hF, _ => hF
 | a :: l, F, hF, hl => by
  show Real h (addF i (addOne i F a) l)
  refine real_add i l _ ?_ (fun o ho => hl o (List.mem_cons_of_mem _ ho))
  unfold addOne
  split
  ·rename_i hw
   exact real_put hF (hl a List.mem_cons_self hw) i false
  ·exact hF
theorem real_fin {h : List TxnV} (i : Int) : ∀ (l : List OpV) (F : Int → Option WV), Real h F → (∀ o ∈ l, o ∈ wrs h) → Real h (finF i F l)
 | [], F, hF, _ => hF
 | a :: l, F, hF, hl => by
  show Real h (finF i (putF F a.val ⟨i, a.key, true⟩) l)
  exact real_fin i l _ (real_put hF (hl a List.mem_cons_self) i true) (fun o ho => hl o (List.mem_cons_of_mem _ ho))
theorem refWrites_mem {l : List OpV} {o : OpV} (h : o ∈ refWrites l) : o ∈ l ∧ o.wr = true := by
 unfold refWrites at h
 obtain ⟨k, _, hk⟩ := upTo_mem.1 h
 have := lastW_key (l := l) (x := k) hk
 exact ⟨this.2.2, this.2.1⟩
theorem real_wr (h : List TxnV) : ∀ k, k ≤ h.length → Real h (wrTo h k)
 | 0, _ => fun x u hx => by simp [wrTo] at hx
 | k + 1, hk => by
  have hlt : k < h.length := by omega
  rw [wrTo_succ, opsAt_eq hlt]
  have hm : ∀ o ∈ h[k].l, o.wr = true → o ∈ wrs h := fun o ho hw => wrs_mem.2 ⟨_, List.getElem_mem hlt, ho, hw⟩
  exact real_fin _ _ _ (real_add _ _ _ (real_wr h k (by omega)) hm) (fun o ho => hm o (refWrites_mem ho).1 (refWrites_mem ho).2)
theorem dom_add (i : Int) : ∀ (l : List OpV) (F : Int → Option WV) (x : Int), (addF i F l x).isSome = ((F x).isSome || decide (x ∈ wv l))
 | [], F, x => by simp [addF, wv]
 | a :: l, F, x => by
  show (addF i (addOne i F a) l x).isSome = _
  rw [dom_add i l]
  have hc : wv (a :: l) = (if a.wr then [a.val] else []) ++ wv l := by
   unfold wv
   cases hw : a.wr <;> simp [hw]
  rw [hc]
  unfold addOne putF
  cases hw : a.wr
  ·simp
  ·by_cases e : x = a.val <;> simp [e]
theorem dom_fin (i : Int) : ∀ (l : List OpV) (F : Int → Option WV) (x : Int), (finF i F l x).isSome = ((F x).isSome || decide (x ∈ l.map (·.val)))
 | [], F, x => by simp [finF]
 | a :: l, F, x => by
  show (finF i (putF F a.val ⟨i, a.key, true⟩) l x).isSome = _
  rw [dom_fin i l]
  unfold putF
  by_cases e : x = a.val <;> simp [e]
theorem dom_wr (h : List TxnV) : ∀ k, k ≤ h.length → ∀ x, (wrTo h k x).isSome = decide (x ∈ wvH (h.take k))
 | 0, _ => fun x => by simp [wrTo, wvH]
 | k + 1, hk => fun x => by
  have hlt : k < h.length := by omega
  rw [wrTo_succ, opsAt_eq hlt, dom_fin, dom_add, dom_wr h k (by omega), wvH_succ h k hlt]
  have : x ∈ (refWrites h[k].l).map (·.val) → x ∈ wv h[k].l := fun hx => by
   obtain ⟨o, ho, rfl⟩ := List.mem_map.1 hx
   exact wv_mem.2 ⟨o, (refWrites_mem ho).1, (refWrites_mem ho).2, rfl⟩
  rw [Bool.eq_iff_iff]
  simp only [Bool.or_eq_true, decide_eq_true_eq, List.mem_append]
  constructor
  ·rintro ((h1 | h1) | h1)
   ·exact .inl h1
   ·exact .inr h1
   ·exact .inr (this h1)
  ·rintro (h1 | h1)
   ·exact .inl (.inl h1)
   ·exact .inl (.inr h1)
theorem rd_iff {h : List TxnV} (hw : okW h = true) (o : OpV) : rdOk (wrTo h h.length) o = (o.wr || o.val == 0 || !decide (wrI o.key o.val h < 0)) := by
 unfold rdOk
 cases hv : (o.wr || o.val == 0)
 ·rw [Bool.false_or, Bool.false_or]
  have hd := dom_wr h h.length (Nat.le_refl _) o.val
  rw [List.take_length] at hd
  cases hF : wrTo h h.length o.val with
  | none =>
   rw [hF] at hd
   simp only
   symm
   rw [Bool.not_eq_false', decide_eq_true_eq, wrI_nonneg]
   intro t ht p hp
   unfold isWr
   cases hpw : p.wr
   ·rfl
   ·have hne : ¬ p.val = o.val := fun e => by
     have : o.val ∈ wvH h := by rw [wvH_map]; exact List.mem_map.2 ⟨p, wrs_mem.2 ⟨t, ht, hp, hpw⟩, e⟩
     simp [this] at hd
    simp [hne]
  | some u =>
   obtain ⟨p, hp, e1, e2⟩ := real_wr h h.length (Nat.le_refl _) _ _ hF
   simp only
   rw [Bool.eq_iff_iff, beq_iff_eq, Bool.not_eq_true', decide_eq_false_iff_not, wrI_nonneg]
   constructor
   ·intro e hn
    obtain ⟨t, ht, hp2, hpw⟩ := wrs_mem.1 hp
    have := hn t ht p hp2
    unfold isWr at this
    simp [hpw, e1, e2, e] at this
   ·intro hn
    have : ∃ q ∈ wrs h, q.key = o.key ∧ q.val = o.val := Classical.byContradiction fun hno => hn fun t ht q hq => by
     unfold isWr
     cases hqw : q.wr
     ·rfl
     ·cases hqk : q.key == o.key
      ·rfl
      ·cases hqv : q.val == o.val
       ·rfl
       ·exact absurd ⟨q, wrs_mem.2 ⟨t, ht, hq, hqw⟩, by simpa using hqk, by simpa using hqv⟩ hno
    obtain ⟨q, hq, e3, e4⟩ := this
    have := okW_inj hw hp hq (by rw [e1, e4])
    subst this
    rw [← e2, e3]
 ·rfl
def Apart (a t : TxnV) : Prop := a.b ≠ t.b ∧ a.b ≠ t.c ∧ a.c ≠ t.b ∧ a.c ≠ t.c
theorem apartB_iff (a t : TxnV) : apartB a t = true ↔ Apart a t ∧ ¬ (a.s = t.s ∧ t.b < a.c) := by
 unfold apartB Apart
 simp only [Bool.and_eq_true, bne_iff_ne, Bool.not_eq_true', Bool.and_eq_false_iff, beq_eq_false_iff_ne, decide_eq_false_iff_not, Classical.not_and_iff_not_or_not, ne_eq]
theorem stL_mem {h : List TxnV} {x : Int} : x ∈ stL h ↔ ∃ t ∈ h, x = t.b ∨ x = t.c := by unfold stL; simp
theorem st_take {h : List TxnV} {k : Nat} (hd : (stL (h.take k)).Nodup) : ∀ i j, ∀ hj : j < k, ∀ hk : k ≤ h.length, ∀ hi : i < j, Apart (h[i]'(by omega)) (h[j]'(by omega)) := by
 intro i j hj hk hi
 have e : stL (h.take k) = stL (h.take (j + 1)) ++ stL ((h.take k).drop (j + 1)) := by
  unfold stL
  rw [← List.flatMap_append]
  congr 1
  rw [show h.take (j + 1) = (h.take k).take (j + 1) from by rw [List.take_take]; congr 1; omega]
  exact (List.take_append_drop _ _).symm
 rw [e] at hd
 have h1 := (List.nodup_append.1 hd).1
 rw [stL_succ h j (by omega)] at h1
 have h2 := (List.nodup_append.1 h1).2.2
 have mem : h[i]'(by omega) ∈ h.take j := by rw [List.mem_take_iff_getElem]; exact ⟨i, by omega, rfl⟩
 have mb : (h[i]'(by omega)).b ∈ stL (h.take j) := stL_mem.2 ⟨_, mem, .inl rfl⟩
 have mc : (h[i]'(by omega)).c ∈ stL (h.take j) := stL_mem.2 ⟨_, mem, .inr rfl⟩
 exact ⟨h2 _ mb _ (by simp), h2 _ mb _ (by simp), h2 _ mc _ (by simp), h2 _ mc _ (by simp)⟩
theorem st_nodup {h : List TxnV} (hbc : ∀ t ∈ h, t.b < t.c) (ha : ∀ i j, ∀ hj : j < h.length, ∀ hi : i < j, Apart (h[i]'(by omega)) h[j]) : ∀ k, k ≤ h.length → (stL (h.take k)).Nodup
 | 0, _ => by simp [stL]
 | k + 1, hk => by
  have hlt : k < h.length := by omega
  rw [stL_succ h k hlt, List.nodup_append]
  refine ⟨st_nodup hbc ha k (by omega), ?_, ?_⟩
  ·have := hbc _ (List.getElem_mem hlt)
   simp; omega
  ·intro x hx y hy
   obtain ⟨t, ht, hxt⟩ := stL_mem.1 hx
   rw [List.mem_take_iff_getElem] at ht
   obtain ⟨i, hi, rfl⟩ := ht
   have hA := ha i k hlt (by omega)
   unfold Apart at hA
   simp at hy
   rcases hxt with rfl | rfl <;> rcases hy with rfl | rfl
   ·exact hA.1
   ·exact hA.2.1
   ·exact hA.2.2.1
   ·exact hA.2.2.2
end

section
open Go.RowKit
theorem endF_find (h : List TxnV) (s : Int) : ∀ k, k ≤ h.length → match endF (h.take k) s with
  | none => ∀ j, ∀ hj : j < k, ∀ hk : k ≤ h.length, (h[j]'(by omega)).s ≠ s
  | some e => ∃ m, ∃ hm : m < k, ∃ hk : k ≤ h.length, (h[m]'(by omega)).s = s ∧ (h[m]'(by omega)).c = e ∧ ∀ j, ∀ hj : j < k, m < j → (h[j]'(by omega)).s ≠ s
 | 0, _ => by simp [endF]
 | k + 1, hk => by
  have hlt : k < h.length := by omega
  have ih := endF_find h s k (by omega)
  rw [endF_succ h k hlt]
  unfold putF
  by_cases e : s = h[k].s
  ·rw [if_pos e]
   exact ⟨k, by omega, hk, e.symm, rfl, fun j hj hmj => by omega⟩
  ·rw [if_neg e]
   cases hF : endF (h.take k) s with
   | none =>
    rw [hF] at ih
    intro j hj hk2
    rcases Nat.lt_or_eq_of_le (Nat.le_of_lt_succ hj) with h1 | rfl
    ·exact ih j h1 (by omega)
    ·exact fun e2 => e e2.symm
   | some c =>
    rw [hF] at ih
    obtain ⟨m, hm, hk2, h1, h2, h3⟩ := ih
    refine ⟨m, by omega, hk, h1, h2, fun j hj hmj => ?_⟩
    rcases Nat.lt_or_eq_of_le (Nat.le_of_lt_succ hj) with h4 | rfl
    ·exact h3 j h4 hmj
    ·exact fun e2 => e e2.symm
theorem ses_all {h : List TxnV} (hs : sesB h = true) (hbc : ∀ t ∈ h, t.b < t.c) : ∀ j, ∀ hj : j < h.length, ∀ i, ∀ hi : i < j, (h[i]'(by omega)).s = h[j].s → (h[i]'(by omega)).c < h[j].b := by
 intro j
 induction j using Nat.strongRecOn with
 | ind j ih =>
  intro hj i hi e
  have h1 := List.all_eq_true.1 hs j (List.mem_range.2 hj)
  rw [sesOk_at hj] at h1
  have h2 := endF_find h h[j].s j (by omega)
  cases hF : endF (h.take j) h[j].s with
  | none =>
   rw [hF] at h2
   exact absurd e (h2 i hi (by omega))
  | some c =>
   rw [hF] at h1 h2
   obtain ⟨m, hm, hk2, e1, e2, e3⟩ := h2
   simp only [decide_eq_true_eq] at h1
   rcases Nat.lt_trichotomy i m with h4 | rfl | h4
   ·have h5 := ih m hm (by omega) i h4 (by rw [e1]; exact e)
    have h6 := hbc _ (List.getElem_mem (show m < h.length by omega))
    omega
   ·omega
   ·exact absurd e (e3 i hi h4)
theorem ses_mk {h : List TxnV} (ha : ∀ j, ∀ hj : j < h.length, ∀ i, ∀ hi : i < j, (h[i]'(by omega)).s = h[j].s → (h[i]'(by omega)).c < h[j].b) : sesB h = true := by
 refine sesB_all fun j hj => ?_
 rw [sesOk_at hj]
 have h2 := endF_find h h[j].s j (by omega)
 cases hF : endF (h.take j) h[j].s with
 | none => rfl
 | some c =>
  rw [hF] at h2
  obtain ⟨m, hm, hk2, e1, e2, e3⟩ := h2
  simp only [decide_eq_true_eq]
  rw [← e2]; exact ha j hj m hm e1
theorem mayT_bc {t : TxnV} (h : mayT t.s t.b t.c t.l = true) : t.b < t.c := by
 unfold mayT at h
 simp only [Bool.and_eq_true, decide_eq_true_eq] at h
 exact h.1.2.2.2.1
theorem right_ref (h : List TxnV) : rightB h = mayRef h := by
 rw [Bool.eq_iff_iff]
 constructor
 ·intro hr
  unfold rightB at hr
  simp only [Bool.and_eq_true] at hr
  obtain ⟨hp, hv, hst, hse⟩ := hr
  unfold valuesB at hv
  simp only [Bool.and_eq_true] at hv
  obtain ⟨hw, hro⟩ := hv
  have hP : ∀ t ∈ h, mayT t.s t.b t.c t.l = true := List.all_eq_true.1 hp
  have hbc : ∀ t ∈ h, t.b < t.c := fun t ht => mayT_bc (hP t ht)
  refine mayRef_yes fun k hk => ?_
  unfold rowR
  rw [hP _ (List.getElem_mem hk), Bool.true_and, Bool.and_eq_true]
  constructor
  ·rw [List.all_eq_true]
   intro a ha
   rw [List.mem_take_iff_getElem] at ha
   obtain ⟨i, hi, rfl⟩ := ha
   rw [apartB_iff]
   unfold stampsB at hst
   rw [decide_eq_true_eq, ← List.take_length (l := h)] at hst
   refine ⟨st_take hst i k hk (Nat.le_refl _) (by omega), fun hh => ?_⟩
   have := ses_all hse hbc k hk i (by omega) hh.1
   omega
  ·rw [List.all_eq_true]
   intro o ho
   unfold opR
   cases how : o.wr
   ·have h1 := List.all_eq_true.1 (List.all_eq_true.1 hro _ (List.getElem_mem hk)) o ho
    rw [rd_iff hw o, how] at h1
    simpa using h1
   ·simp only [if_true, beq_iff_eq]
    exact okW_count.1 hw _ (List.getElem_mem hk) o ho how
 ·intro hm
  have hrow : ∀ k, ∀ hk : k < h.length, rowR h k h[k] = true := fun k hk => by
   have := List.all_eq_true.1 hm k (List.mem_range.2 hk)
   rwa [List.getElem?_eq_getElem hk] at this
  have hP : ∀ t ∈ h, mayT t.s t.b t.c t.l = true := fun t ht => by
   obtain ⟨k, hk, rfl⟩ := List.getElem_of_mem ht
   have := hrow k hk
   unfold rowR at this
   simp only [Bool.and_eq_true] at this
   exact this.1
  have hbc : ∀ t ∈ h, t.b < t.c := fun t ht => mayT_bc (hP t ht)
  have hA : ∀ i j, ∀ hj : j < h.length, ∀ hi : i < j, Apart (h[i]'(by omega)) h[j] ∧ ¬ ((h[i]'(by omega)).s = h[j].s ∧ h[j].b < (h[i]'(by omega)).c) := fun i j hj hi => by
   have := hrow j hj
   unfold rowR at this
   simp only [Bool.and_eq_true] at this
   exact (apartB_iff _ _).1 (List.all_eq_true.1 this.2.1 _ (by rw [List.mem_take_iff_getElem]; exact ⟨i, by omega, rfl⟩))
  have hO : ∀ t ∈ h, ∀ o ∈ t.l, opR h o = true := fun t ht => by
   obtain ⟨k, hk, rfl⟩ := List.getElem_of_mem ht
   have := hrow k hk
   unfold rowR at this
   simp only [Bool.and_eq_true] at this
   exact List.all_eq_true.1 this.2.2
  have hw : okW h = true := okW_count.2 fun t ht o ho how => by
   have := hO t ht o ho
   unfold opR at this
   rw [how] at this
   simpa using this
  unfold rightB
  simp only [Bool.and_eq_true]
  refine ⟨List.all_eq_true.2 hP, ?_, ?_, ?_⟩
  ·unfold valuesB
   rw [hw, Bool.true_and, List.all_eq_true]
   intro t ht
   unfold rowOk
   rw [List.all_eq_true]
   intro o ho
   rw [rd_iff hw o]
   have := hO t ht o ho
   unfold opR at this
   cases how : o.wr
   ·rw [how] at this
    simpa using this
   ·rfl
  ·unfold stampsB
   rw [decide_eq_true_eq]
   have := st_nodup hbc (fun i j hj hi => (hA i j hj hi).1) h.length (Nat.le_refl _)
   rwa [List.take_length] at this
  ·refine ses_mk fun j hj i hi e => ?_
   obtain ⟨h1, h2⟩ := hA i j hj hi
   have h3 : ¬ h[j].b < (h[i]'(by omega)).c := fun hh => h2 ⟨e, hh⟩
   have h4 := h1.2.2.1
   omega
def checkR (h : List TxnV) : Int := if 64 < h.length ∨ 1024 < opsN h then 3 else if mayRef h then 0 else 2
theorem check_ref (h : List TxnV) : checkI h = checkR h := by unfold checkI checkR; rw [right_ref]
end

section
open Go.RowKit
theorem rcheck_any (va : Value) (h : List TxnV) (w : World) (hT : Txns w va h) (hsh : Short h) :
  Calls Tryz.prog 11 #[va] w fun e w' => e = .returned (.int .i64 (checkR h)) ∧ Below w.heap.size w w' := by
 obtain ⟨ao, cap, rfl, hal⟩ := hT.form
 by_cases hbig : 64 < h.length
 ·have hbig' : (64 : Int) < (h.length : Int) := by omega
  have H : Hid ((3 : Int) = checkR h) := hid (by unfold checkR; rw [if_pos (.inl hbig)])
  go_enter Tryz.func11, Tryz.ntmps11
  go_wp2_with fail
  go_ret
  exact ⟨ret_int H.out, Below.refl _ _⟩
 have hbf : decide ((64 : Int) < (h.length : Int)) = false := by simp; omega
 have hle := opsN_short h hsh
 have CO := hid (count_any _ h w hT (by omega))
 have HT := hid (fun wx (hx : Below w.heap.size w wx) => hT.below hx)
 clear hT hsh
 go_enter Tryz.func11, Tryz.ntmps11
 go_wp2_with fail
 refine (CO.out).mono ?_
 rintro e w1 ⟨rfl, hb1⟩
 clear CO
 by_cases hov : 1024 < opsN h
 ·have hov' : (1024 : Int) < (opsN h : Int) := by omega
  have H : Hid ((3 : Int) = checkR h) := hid (by unfold checkR; rw [if_pos (.inr hov)])
  go_wp2_with fail
  go_ret
  exact ⟨ret_int H.out, hb1⟩
 have hov' : decide ((1024 : Int) < (opsN h : Int)) = false := by simp; omega
 have HCK : Hid (checkR h = if mayRef h then 0 else 2) := hid (by unfold checkR; rw [if_neg (by omega)])
 have CM := hid (rmay_any _ h w1 (HT.out _ hb1) (by omega))
 generalize mayRef h = q at *
 go_wp2_with fail
 refine (CM.out).mono ?_
 rintro e w2 ⟨rfl, hb2⟩
 have hb3 := below_then hb1 hb2
 clear CM
 cases q
 ·have H : Hid ((2 : Int) = checkR h) := hid (by rw [HCK.out]; rfl)
  go_wp2_with fail
  go_ret
  exact ⟨ret_int H.out, hb3⟩
 ·have H : Hid ((0 : Int) = checkR h) := hid (by rw [HCK.out]; rfl)
  go_wp2_with fail
  go_ret
  exact ⟨ret_int H.out, hb3⟩
end

section
open Go.RowKit
instance : DecidableEq OpV := fun a b => by
 obtain ⟨a1, a2, a3⟩ := a
 obtain ⟨b1, b2, b3⟩ := b
 exact if h : a1 = b1 ∧ a2 = b2 ∧ a3 = b3 then .isTrue (by obtain ⟨rfl, rfl, rfl⟩ := h; rfl) else .isFalse (fun e => by cases e; exact h ⟨rfl, rfl, rfl⟩)
end

section
open Go.RowKit
def vOf (l : List OpV) (k : Int) : Int := (((refWrites l).find? fun o => o.key == k).map (·.val)).getD 0
theorem wv_cons (a : OpV) (l : List OpV) : wv (a :: l) = (if a.wr then [a.val] else []) ++ wv l := by
 unfold wv; cases h : a.wr <;> simp [h]
theorem addF_cons (i : Int) (F : Int → Option WV) (a : OpV) (l : List OpV) : addF i F (a :: l) = addF i (addOne i F a) l := rfl
theorem finF_cons (i : Int) (F : Int → Option WV) (a : OpV) (l : List OpV) : finF i F (a :: l) = finF i (putF F a.val ⟨i, a.key, true⟩) l := rfl
theorem addF_out (i : Int) {x : Int} : ∀ (l : List OpV) (F : Int → Option WV), ¬ x ∈ wv l → addF i F l x = F x
 | [], _, _ => rfl
 | a :: l, F, h => by
  rw [wv_cons] at h
  rw [addF_cons, addF_out i l _ (fun hh => h (List.mem_append_right _ hh))]
  unfold addOne
  cases hw : a.wr
  ·rfl
  ·simp only [if_true]
   exact putF_other _ _ (fun e => h (by rw [hw, e]; simp))
theorem addF_in (i : Int) {o : OpV} (ho : o.wr = true) : ∀ (l : List OpV) (F : Int → Option WV), (wv l).Nodup → o ∈ l → addF i F l o.val = some ⟨i, o.key, false⟩
 | a :: l, F, hn, hin => by
  rw [wv_cons] at hn
  rw [addF_cons]
  rcases List.mem_cons.1 hin with rfl | h
  ·rw [ho] at hn
   simp only [if_true, List.singleton_append, List.nodup_cons] at hn
   rw [addF_out i l _ hn.1]
   unfold addOne
   rw [ho]
   simp only [if_true]
   exact putF_same _ _ _
  ·exact addF_in i ho l _ (List.nodup_append.1 hn).2.1 h
theorem finF_out (i : Int) {x : Int} : ∀ (R : List OpV) (F : Int → Option WV), (∀ o ∈ R, o.val ≠ x) → finF i F R x = F x
 | [], _, _ => rfl
 | a :: R, F, h => by
  rw [finF_cons, finF_out i R _ (fun o ho => h o (List.mem_cons_of_mem _ ho))]
  exact putF_other _ _ (fun e => h a List.mem_cons_self e.symm)
theorem finF_in (i : Int) {x k : Int} : ∀ (R : List OpV) (F : Int → Option WV), (∀ o ∈ R, o.val = x → o.key = k) → (∃ o ∈ R, o.val = x) → finF i F R x = some ⟨i, k, true⟩
 | a :: R, F, h, hex => by
  rw [finF_cons]
  by_cases hr : ∃ o ∈ R, o.val = x
  ·exact finF_in i R _ (fun o ho => h o (List.mem_cons_of_mem _ ho)) hr
  ·have hn : ∀ o ∈ R, o.val ≠ x := fun o ho e => hr ⟨o, ho, e⟩
   obtain ⟨o, ho, e⟩ := hex
   rcases List.mem_cons.1 ho with rfl | h1
   ·rw [finF_out i R _ hn, e, putF_same, h _ List.mem_cons_self e]
   ·exact (hn o h1 e).elim
theorem wv_inj {l : List OpV} (hn : (wv l).Nodup) {o p : OpV} (ho : o ∈ l) (hp : p ∈ l) (wo : o.wr = true) (wp : p.wr = true) (e : o.val = p.val) : o.key = p.key := by
 have h1 := addF_in 0 wo l (fun _ => none) hn ho
 have h2 := addF_in 0 wp l (fun _ => none) hn hp
 rw [e, h2] at h1
 have := Option.some.inj h1
 exact (congrArg WV.key this).symm
theorem lastW_some (l : List OpV) {o : OpV} (wo : o.wr = true) : ∀ k, k ≤ l.length → o ∈ l.take k → (lastW (l.take k) o.key).isSome = true
 | 0, _, h => by simp at h
 | k + 1, hk, h => by
  have hlt : k < l.length := by omega
  rw [take_snoc l k hlt] at h ⊢
  rw [lastW_snoc]
  cases hw : l[k].wr with
  | false =>
   simp only [Bool.false_eq_true, if_false]
   rcases List.mem_append.1 h with h1 | h1
   ·exact lastW_some l wo k (by omega) h1
   ·simp at h1; rw [h1, hw] at wo; cases wo
  | true =>
   simp only [if_true]
   by_cases e : o.key = l[k].key
   ·rw [e, putF_same]; rfl
   ·rw [putF_other _ _ e]
    rcases List.mem_append.1 h with h1 | h1
    ·exact lastW_some l wo k (by omega) h1
    ·simp at h1; rw [h1] at e; exact (e rfl).elim
theorem turn_at (i : Int) (F : Int → Option WV) {l : List OpV} (hk : keysIn l) (hn : (wv l).Nodup) {o : OpV} (ho : o ∈ l) (wo : o.wr = true) :
  finF i (addF i F l) (refWrites l) o.val = some ⟨i, o.key, vOf l o.key == o.val⟩ := by
 have hR := refWrites_rise hk
 have hmem : ∀ p ∈ refWrites l, p ∈ l ∧ p.wr = true := fun p hp => refWrites_mem hp
 have huq : ∀ p ∈ refWrites l, ∀ q ∈ refWrites l, p.key = q.key → p = q := fun p hp q hq e => by
  have h1 := ((hR.2 p).1 hp).1
  have h2 := ((hR.2 q).1 hq).1
  rw [e, h2] at h1
  exact (Option.some.inj h1).symm
 have hex : ∃ p ∈ refWrites l, p.key = o.key := by
  have h1 := lastW_some l wo l.length (Nat.le_refl _) (by rw [List.take_length]; exact ho)
  rw [List.take_length] at h1
  obtain ⟨p, hp⟩ := Option.isSome_iff_exists.1 h1
  have h2 := lastW_key hp
  exact ⟨p, (hR.2 p).2 ⟨by rw [h2.1]; exact hp, h2.2.1⟩, h2.1⟩
 obtain ⟨p, hp, hpk⟩ := hex
 have hv : vOf l o.key = p.val := by
  unfold vOf
  cases hf : (refWrites l).find? (fun q => q.key == o.key) with
  | none => have := List.find?_eq_none.1 hf p hp; simp [hpk] at this
  | some q =>
   have h1 := List.find?_some hf
   have h2 := List.mem_of_find?_eq_some hf
   have : q = p := huq q h2 p hp (by simpa [hpk] using h1)
   rw [this]; rfl
 by_cases he : p.val = o.val
 ·rw [finF_in (k := o.key) i _ _ (fun q hq e => wv_inj hn (hmem q hq).1 ho (hmem q hq).2 wo e) ⟨p, hp, he⟩, hv, he]
  simp
 ·rw [finF_out i _ _ (fun q hq e => he ?_), addF_in i wo l F hn ho, hv]
  ·simp [he]
  ·have := wv_inj hn (hmem q hq).1 ho (hmem q hq).2 wo e
   rw [← huq q hq p hp (by rw [this, hpk])]; exact e
theorem wrTo_at {h : List TxnV} (hk : ∀ t ∈ h, keysIn t.l) : ∀ n, n ≤ h.length → (wvH (h.take n)).Nodup → ∀ i, ∀ hi : i < h.length, i < n → ∀ o ∈ h[i].l, o.wr = true → wrTo h n o.val = some ⟨i, o.key, vOf h[i].l o.key == o.val⟩
 | 0, _, _, i, _, hin, _, _, _ => by omega
 | n + 1, hn, hd, i, hi, hin, o, ho, wo => by
  have hlt : n < h.length := by omega
  rw [wvH_succ h n hlt] at hd
  have hd3 := List.nodup_append.1 hd
  rw [wrTo_succ, opsAt_eq hlt]
  by_cases e : i = n
  ·subst e
   exact turn_at _ _ (hk _ (List.getElem_mem _)) hd3.2.1 ho wo
  ·have hin2 : o.val ∈ wvH (h.take n) := by
    unfold wvH
    rw [List.mem_flatMap]
    refine ⟨h[i], ?_, wv_mem.2 ⟨o, ho, wo, rfl⟩⟩
    rw [List.mem_take_iff_getElem]
    exact ⟨i, by omega, rfl⟩
   have hout : ¬ o.val ∈ wv h[n].l := fun hh => hd3.2.2 _ hin2 _ hh rfl
   have hR := refWrites_rise (hk _ (List.getElem_mem hlt))
   rw [finF_out _ _ _ (fun q hq e2 => hout (by rw [← e2]; exact wv_mem.2 ⟨q, (refWrites_mem hq).1, (refWrites_mem hq).2, rfl⟩)), addF_out _ _ _ hout]
   exact wrTo_at hk n (by omega) hd3.1 i hi (by omega) o ho wo
end

section
open Go.RowKit
def fromR (h : List TxnV) (o : OpV) : Int := if o.val = 0 then -1 else wrI o.key o.val h
def rdR (h : List TxnV) (i : Int) (l : List OpV) : List (Int × Int) := (l.filter fun o => fromR h o != i).map fun o => (o.key, fromR h o)
end

section
open Go.RowKit
def wrsR (h : List TxnV) (i : Nat) (key : Int) : Bool := vOf (opsAt h i) key != 0
def rivR (h : List TxnV) (i k : Nat) : Bool := (List.range 64).any fun n => wrsR h i (n : Int) && wrsR h k (n : Int)
end

section
open Go.RowKit
theorem may_parts {h : List TxnV} (hm : mayRef h = true) : okW h = true ∧ ∀ t ∈ h, keysIn t.l := by
 rw [← right_ref] at hm
 unfold rightB valuesB at hm
 simp only [Bool.and_eq_true] at hm
 exact ⟨hm.2.1.1, parts_keys hm.1⟩
end

section
open Go.RowKit
theorem wrI_at {key x : Int} {h : List TxnV} (hn : ¬ wrI key x h < 0) : ∃ i, ∃ hi : i < h.length, wrI key x h = i ∧ ∃ o ∈ h[i].l, isWr key x o = true := by
 unfold wrI at hn ⊢
 cases hf : h.findIdx? (fun t => t.l.any (isWr key x)) with
 | none => rw [hf] at hn; exact absurd (by decide) hn
 | some i =>
  rw [List.findIdx?_eq_some_iff_getElem] at hf
  obtain ⟨hi, h1, _⟩ := hf
  obtain ⟨o, ho, hw⟩ := List.any_eq_true.1 h1
  exact ⟨i, hi, rfl, o, ho, hw⟩
theorem isWr_iff {key x : Int} {o : OpV} : isWr key x o = true ↔ o.wr = true ∧ o.key = key ∧ o.val = x := by unfold isWr; simp
theorem may_rows {h : List TxnV} (hm : mayRef h = true) : ∀ k, ∀ hk : k < h.length, rowR h k h[k] = true := fun k hk => by
 have := List.all_eq_true.1 hm k (List.mem_range.2 hk)
 rwa [List.getElem?_eq_getElem hk] at this
theorem rowR_iff {h : List TxnV} {k : Nat} {t : TxnV} : rowR h k t = true ↔ mayT t.s t.b t.c t.l = true ∧ (h.take k).all (fun a => apartB a t) = true ∧ ∀ o ∈ t.l, opR h o = true := by
 unfold rowR
 rw [Bool.and_eq_true, Bool.and_eq_true, List.all_eq_true (p := opR h)]
theorem may_wr {h : List TxnV} (hm : mayRef h = true) {i : Nat} (hi : i < h.length) {o : OpV} (ho : o ∈ h[i].l) (wo : o.wr = true) : wrTo h h.length o.val = some ⟨i, o.key, vOf h[i].l o.key == o.val⟩ := by
 obtain ⟨hw, hk⟩ := may_parts hm
 exact wrTo_at hk h.length (Nat.le_refl _) (by rw [List.take_length]; unfold okW at hw; simpa using hw) i hi hi o ho wo
theorem reads_F {h : List TxnV} (hm : mayRef h = true) {k : Nat} (hk : k < h.length) {o : OpV} (ho : o ∈ h[k].l) (wo : o.wr = false) :
  (o.val = 0 ∧ wrTo h h.length 0 = none) ∨ (o.val ≠ 0 ∧ ∃ u, wrTo h h.length o.val = some u ∧ u.key = o.key ∧ wrI o.key o.val h = u.i) := by
 by_cases h0 : o.val = 0
 ·refine .inl ⟨h0, ?_⟩
  cases hF : wrTo h h.length 0 with
  | none => rfl
  | some u =>
   obtain ⟨p, hp, hpv, _⟩ := real_wr h h.length (Nat.le_refl _) 0 u hF
   obtain ⟨t, ht, hpt, hpw⟩ := wrs_mem.1 hp
   obtain ⟨i, hi, rfl⟩ := List.getElem_of_mem ht
   have h1 := (rowR_iff.1 (may_rows hm i hi)).1
   unfold mayT at h1
   simp only [Bool.and_eq_true] at h1
   have h2 := (mayO_iff p).1 (List.all_eq_true.1 h1.2 p hpt)
   exact absurd hpv (h2.2.2 hpw)
 ·refine .inr ⟨h0, ?_⟩
  have h1 := (rowR_iff.1 (may_rows hm k hk)).2.2 o ho
  unfold opR at h1
  rw [wo] at h1
  have h2 : ¬ wrI o.key o.val h < 0 := by simpa [h0] using h1
  obtain ⟨i, hi, he, p, hp, hpw⟩ := wrI_at h2
  obtain ⟨q1, q2, q3⟩ := isWr_iff.1 hpw
  have h3 := may_wr hm hi hp q1
  rw [q3, q2] at h3
  exact ⟨_, h3, rfl, he⟩
end

section
open Go.RowKit
theorem may_of {h : List TxnV} (hc : checkI h = 0) : mayRef h = true := by
 rw [← right_ref]
 unfold checkI at hc
 split at hc
 ·cases hc
 ·cases hr : rightB h with
  | true => rfl
  | false => rw [hr] at hc; cases hc
theorem from_same {h : List TxnV} (hc : checkI h = 0) {k : Nat} (hk : k < h.length) {o : OpV} (ho : o ∈ h[k].l) (wo : o.wr = false) : fromO (wrTo h h.length) o.val = fromR h o := by
 unfold fromO fromR
 rcases reads_F (may_of hc) hk ho wo with ⟨h0, hn⟩ | ⟨h0, u, hu, _, hw⟩
 ·rw [if_pos h0, h0, hn]; rfl
 ·rw [if_neg h0, hu, hw]; rfl
theorem rd_congr {h : List TxnV} {F : Int → Option WV} {i : Int} : ∀ (l : List OpV), (∀ o ∈ l, fromO F o.val = fromR h o) → rdFr F i l = rdR h i l
 | [], _ => rfl
 | a :: l, hl => by
  have ih := rd_congr (i := i) l (fun o ho => hl o (List.mem_cons_of_mem _ ho))
  have ha := hl a List.mem_cons_self
  unfold rdFr rdR at *
  rw [List.filter_cons, List.filter_cons, ha]
  split
  ·rw [List.map_cons, List.map_cons, ih, ha]
  ·exact ih
theorem refReads_in {l : List OpV} {o : OpV} (ho : o ∈ refReads l) : o ∈ l ∧ o.wr = false := by
 obtain ⟨k, _, hk⟩ := upTo_mem.1 ho
 obtain ⟨h1, h2⟩ := rdK_some.1 hk
 exact ⟨(firstO_key h1).2, h2⟩
theorem reads_same {h : List TxnV} (hc : checkI h = 0) {k : Nat} (hk : k < h.length) : readsOf h k = rdR h k (refReads h[k].l) := by
 unfold readsOf
 rw [opsAt_eq hk]
 refine rd_congr _ fun o ho => ?_
 obtain ⟨h1, h2⟩ := refReads_in ho
 exact from_same hc hk h1 h2
end

section
open Go.RowKit
theorem rivS_bit (F : Int → Option Nat) (j : Nat) : ∀ (xs : List Int) (s : Nat), (xs.foldl (fun s x => s ||| (F x).getD 0) s).testBit j = (s.testBit j || xs.any fun x => ((F x).getD 0).testBit j)
 | [], s => by simp
 | x :: xs, s => by
  rw [List.foldl_cons, rivS_bit F j xs, Nat.testBit_or, List.any_cons, Bool.or_assoc]
theorem wrsRow_bit (i : Nat) (hi : i < 64) (j : Nat) (y : Int) : ∀ (xs : List Int) (F : Int → Option Nat), ((wrsRow i F xs y).getD 0).testBit j = (((F y).getD 0).testBit j || (decide (y ∈ xs) && decide (i = j)))
 | [], F => by simp [wrsRow]
 | x :: xs, F => by
  have ih := wrsRow_bit i hi j y xs (putF F x (withS ((F x).getD 0) i))
  show ((wrsRow i (putF F x (withS ((F x).getD 0) i)) xs y).getD 0).testBit j = _
  rw [ih]
  by_cases e : y = x
  ·subst e
   rw [putF_same, Option.getD_some, testBit_withS, Int.toNat_natCast]
   have : decide (0 ≤ (i : Int) ∧ (i : Int) < 64) = true := by simp; omega
   rw [this]
   cases ((F y).getD 0).testBit j <;> by_cases h : i = j <;> simp [h]
  ·rw [putF_other F _ e]
   simp [e]
theorem wrsTo_bit (K : List KRow) (j : Nat) (y : Int) : ∀ m, m ≤ 64 → m ≤ K.length → ((wrsTo K m y).getD 0).testBit j = (decide (j < m) && decide (y ∈ ((K[j]?).map (·.2)).getD []))
 | 0, _, _ => by simp [wrsTo]
 | m + 1, h64, hm => by
  have ih := wrsTo_bit K j y m (by omega) (by omega)
  have hlt : m < K.length := by omega
  rw [wrsTo_succ hlt, wrsRow_bit m (by omega) j y, ih]
  by_cases e : m = j
  ·subst e
   simp [List.getElem?_eq_getElem hlt]
  ·by_cases h : j < m
   ·have h2 : j < m + 1 := by omega
    simp [h, h2, e]
   ·have h2 : ¬ j < m + 1 := by omega
    simp [h, h2, e]
theorem keysOf_iff {h : List TxnV} (hc : checkI h = 0) {i : Nat} (hi : i < h.length) (y : Int) : y ∈ keysOf (opsAt h i) ↔ wrsR h i y = true := by
 unfold keysOf wrsR vOf
 generalize hl : opsAt h i = l
 rw [opsAt_eq hi] at hl
 constructor
 ·intro hy
  obtain ⟨o, ho, rfl⟩ := List.mem_map.1 hy
  cases hf : (refWrites l).find? (fun p => p.key == o.key) with
  | none => have := List.find?_eq_none.1 hf o ho; simp at this
  | some p =>
   have hp := List.mem_of_find?_eq_some hf
   obtain ⟨h1, h2⟩ := refWrites_mem hp
   have h3 := (rowR_iff.1 (may_rows (may_of hc) i hi)).1
   unfold mayT at h3
   simp only [Bool.and_eq_true] at h3
   have h4 := (mayO_iff p).1 (List.all_eq_true.1 h3.2 p (by rw [hl]; exact h1))
   simpa using h4.2.2 h2
 ·intro hy
  cases hf : (refWrites l).find? (fun p => p.key == y) with
  | none => rw [hf] at hy; simp at hy
  | some p =>
   have hp := List.mem_of_find?_eq_some hf
   have hk := List.find?_some hf
   exact List.mem_map.2 ⟨p, hp, by simpa using hk⟩
theorem keys_at {h : List TxnV} {K : List KRow} (hK : K.map (·.2) = keysTo h h.length) {k : Nat} (hk : k < h.length) : ((K[k]?).map (·.2)).getD [] = keysOf (opsAt h k) := by
 rw [← List.getElem?_map, hK]
 unfold keysTo
 simp [hk]
theorem keys_len {h : List TxnV} {K : List KRow} (hK : K.map (·.2) = keysTo h h.length) : K.length = h.length := by
 have := congrArg List.length hK
 simpa [keysTo] using this
theorem riv_same {h : List TxnV} {K : List KRow} (hc : checkI h = 0) (hK : K.map (·.2) = keysTo h h.length) {i k : Nat} (hi : i < h.length) (hk : k < h.length) (hne : i ≠ k) :
  hasB (woS (rivS (wrsTo K K.length) (((K[i]?).map (·.2)).getD [])) (i : Int)) (k : Int) = rivR h i k := by
 obtain ⟨h64, _, _, hks⟩ := check_zero hc
 have hl := keys_len hK
 unfold hasB
 rw [Int.toNat_natCast, testBit_woS, Int.toNat_natCast]
 have e1 : decide (0 ≤ (k : Int) ∧ (k : Int) < 64) = true := by simp; omega
 rw [e1, Bool.true_and]
 have e2 : decide (i = k) = false := decide_eq_false hne
 rw [e2, Bool.and_false, Bool.not_false, Bool.and_true]
 unfold rivS
 rw [rivS_bit, Nat.zero_testBit, Bool.false_or, keys_at hK hi, Bool.eq_iff_iff, List.any_eq_true]
 unfold rivR
 rw [List.any_eq_true]
 have hb : ∀ y, ((wrsTo K K.length y).getD 0).testBit k = true ↔ wrsR h k y = true := fun y => by
  rw [wrsTo_bit K k y K.length (by omega) (Nat.le_refl _), keys_at hK hk]
  have : k < K.length := by omega
  simp only [this, decide_true, Bool.true_and, decide_eq_true_eq]
  exact keysOf_iff hc hk y
 constructor
 ·rintro ⟨y, hy, hbt⟩
  have h1 := (keysOf_iff hc hi y).1 hy
  have h2 := (hb y).1 hbt
  obtain ⟨o, ho, rfl⟩ := List.mem_map.1 hy
  have h3 := (refWrites_mem ho).1
  rw [opsAt_eq hi] at h3
  obtain ⟨h4, h5⟩ := hks _ (List.getElem_mem hi) o h3
  refine ⟨o.key.toNat, List.mem_range.2 (by omega), ?_⟩
  rw [Int.toNat_of_nonneg h4, h1, h2]; rfl
 ·rintro ⟨n, _, hn⟩
  rw [Bool.and_eq_true] at hn
  exact ⟨(n : Int), (keysOf_iff hc hi _).2 hn.1, (hb _).2 hn.2⟩
end

section
open Go.RowKit
def rivB (h : List TxnV) (i k : Nat) : Bool := decide (i < h.length) && (decide (k < h.length) && (decide (i ≠ k) && rivR h i k))
def rivN (h : List TxnV) (i : Nat) : Nat := mkS (rivB h i)
theorem rivN_set (h : List TxnV) (i : Nat) : IsSet (rivN h i) := isSet_mkS _
theorem rivN_none {h : List TxnV} {i : Nat} (hi : h.length ≤ i) : rivN h i = 0 := by
 unfold rivN
 have : rivB h i = fun _ => false := by
  funext k
  unfold rivB
  rw [decide_eq_false (by omega)]; rfl
 rw [this]; exact mkS_false
theorem keys_int {h : List TxnV} {K : List KRow} (hc : checkI h = 0) (hK : K.map (·.2) = keysTo h h.length) : ∀ p ∈ K, ∀ x ∈ p.2, InI x := by
 obtain ⟨_, _, _, hks⟩ := check_zero hc
 intro p hp x hx
 have h1 : p.2 ∈ keysTo h h.length := by rw [← hK]; exact List.mem_map.2 ⟨p, hp, rfl⟩
 unfold keysTo at h1
 obtain ⟨i, hi, e⟩ := List.mem_map.1 h1
 have hi := List.mem_range.1 hi
 rw [← e] at hx
 unfold keysOf at hx
 obtain ⟨o, ho, rfl⟩ := List.mem_map.1 hx
 have h2 := (refWrites_mem ho).1
 rw [opsAt_eq hi] at h2
 obtain ⟨h3, h4⟩ := hks _ (List.getElem_mem hi) o h2
 refine inI_of ?_
 unfold IntOk
 omega
theorem riv_eq {h : List TxnV} {K : List KRow} (hc : checkI h = 0) (hK : K.map (·.2) = keysTo h h.length) {i : Nat} (hi : i < h.length) (hA : AllSet (wrsTo K K.length)) :
  woS (rivS (wrsTo K K.length) (((K[i]?).map (·.2)).getD [])) (i : Int) = rivN h i := by
 have hl := keys_len hK
 have h64 := (check_zero hc).1
 refine mkS_eq ?_ (fun k hk => ?_)
 ·have h1 : IsSet (rivS (wrsTo K K.length) (((K[i]?).map (·.2)).getD [])) := by
   have := rivS_set hA (((K[i]?).map (·.2)).getD []) (((K[i]?).map (·.2)).getD []).length (Nat.le_refl _)
   rwa [List.take_length] at this
  exact isSet_woS h1
 ·by_cases hkn : k < h.length
  ·by_cases e : i = k
   ·subst e
    unfold rivB
    rw [testBit_woS, Int.toNat_natCast]
    simp; intros; omega
   ·have h2 := riv_same hc hK hi hkn e
    unfold hasB at h2
    rw [Int.toNat_natCast] at h2
    have e1 : decide (0 ≤ (k : Int) ∧ (k : Int) < 64) = true := by simp; omega
    rw [e1, Bool.true_and] at h2
    rw [h2]
    unfold rivB
    simp [hi, hkn, e]
  ·rw [testBit_woS]
   have h3 : (rivS (wrsTo K K.length) (((K[i]?).map (·.2)).getD [])).testBit k = false := by
    unfold rivS
    rw [rivS_bit, Nat.zero_testBit, Bool.false_or]
    refine List.any_eq_false.2 (fun y _ => ?_)
    rw [wrsTo_bit K k y K.length (by omega) (Nat.le_refl _)]
    have : ¬ k < K.length := by omega
    simp [this]
   rw [h3]
   unfold rivB
   simp [hkn]
theorem ordis_rivals {w : World} {B b : Nat} {h : List TxnV} (hO : OrdIs w B b h) (hc : checkI h = 0) (i : Nat) :
  Calls Tryz.prog 242 #[.pointer (some ⟨B, 0, none⟩), .int .i64 i] w fun e w' => e = .returned (.int .u64 ((rivN h i : Nat) : Int)) ∧ Below w.heap.size w w' := by
 obtain ⟨bm, m, c, vk, vr, K, R, h1, h2, h3, h4, h5, h6⟩ := hO
 have hl := keys_len h5
 by_cases hi : i < h.length
 ·have hiK : i < K.length := by omega
  have hh := orivals_any i h1 h2 h3 h4.rws (keys_int hc h5) hiK
  have e := riv_eq hc h5 hi h3
  rw [List.getElem?_eq_getElem hiK] at e
  simp only [Option.map_some, Option.getD_some] at e
  rw [e] at hh
  exact hh
 ·rw [rivN_none (by omega)]
  exact orivals_none (i : Int) h1 h4.rws (.inr (by omega))
end

section
open Go.RowKit
theorem yields_rel {ops : Array Oper} {S : World → Prop} {o : Oper} {a : Act} {g : Nat} {R : Mat} (hw : Region.wanted o (yielded ops a.tmps) = true) (x : Operand) (ho : o.op = .load 108 x)
  (hx : a.eval x = .pointer (some ⟨g, 0, none⟩)) (hS : ∀ w, S w → RelAt w g 108 R) : YieldsIf Tryz.prog ops S o (.agg (rowsA R)) a :=
 .inl ⟨hw, fun w hw' => by
  unfold execOp
  simp only [ho, hx, Instr.loadAt, Instr.sureAddr, Sem.run_bind, Sem.run_pure, Result.andThen_ok, run_loadVar_row w g _ _ _ _ _ (hS w hw') Tryz.underlying108 rfl (infoRel' _)]⟩
def rivM (h : List TxnV) (A : Mat) : Mat := fun i j => A i j && rivB h i j
def trB (x : Int) : Bool := decide (¬ bits .and .i64 x 2 = 0)
def pfB (x : Int) : Bool := decide (¬ bits .and .i64 x 4 = 0)
end

section
open Go.RowKit
def behB (L : List Int) (j : Nat) : Bool := L.any fun a => a == (j : Int)
def chainR : List Int → Mat
 | [] => noR
 | a :: L => fun x y => chainR L x y || (a == (x : Int) && behB L y)
end

section
open Go.RowKit
section
variable {V A U : Mat} {tr pf : Bool}
end
def startQ (h : List TxnV) (x : Int) (A : Mat) (q8 q16 : Int) : Mat := if q16 = 0 then (if q8 = 0 then baseM h x else orR (baseM h x) (rivM h A)) else orR (if q8 = 0 then baseM h x else orR (baseM h x) (rivM h A)) A
def startM (h : List TxnV) (x : Int) (A : Mat) : Mat := startQ h x A (bits .and .i64 x 8) (bits .and .i64 x 16)
end

section
open Go.RowKit
theorem ints_at {w : World} {ao : Option Addr} {n cap : Nat} {L : List Nat} (h : Ints w (.slice ao n cap) (L.map Int.ofNat)) {k : Nat} (hk : k < L.length) :
  ∃ b off, ao = some ⟨b, off, none⟩ ∧ w.cell? ⟨b, off + k, none⟩ = some (.int .i64 (L[k] : Int)) := by
 obtain ⟨b, off, h1, h2⟩ := h.at (k := k) (by simpa using hk)
 refine ⟨b, off, h1, ?_⟩
 rw [h2, List.getElem_map]; rfl
theorem Ints.grown {w w' : World} {v : Value} {xs : List Int} {row : Option Nat} (h : Ints w v xs) (hg : w.grownBy w' row) (hne : ∀ b, row = some b → v.ownBlock ≠ some b) : Ints w' v xs := by
 obtain ⟨hl, ao, cap, rfl, hm, hno, hc⟩ := h
 refine ⟨hl, ao, cap, rfl, hm, hno, fun hn => ?_⟩
 obtain ⟨b, off, rfl, hcell⟩ := hc hn
 refine ⟨b, off, rfl, fun i hi => ?_⟩
 have h2 := hcell i hi
 rw [List.getElem?_eq_getElem (by omega)] at h2 ⊢
 exact hg.cell h2 (fun e => hne b e.symm rfl)
end

section
open Go.RowKit
def seeTo (R : Mat) (i : Int) (k : Nat) : Nat := (List.range k).foldl (fun (s : Nat) (a : Nat) => if hasR R (a : Int) i then withS s (a : Int) else s) 0
theorem seeTo_succ (R : Mat) (i : Int) (k : Nat) : seeTo R i (k + 1) = if hasR R (k : Int) i then withS (seeTo R i k) (k : Int) else seeTo R i k := by
 unfold seeTo; rw [List.range_succ, List.foldl_append]; rfl
theorem seeTo_set (R : Mat) (i : Int) : ∀ k, IsSet (seeTo R i k)
 | 0 => by unfold seeTo IsSet; simp
 | k + 1 => by
  rw [seeTo_succ]
  split
  ·exact isSet_withS (seeTo_set R i k)
  ·exact seeTo_set R i k
theorem seeTo_bit (R : Mat) (i : Int) (j : Nat) : ∀ k, k ≤ 64 → (seeTo R i k).testBit j = (decide (j < k) && hasR R (j : Int) i)
 | 0, _ => by simp [seeTo]
 | k + 1, hk => by
  have ih := seeTo_bit R i j k (by omega)
  rw [seeTo_succ]
  by_cases e : j = k
  ·subst e
   have h1 : decide (0 ≤ (j : Int) ∧ (j : Int) < 64) = true := by simp; omega
   cases hh : hasR R (j : Int) i with
   | true => rw [if_pos rfl, testBit_withS, h1, Int.toNat_natCast]; simp
   | false => rw [if_neg (by simp), ih]; simp [hh]
  ·have h1 : decide (j < k + 1) = decide (j < k) := by rw [decide_eq_decide]; omega
   split
   ·have h2 : decide ((k : Int).toNat = j) = false := decide_eq_false (by rw [Int.toNat_natCast]; omega)
    rw [testBit_withS, ih, h1, h2, Bool.and_false, Bool.or_false]
   ·rw [ih, h1]
theorem lsees_any (R : Mat) (i : Int) (w : World) :
  Calls Tryz.prog 168 #[.agg (rowsA R), .int .i64 i] w fun e w' => e = .returned (.int .u64 ((seeTo R i 64 : Nat) : Int)) ∧ Below w.heap.size w w' := by
 have r0 : RelAt (w.alloc (.cells (rowsA R) 108)) w.heap.size 108 R := RelAt.made w _ _ rfl rfl
 have hb0 := box_below w (.cells (rowsA R) 108)
 go_enter Tryz.func168, Tryz.ntmps168
 go_wp2_with fail
 go_loopw [5, 7] (fun s k wr => ∃ n : Nat, n ≤ 64 ∧ k = .int .i64 n ∧ s = .int .u64 ((seeTo R i n : Nat) : Int) ∧ RelAt wr w.heap.size 108 R ∧ Below w.heap.size w wr) (fun _ k _ => 64 - (intOf k).toNat)
 case atStart => exact ⟨0, by omega, rfl, rfl, r0, hb0⟩
 case round =>
  obtain ⟨n, hn, rfl, rfl, hr, hb⟩ := hrel
  clear r0 hb0
  have hset := seeTo_set R i n
  by_cases hlt : n < 64
  ·have hni : (n : Int) < 64 := by omega
   have HS := hid (seeTo_succ R i n)
   go_wp2_with (with_reducible refine wpList_load_rel hr rfl _ rfl rfl ?_)
   refine (rhasR_any _ _ _ _).mono ?_
   rintro e w1 ⟨rfl, hb1⟩
   have hr1 := hr.below hb1 hr.lt
   have hbb := hb.trans (hb1.mono hb.size)
   clear hr hb
   cases hh : hasR R (n : Int) i with
   | true =>
    have HV : Hid (withS (seeTo R i n) (n : Int) = seeTo R i (n + 1)) := hid (by rw [HS.out, hh]; rfl)
    clear hh HS
    generalize seeTo R i n = a at *
    go_wp2_with fail
    refine (with_any _ _ _ hset).mono ?_
    rintro e w2 ⟨rfl, rfl⟩
    go_wp2_with fail
    go_roundw
    case rel => exact ⟨n + 1, by omega, by go_num, by rw [HV.out], hr1, hbb⟩
    case measure => simp [intOf]; omega
   | false =>
    have HV : Hid (seeTo R i n = seeTo R i (n + 1)) := hid (by rw [HS.out, hh]; rfl)
    clear hh HS
    go_wp2_with fail
    go_roundw
    case rel => exact ⟨n + 1, by omega, by go_num, by rw [HV.out], hr1, hbb⟩
    case measure => simp [intOf]; omega
  ·have hn2 : n = 64 := by omega
   subst hn2
   go_wp2_with fail
   go_ret
   exact ⟨rfl, hb⟩
end

section
open Go.RowKit
theorem asees_any (R : Mat) (i : Int) (w : World) :
  Calls Tryz.prog 189 #[.agg (rowsA R), .int .i64 i] w fun e w' => e = .returned (.int .u64 ((seeTo R i 64 : Nat) : Int)) ∧ Below w.heap.size w w' := by
 have r0 : RelAt (w.alloc (.cells (rowsA R) 108)) w.heap.size 108 R := RelAt.made w _ _ rfl rfl
 have hb0 := box_below w (.cells (rowsA R) 108)
 go_enter Tryz.func189, Tryz.ntmps189
 go_wp2_with fail
 go_loopw [5, 7] (fun s k wr => ∃ n : Nat, n ≤ 64 ∧ k = .int .i64 n ∧ s = .int .u64 ((seeTo R i n : Nat) : Int) ∧ RelAt wr w.heap.size 108 R ∧ Below w.heap.size w wr) (fun _ k _ => 64 - (intOf k).toNat)
 case atStart => exact ⟨0, by omega, rfl, rfl, r0, hb0⟩
 case round =>
  obtain ⟨n, hn, rfl, rfl, hr, hb⟩ := hrel
  clear r0 hb0
  have hset := seeTo_set R i n
  by_cases hlt : n < 64
  ·have hni : (n : Int) < 64 := by omega
   have HS := hid (seeTo_succ R i n)
   go_wp2_with (with_reducible refine wpList_load_rel hr rfl _ rfl rfl ?_)
   refine (rhasR_any _ _ _ _).mono ?_
   rintro e w1 ⟨rfl, hb1⟩
   have hr1 := hr.below hb1 hr.lt
   have hbb := hb.trans (hb1.mono hb.size)
   clear hr hb
   cases hh : hasR R (n : Int) i with
   | true =>
    have HV : Hid (withS (seeTo R i n) (n : Int) = seeTo R i (n + 1)) := hid (by rw [HS.out, hh]; rfl)
    clear hh HS
    generalize seeTo R i n = a at *
    go_wp2_with fail
    refine (with_any _ _ _ hset).mono ?_
    rintro e w2 ⟨rfl, rfl⟩
    go_wp2_with fail
    go_roundw
    case rel => exact ⟨n + 1, by omega, by go_num, by rw [HV.out], hr1, hbb⟩
    case measure => simp [intOf]; omega
   | false =>
    have HV : Hid (seeTo R i n = seeTo R i (n + 1)) := hid (by rw [HS.out, hh]; rfl)
    clear hh HS
    go_wp2_with fail
    go_roundw
    case rel => exact ⟨n + 1, by omega, by go_num, by rw [HV.out], hr1, hbb⟩
    case measure => simp [intOf]; omega
  ·have hn2 : n = 64 := by omega
   subst hn2
   go_wp2_with fail
   go_ret
   exact ⟨rfl, hb⟩
def lastTo (l : List Int) (s : Nat) (k : Nat) : Int := (l.take k).foldl (fun f i => if hasB s i then i else f) (-1)
def lastI (l : List Int) (s : Nat) : Int := lastTo l s l.length
def rowOkA (n : Int) (l : List Int) : Bool := decide ((l.length : Int) = n) && decide (setL l = belowS n)
end

section
open Go.RowKit
def wrtN (h : List TxnV) (y : Int) : Nat := mkS fun j => decide (j < h.length) && decide (y ∈ keysOf (opsAt h j))
theorem wrtN_set (h : List TxnV) (y : Int) : IsSet (wrtN h y) := isSet_mkS _
theorem wrt_eq {h : List TxnV} {K : List KRow} (hc : checkI h = 0) (hK : K.map (·.2) = keysTo h h.length) (hA : AllSet (wrsTo K K.length)) (y : Int) : (wrsTo K K.length y).getD 0 = wrtN h y := by
 have hl := keys_len hK
 have h64 := (check_zero hc).1
 refine mkS_eq (hA y) fun j hj => ?_
 rw [wrsTo_bit K j y K.length (by omega) (Nat.le_refl _), hl]
 by_cases hjn : j < h.length
 ·rw [keys_at hK hjn]
 ·simp [hjn]
theorem reads_key {h : List TxnV} (hc : checkI h = 0) {i : Nat} (hi : i < h.length) {r : Int × Int} (hr : r ∈ readsOf h i) : 0 ≤ r.1 ∧ r.1 < 64 := by
 obtain ⟨_, _, _, hks⟩ := check_zero hc
 unfold readsOf rdFr at hr
 obtain ⟨o, ho, rfl⟩ := List.mem_map.1 hr
 have h1 := (refReads_in (List.mem_filter.1 ho).1).1
 rw [opsAt_eq hi] at h1
 exact hks _ (List.getElem_mem hi) o h1
def readOk (h : List TxnV) (l : List Int) (V : Mat) (i : Nat) (r : Int × Int) : Bool := decide (lastI l (seeTo V (i : Int) 64 &&& wrtN h r.1) = r.2)
def rightTo (h : List TxnV) (l : List Int) (V : Mat) (k : Nat) : Bool := (List.range k).all fun i => (readsOf h i).all (readOk h l V i)
def rightM (h : List TxnV) (l : List Int) (V : Mat) : Bool := rowOkA (h.length : Int) l && (inM V (chainR l) && rightTo h l V h.length)
end

section
open Go.RowKit
def bitA (k : Nat) : Nat := [1, 2, 4, 8, 16, 32].getD k 0
end

section
open Go.RowKit
def keptM (h : List TxnV) (A V : Mat) (k : Nat) : Mat := match k with
 | 0 => sesM h
 | 1 => thenR V V
 | 2 => thenR A V
 | 3 => rivM h A
 | 4 => A
 | _ => timM h
def keptTo (M : Nat → Mat) (V : Mat) (k : Nat) : Nat := (List.range k).foldl (fun (s : Nat) (i : Nat) => if inM (M i) V then s ||| bitA i else s) 0
theorem keptTo_succ (M : Nat → Mat) (V : Mat) (k : Nat) : keptTo M V (k + 1) = if inM (M k) V then keptTo M V k ||| bitA k else keptTo M V k := by
 unfold keptTo; rw [List.range_succ, List.foldl_append]; rfl
theorem bitA_lt (k : Nat) : bitA k < 64 := by
 by_cases hk : k < 6
 ·have h : k = 0 ∨ k = 1 ∨ k = 2 ∨ k = 3 ∨ k = 4 ∨ k = 5 := by omega
  rcases h with rfl | rfl | rfl | rfl | rfl | rfl <;> decide
 ·unfold bitA; rw [List.getD_eq_getElem?_getD, List.getElem?_eq_none (by simp; omega)]; decide
theorem keptTo_lt (M : Nat → Mat) (V : Mat) : ∀ k, keptTo M V k < 64
 | 0 => by unfold keptTo; simp
 | k + 1 => by
  rw [keptTo_succ]
  split
  ·exact Nat.or_lt_two_pow (n := 6) (keptTo_lt M V k) (bitA_lt k)
  ·exact keptTo_lt M V k
def keptN (h : List TxnV) (l : List Int) (V : Mat) : Nat := keptTo (keptM h (chainR l) V) V 6
end

section
open Go.RowKit
def lackN (a b : Nat) : Nat := a ^^^ (a &&& b)
def holdsB (h : List TxnV) (lv : Int) (l : List Int) (V : Mat) : Bool := isLv lv && (soundTo h h.length && (rightM h l V && decide (lackN (askN lv) (keptN h l V) = 0)))
end

section
theorem must_mono {S S' A : Mat} {tr tr' pf pf' : Bool} (hS : ∀ i j, S i j = true → S' i j = true) (ht : tr = true → tr' = true) (hp : pf = true → pf' = true) {i j : Nat} (h : Must S A tr pf i j) : Must S' A tr' pf' i j := by
 induction h with
 | base h => exact .base (hS _ _ h)
 | trans h1 hm _ _ ih1 ih2 => exact .trans (ht h1) hm ih1 ih2
 | pre h1 hm ha _ ih => exact .pre (hp h1) hm ha ih
theorem must_in {S A : Mat} {tr pf : Bool} {V : Nat → Nat → Prop} (hS : ∀ i j, i < 64 → j < 64 → S i j = true → V i j) (ht : tr = true → ∀ i m j, i < 64 → m < 64 → j < 64 → V i m → V m j → V i j)
  (hp : pf = true → ∀ i m j, i < 64 → m < 64 → j < 64 → A i m = true → V m j → V i j) {i j : Nat} (h : Must S A tr pf i j) (hi : i < 64) (hj : j < 64) : V i j := by
 induction h with
 | base h => exact hS _ _ hi hj h
 | trans h1 hm _ _ ih1 ih2 => exact ht h1 _ _ _ hi hm hj (ih1 hi hm) (ih2 hm hj)
 | pre h1 hm ha _ ih => exact hp h1 _ _ _ hi hm hj ha (ih hm hj)
theorem must_closed {S S' A : Mat} {tr tr' pf pf' tot : Bool} (hA : ∀ i j, i < 64 → j < 64 → Must S A tr pf i j → A i j = true) (hAt : ∀ i m j, i < 64 → m < 64 → j < 64 → A i m = true → A m j = true → A i j = true)
  (htot : tot = true → ∀ i j, i < 64 → j < 64 → A i j = true → S i j = true) (hS : ∀ i j, i < 64 → j < 64 → S' i j = true → S i j = true ∨ (tot = true ∧ A i j = true))
  (ht : tr' = true → tr = true ∨ pf = true ∨ tot = true) (hp : pf' = true → pf = true ∨ tot = true) {i j : Nat} (h : Must S' A tr' pf' i j) (hi : i < 64) (hj : j < 64) : Must S A tr pf i j := by
 refine must_in (V := fun i j => Must S A tr pf i j) ?_ ?_ ?_ h hi hj
 ·intro i j hi hj h
  rcases hS i j hi hj h with h | ⟨h1, h2⟩
  ·exact .base h
  ·exact .base (htot h1 i j hi hj h2)
 ·intro h i m j hi hm hj h1 h2
  rcases ht h with h | h | h
  ·exact .trans h hm h1 h2
  ·exact .pre h hm (hA i m hi hm h1) h2
  ·exact .base (htot h i j hi hj (hAt i m j hi hm hj (hA i m hi hm h1) (hA m j hm hj h2)))
 ·intro h i m j hi hm hj h1 h2
  rcases hp h with h | h
  ·exact .pre h hm h1 h2
  ·exact .base (htot h i j hi hj (hAt i m j hi hm hj h1 (hA m j hm hj h2)))
end

section
open Go.RowKit
def Ahead : List Int → Int → Int → Prop
 | [], _, _ => False
 | c :: L, a, b => Ahead L a b ∨ (c = a ∧ b ∈ L)
theorem Ahead.mem {a b : Int} : ∀ {L : List Int}, Ahead L a b → a ∈ L ∧ b ∈ L
 | [], h => h.elim
 | c :: L, h => by
  rcases h with h | ⟨rfl, h⟩
  ·exact ⟨List.mem_cons_of_mem _ (Ahead.mem h).1, List.mem_cons_of_mem _ (Ahead.mem h).2⟩
  ·exact ⟨List.mem_cons_self, List.mem_cons_of_mem _ h⟩
theorem ahead_at {a b : Int} : ∀ {L : List Int}, Ahead L a b ↔ ∃ i, i < L.length ∧ L.getD i 0 = a ∧ b ∈ L.drop (i + 1)
 | [] => by simp [Ahead]
 | c :: L => by
  unfold Ahead
  rw [ahead_at]
  constructor
  ·rintro (⟨i, hi, h1, h2⟩ | ⟨rfl, h⟩)
   ·exact ⟨i + 1, by simpa using hi, by simpa using h1, by simpa using h2⟩
   ·exact ⟨0, by simp, by simp, by simpa using h⟩
  ·rintro ⟨i, hi, h1, h2⟩
   cases i with
   | zero => exact .inr ⟨by simpa using h1, by simpa using h2⟩
   | succ i => exact .inl ⟨i, by simpa using hi, by simpa using h1, by simpa using h2⟩
theorem Ahead.trans {a m b : Int} : ∀ {L : List Int}, Ahead L a m → Ahead L m b → ¬ Ahead L m m → Ahead L a b
 | [], h, _, _ => h.elim
 | c :: L, h, k, hno => by
  rcases h with h | ⟨rfl, h⟩
  ·rcases k with k | ⟨rfl, k⟩
   ·exact .inl (Ahead.trans h k fun x => hno (.inl x))
   ·exact absurd (.inr ⟨rfl, h.mem.2⟩) hno
  ·rcases k with k | ⟨rfl, k⟩
   ·exact .inr ⟨rfl, k.mem.2⟩
   ·exact .inr ⟨rfl, k⟩
theorem behB_iff (L : List Int) (j : Nat) : behB L j = true ↔ (j : Int) ∈ L := by
 unfold behB
 rw [List.any_eq_true]
 constructor
 ·rintro ⟨a, ha, e⟩; rw [beq_iff_eq] at e; exact e ▸ ha
 ·intro h; exact ⟨_, h, by simp⟩
theorem chainR_iff (i j : Nat) : ∀ (L : List Int), chainR L i j = true ↔ Ahead L i j
 | [] => by simp [chainR, noR, Ahead]
 | c :: L => by
  show (chainR L i j || (c == (i : Int) && behB L j)) = true ↔ _
  rw [Bool.or_eq_true, Bool.and_eq_true, chainR_iff i j L, beq_iff_eq, behB_iff]; rfl
end

section
open Go.RowKit
theorem ses_tim {h : List TxnV} (hc : checkI h = 0) {i k : Nat} (hi : i < h.length) (hk : k < h.length) (hik : i < k) (hs : h[i].s = h[k].s) : h[i].c < h[k].b := by
 have h1 := (rowR_iff.1 (may_rows (may_of hc) k hk)).2.1
 have h2 : h[i] ∈ h.take k := by
  rw [List.mem_take_iff_getElem]
  exact ⟨i, by omega, rfl⟩
 obtain ⟨⟨_, _, h3, _⟩, h4⟩ := (apartB_iff _ _).1 (List.all_eq_true.1 h1 _ h2)
 by_cases e : h[k].b < h[i].c
 ·exact absurd ⟨hs, e⟩ h4
 ·omega
theorem ses_in_tim {h : List TxnV} (hc : checkI h = 0) : inM (sesM h) (timM h) = true := by
 unfold inM inMTo
 rw [List.all_eq_true]
 intro i hi
 have hi := List.mem_range.1 hi
 rw [inB_iff (isSet_mkS _)]
 intro j hj hb
 rw [testBit_mkS] at hb ⊢
 simp only [hj, decide_true, Bool.true_and] at hb ⊢
 obtain ⟨h1, h2, h3⟩ := (prsTo_iff (sesP h) h.length i j hi hj h.length).1 hb
 refine (prsTo_iff (timP h) h.length i j hi hj h.length).2 ⟨h1, h2, ?_⟩
 unfold sesP at h3
 unfold timP
 rw [sAt_eq h1, sAt_eq h2] at h3
 simp only [Bool.and_eq_true, decide_eq_true_eq] at h3
 rw [cAt_eq h1, bAt_eq h2]
 exact decide_eq_true (ses_tim hc h1 h2 h3.1 h3.2)
end

section
open Go.RowKit
theorem nat_bit (x k : Nat) : (x &&& 2 ^ k = 0) ↔ x.testBit k = false := by
 constructor
 ·intro h
  have h1 : (x &&& 2 ^ k).testBit k = false := by rw [h]; exact Nat.zero_testBit k
  rw [Nat.testBit_and, Nat.testBit_two_pow] at h1
  simpa using h1
 ·intro h
  refine Nat.eq_of_testBit_eq fun i => ?_
  rw [Nat.testBit_and, Nat.testBit_two_pow, Nat.zero_testBit]
  by_cases e : k = i
  ·subst e; rw [h]; rfl
  ·simp [e]
theorem bit_zero (x k : Nat) (hx : x < 9223372036854775808) (hk : 2 ^ k < 9223372036854775808) : bits .and .i64 (x : Int) ((2 ^ k : Nat) : Int) = 0 ↔ x.testBit k = false := by
 rw [i64_and_nat x (2 ^ k) hx hk, ← nat_bit]
 omega
theorem bit_1 (x : Nat) (hx : x < 9223372036854775808) : bits .and .i64 (x : Int) 1 = 0 ↔ x.testBit 0 = false := bit_zero x 0 hx (by omega)
theorem bit_2 (x : Nat) (hx : x < 9223372036854775808) : bits .and .i64 (x : Int) 2 = 0 ↔ x.testBit 1 = false := bit_zero x 1 hx (by omega)
theorem bit_4 (x : Nat) (hx : x < 9223372036854775808) : bits .and .i64 (x : Int) 4 = 0 ↔ x.testBit 2 = false := bit_zero x 2 hx (by omega)
theorem bit_8 (x : Nat) (hx : x < 9223372036854775808) : bits .and .i64 (x : Int) 8 = 0 ↔ x.testBit 3 = false := bit_zero x 3 hx (by omega)
theorem bit_16 (x : Nat) (hx : x < 9223372036854775808) : bits .and .i64 (x : Int) 16 = 0 ↔ x.testBit 4 = false := bit_zero x 4 hx (by omega)
theorem bit_32 (x : Nat) (hx : x < 9223372036854775808) : bits .and .i64 (x : Int) 32 = 0 ↔ x.testBit 5 = false := bit_zero x 5 hx (by omega)
theorem trB_bit (x : Nat) (hx : x < 9223372036854775808) : trB (x : Int) = x.testBit 1 := by
 unfold trB
 have := bit_2 x hx
 cases h : x.testBit 1 with
 | true => exact decide_eq_true (fun e => by rw [this.1 e] at h; cases h)
 | false => exact decide_eq_false (fun e => e (this.2 h))
theorem pfB_bit (x : Nat) (hx : x < 9223372036854775808) : pfB (x : Int) = x.testBit 2 := by
 unfold pfB
 have := bit_4 x hx
 cases h : x.testBit 2 with
 | true => exact decide_eq_true (fun e => by rw [this.1 e] at h; cases h)
 | false => exact decide_eq_false (fun e => e (this.2 h))
theorem baseM_iff (h : List TxnV) (x : Nat) (hx : x < 9223372036854775808) (i j : Nat) : baseM h (x : Int) i j = true ↔ froM h i j = true ∨ (x.testBit 0 = true ∧ sesM h i j = true) ∨ (x.testBit 5 = true ∧ timM h i j = true) := by
 have h1 := bit_1 x hx
 have h5 := bit_32 x hx
 unfold baseM baseQ
 cases e0 : x.testBit 0 <;> cases e5 : x.testBit 5
 ·rw [if_pos (h5.2 e5), if_pos (h1.2 e0)]; simp
 ·rw [if_neg (fun e => by rw [h5.1 e] at e5; cases e5), if_pos (h1.2 e0), orR_iff]; simp
 ·rw [if_pos (h5.2 e5), if_neg (fun e => by rw [h1.1 e] at e0; cases e0), orR_iff]; simp
 ·rw [if_neg (fun e => by rw [h5.1 e] at e5; cases e5), if_neg (fun e => by rw [h1.1 e] at e0; cases e0), orR_iff, orR_iff]; simp [or_assoc]
theorem startM_iff (h : List TxnV) (x : Nat) (hx : x < 9223372036854775808) (A : Mat) (i j : Nat) : startM h (x : Int) A i j = true ↔ baseM h (x : Int) i j = true ∨ (x.testBit 3 = true ∧ rivM h A i j = true) ∨ (x.testBit 4 = true ∧ A i j = true) := by
 have h3 := bit_8 x hx
 have h4 := bit_16 x hx
 unfold startM startQ
 cases e3 : x.testBit 3 <;> cases e4 : x.testBit 4
 ·rw [if_pos (h4.2 e4), if_pos (h3.2 e3)]; simp
 ·rw [if_neg (fun e => by rw [h4.1 e] at e4; cases e4), if_pos (h3.2 e3), orR_iff]; simp
 ·rw [if_pos (h4.2 e4), if_neg (fun e => by rw [h3.1 e] at e3; cases e3), orR_iff]; simp
 ·rw [if_neg (fun e => by rw [h4.1 e] at e4; cases e4), if_neg (fun e => by rw [h3.1 e] at e3; cases e3), orR_iff, orR_iff]; simp [or_assoc]
theorem rivM_in (h : List TxnV) (A : Mat) (i j : Nat) (hr : rivM h A i j = true) : A i j = true := by
 unfold rivM at hr
 rw [Bool.and_eq_true] at hr
 exact hr.1
theorem clN_bits : ∀ k : Fin 64, (clN k.val).testBit 0 = (k.val.testBit 0 || k.val.testBit 5) ∧ (clN k.val).testBit 1 = (k.val.testBit 1 || (k.val.testBit 2 || k.val.testBit 4)) ∧ (clN k.val).testBit 2 = (k.val.testBit 2 || k.val.testBit 4) ∧
  (clN k.val).testBit 3 = (k.val.testBit 3 || k.val.testBit 4) ∧ (clN k.val).testBit 4 = k.val.testBit 4 ∧ (clN k.val).testBit 5 = k.val.testBit 5 := by decide +kernel
theorem clI_bits (x : Nat) : (clI (x : Int)).testBit 0 = (x.testBit 0 || x.testBit 5) ∧ (clI (x : Int)).testBit 1 = (x.testBit 1 || (x.testBit 2 || x.testBit 4)) ∧ (clI (x : Int)).testBit 2 = (x.testBit 2 || x.testBit 4) ∧
  (clI (x : Int)).testBit 3 = (x.testBit 3 || x.testBit 4) ∧ (clI (x : Int)).testBit 4 = x.testBit 4 ∧ (clI (x : Int)).testBit 5 = x.testBit 5 := by
 have h := clN_bits ⟨x % 64, by omega⟩
 have e : ((x : Int) % 64).toNat = x % 64 := by omega
 have b : ∀ k, k < 6 → (x % 64).testBit k = x.testBit k := fun k hk => by
  rw [show (64 : Nat) = 2 ^ 6 from rfl, Nat.testBit_mod_two_pow, decide_eq_true hk, Bool.true_and]
 unfold clI
 rw [e]
 simp only [b 0 (by omega), b 1 (by omega), b 2 (by omega), b 3 (by omega), b 4 (by omega), b 5 (by omega)] at h
 exact h
theorem ahead_irr {L : List Int} (hn : L.Nodup) (a : Int) : ¬ Ahead L a a := by
 rw [ahead_at]
 rintro ⟨i, hi, h1, h2⟩
 obtain ⟨k, hk, h3⟩ := List.mem_iff_getElem.1 h2
 rw [List.length_drop] at hk
 rw [List.getElem_drop] at h3
 rw [List.getD_eq_getElem?_getD, List.getElem?_eq_getElem hi, Option.getD_some] at h1
 exact List.pairwise_iff_getElem.1 hn i (i + 1 + k) hi (by omega) (by omega) (h1.trans h3.symm)
theorem chain_trans {L : List Int} (hn : L.Nodup) {i m j : Nat} (h1 : chainR L i m = true) (h2 : chainR L m j = true) : chainR L i j = true := by
 rw [chainR_iff] at *
 exact h1.trans h2 (ahead_irr hn _)
theorem nodup_ofNat {L : List Nat} (h : L.Nodup) : (L.map Int.ofNat).Nodup := nodup_map Int.ofNat (fun _ _ e => Int.ofNat.inj e) h
theorem inM_iff (R S : Mat) : inM R S = true ↔ ∀ i j, i < 64 → j < 64 → R i j = true → S i j = true := by
 unfold inM inMTo
 rw [List.all_eq_true]
 constructor
 ·intro h i j hi hj hr
  have h1 := (inB_iff (isSet_mkS _)).1 (h i (List.mem_range.2 hi)) j hj (by rw [testBit_mkS, hr, decide_eq_true hj]; rfl)
  rw [testBit_mkS, decide_eq_true hj] at h1
  simpa using h1
 ·intro h i hi
  have hi := List.mem_range.1 hi
  rw [inB_iff (isSet_mkS _)]
  intro j hj hb
  rw [testBit_mkS, decide_eq_true hj] at hb ⊢
  simp only [Bool.true_and] at hb ⊢
  exact h i j hi hj hb
theorem hasR_nat (R : Mat) (i j : Nat) (hi : i < 64) (hj : j < 64) : hasR R (i : Int) (j : Int) = R i j := by
 unfold hasR mayB
 rw [Int.toNat_natCast, hasB_mkS _ _ hj, decide_eq_true (by omega), Bool.true_and]
def LeastIs (h : List TxnV) (x : Nat) (L : List Int) (R : Mat) : Prop := ∀ i j, i < 64 → j < 64 → (R i j = true ↔ Must (startM h (x : Int) (chainR L)) (chainR L) (trB x) (pfB x) i j)
theorem least_mono {h : List TxnV} {x y : Nat} {L : List Int} {R S : Mat} (hx : x < 9223372036854775808) (hy : y < 9223372036854775808) (hb : ∀ k, x.testBit k = true → y.testBit k = true) (hR : LeastIs h x L R) (hS : LeastIs h y L S) : inM R S = true := by
 rw [inM_iff]
 intro i j hi hj hr
 refine (hS i j hi hj).2 (must_mono ?_ ?_ ?_ ((hR i j hi hj).1 hr))
 ·intro i j hs
  rw [startM_iff h x hx, baseM_iff h x hx] at hs
  rw [startM_iff h y hy, baseM_iff h y hy]
  rcases hs with (hs | ⟨h1, h2⟩ | ⟨h1, h2⟩) | ⟨h1, h2⟩ | ⟨h1, h2⟩
  ·exact .inl (.inl hs)
  ·exact .inl (.inr (.inl ⟨hb _ h1, h2⟩))
  ·exact .inl (.inr (.inr ⟨hb _ h1, h2⟩))
  ·exact .inr (.inl ⟨hb _ h1, h2⟩)
  ·exact .inr (.inr ⟨hb _ h1, h2⟩)
 ·rw [trB_bit x hx, trB_bit y hy]; exact hb 1
 ·rw [pfB_bit x hx, pfB_bit y hy]; exact hb 2
theorem least_closed {h : List TxnV} {x : Nat} {L : List Int} {R S : Mat} (hc : checkI h = 0) (hn : L.Nodup) (hx : x < 9223372036854775808) (hR : LeastIs h x L R) (hS : LeastIs h (clI (x : Int)) L S) (hin : inM R (chainR L) = true) : rowsA R = rowsA S := by
 have hy : clI (x : Int) < 9223372036854775808 := by have := clI_lt (x : Int); omega
 obtain ⟨b0, b1, b2, b3, b4, b5⟩ := clI_bits x
 have hin := (inM_iff _ _).1 hin
 have hst := (inM_iff _ _).1 (ses_in_tim hc)
 refine rowsA_congr fun i j hi hj => ?_
 rw [Bool.eq_iff_iff, hR i j hi hj, hS i j hi hj]
 constructor
 ·intro h1
  refine must_mono ?_ ?_ ?_ h1
  ·intro i j hs
   rw [startM_iff h x hx, baseM_iff h x hx] at hs
   rw [startM_iff h _ hy, baseM_iff h _ hy, b0, b3, b4, b5]
   rcases hs with (hs | ⟨h1, h2⟩ | ⟨h1, h2⟩) | ⟨h1, h2⟩ | ⟨h1, h2⟩
   ·exact .inl (.inl hs)
   ·exact .inl (.inr (.inl ⟨by rw [h1]; rfl, h2⟩))
   ·exact .inl (.inr (.inr ⟨h1, h2⟩))
   ·exact .inr (.inl ⟨by rw [h1]; rfl, h2⟩)
   ·exact .inr (.inr ⟨h1, h2⟩)
  ·rw [trB_bit x hx, trB_bit _ hy, b1]; intro e; rw [e]; rfl
  ·rw [pfB_bit x hx, pfB_bit _ hy, b2]; intro e; rw [e]; rfl
 ·intro h1
  refine must_closed (tot := x.testBit 4) (fun i j hi hj hm => hin i j hi hj ((hR i j hi hj).2 hm)) (fun i m j _ _ _ h1 h2 => chain_trans hn h1 h2) ?_ ?_ ?_ ?_ h1 hi hj
  ·intro ht i j _ _ ha
   rw [startM_iff h x hx]
   exact .inr (.inr ⟨ht, ha⟩)
  ·intro i j hi hj hs
   rw [startM_iff h _ hy, baseM_iff h _ hy, b0, b3, b4, b5] at hs
   rw [startM_iff h x hx, baseM_iff h x hx]
   rcases hs with (hs | ⟨h1, h2⟩ | ⟨h1, h2⟩) | ⟨h1, h2⟩ | ⟨h1, h2⟩
   ·exact .inl (.inl (.inl hs))
   ·rcases (Bool.or_eq_true _ _).mp h1 with h1 | h1
    ·exact .inl (.inl (.inr (.inl ⟨h1, h2⟩)))
    ·exact .inl (.inl (.inr (.inr ⟨h1, hst i j hi hj h2⟩)))
   ·exact .inl (.inl (.inr (.inr ⟨h1, h2⟩)))
   ·rcases (Bool.or_eq_true _ _).mp h1 with h1 | h1
    ·exact .inl (.inr (.inl ⟨h1, h2⟩))
    ·exact .inr ⟨h1, rivM_in h _ i j h2⟩
   ·exact .inr ⟨h1, h2⟩
  ·rw [trB_bit x hx, pfB_bit x hx, trB_bit _ hy, b1]
   intro e
   rcases (Bool.or_eq_true _ _).mp e with e | e
   ·exact .inl e
   ·rcases (Bool.or_eq_true _ _).mp e with e | e
    ·exact .inr (.inl e)
    ·exact .inr (.inr e)
  ·rw [pfB_bit x hx, pfB_bit _ hy, b2]
   intro e
   exact (Bool.or_eq_true _ _).mp e
end

section
open Go.RowKit
theorem bitA_pow : ∀ m : Fin 6, bitA m.val = 2 ^ m.val := by decide
theorem keptTo_bit (M : Nat → Mat) (V : Mat) (k : Nat) : ∀ m, m ≤ 6 → (keptTo M V m).testBit k = (decide (k < m) && inM (M k) V)
 | 0, _ => by unfold keptTo; simp
 | m + 1, h => by
  have ih := keptTo_bit M V k m (by omega)
  have e := bitA_pow ⟨m, by omega⟩
  simp only at e
  rw [keptTo_succ]
  by_cases hk : k = m
  ·subst hk
   rw [decide_eq_false (Nat.lt_irrefl k), Bool.false_and] at ih
   rw [decide_eq_true (Nat.lt_succ_self k), Bool.true_and]
   cases hM : inM (M k) V with
   | true => rw [if_pos rfl, Nat.testBit_or, e, Nat.testBit_two_pow_self, Bool.or_true]
   | false => rw [if_neg (by decide)]; exact ih
  ·have hd : decide (k < m + 1) = decide (k < m) := by rw [decide_eq_decide]; omega
   rw [hd]
   split
   ·rw [Nat.testBit_or, e, Nat.testBit_two_pow_of_ne (by omega), Bool.or_false]; exact ih
   ·exact ih
theorem kept_bit (h : List TxnV) (l : List Int) (V : Mat) {k : Nat} (hk : k < 6) : (keptN h l V).testBit k = inM (keptM h (chainR l) V k) V := by
 unfold keptN
 rw [keptTo_bit _ _ _ 6 (Nat.le_refl 6), decide_eq_true hk, Bool.true_and]
theorem lack_iff (a b : Nat) : lackN a b = 0 ↔ ∀ k, a.testBit k = true → b.testBit k = true := by
 unfold lackN
 constructor
 ·intro e k hk
  have t := congrArg (fun x => Nat.testBit x k) e
  simp only [Nat.testBit_xor, Nat.testBit_and, Nat.zero_testBit, hk, Bool.true_and] at t
  cases hb : b.testBit k
  ·rw [hb] at t; exact absurd t (by decide)
  ·rfl
 ·intro H
  apply Nat.eq_of_testBit_eq
  intro k
  rw [Nat.testBit_xor, Nat.testBit_and, Nat.zero_testBit]
  cases ha : a.testBit k
  ·rfl
  ·rw [H k ha]; rfl
theorem inM_trans {A B C : Mat} (h1 : inM A B = true) (h2 : inM B C = true) : inM A C = true := by
 rw [inM_iff] at *
 exact fun i j hi hj h => h2 i j hi hj (h1 i j hi hj h)
theorem kept_closed {h : List TxnV} {l : List Int} {V : Mat} (hc : checkI h = 0) (hn : l.Nodup) (hV : inM V (chainR l) = true) : clN (keptN h l V) = keptN h l V := by
 have hlt : keptN h l V < 64 := keptTo_lt _ _ _
 obtain ⟨b0, b1, b2, b3, b4, b5⟩ := clN_bits ⟨keptN h l V, hlt⟩
 have hlt2 := clN_lt ⟨keptN h l V, hlt⟩
 simp only at b0 b1 b2 b3 b4 b5 hlt2
 have k0 := kept_bit h l V (k := 0) (by omega)
 have k1 := kept_bit h l V (k := 1) (by omega)
 have k2 := kept_bit h l V (k := 2) (by omega)
 have k3 := kept_bit h l V (k := 3) (by omega)
 have k4 := kept_bit h l V (k := 4) (by omega)
 have k5 := kept_bit h l V (k := 5) (by omega)
 have hV' := (inM_iff _ _).1 hV
 have t50 : (keptN h l V).testBit 5 = true → (keptN h l V).testBit 0 = true := fun e => by
  rw [k0]; rw [k5] at e; exact inM_trans (ses_in_tim hc) e
 have t21 : (keptN h l V).testBit 2 = true → (keptN h l V).testBit 1 = true := fun e => by
  rw [k1]; rw [k2] at e
  rw [inM_iff] at *
  intro i j hi hj hr
  obtain ⟨m, hm, h1, h2⟩ := (thenR_iff V V i j).1 hr
  exact e i j hi hj ((thenR_iff _ _ i j).2 ⟨m, hm, hV' i m hi hm h1, h2⟩)
 have t42 : (keptN h l V).testBit 4 = true → (keptN h l V).testBit 2 = true := fun e => by
  rw [k2]; rw [k4] at e
  rw [inM_iff] at *
  intro i j hi hj hr
  obtain ⟨m, hm, h1, h2⟩ := (thenR_iff _ V i j).1 hr
  exact e i j hi hj (chain_trans hn h1 (hV' m j hm hj h2))
 have t43 : (keptN h l V).testBit 4 = true → (keptN h l V).testBit 3 = true := fun e => by
  rw [k3]; rw [k4] at e
  rw [inM_iff] at *
  exact fun i j hi hj hr => e i j hi hj (rivM_in h _ i j hr)
 apply Nat.eq_of_testBit_eq
 intro k
 by_cases hk : k < 6
 ·have h6 : k = 0 ∨ k = 1 ∨ k = 2 ∨ k = 3 ∨ k = 4 ∨ k = 5 := by omega
  rcases h6 with rfl | rfl | rfl | rfl | rfl | rfl
  ·rw [b0]; cases h5 : (keptN h l V).testBit 5; · rw [Bool.or_false]
   rw [t50 h5]; rfl
  ·rw [b1]; cases h2 : (keptN h l V).testBit 2
   ·cases h4 : (keptN h l V).testBit 4; · rw [Bool.or_false, Bool.or_false]
    rw [t42 h4] at h2; cases h2
   ·rw [t21 h2]; rfl
  ·rw [b2]; cases h4 : (keptN h l V).testBit 4; · rw [Bool.or_false]
   rw [t42 h4]; rfl
  ·rw [b3]; cases h4 : (keptN h l V).testBit 4; · rw [Bool.or_false]
   rw [t43 h4]; rfl
  ·exact b4
  ·exact b5
 ·have hp : (64 : Nat) ≤ 2 ^ k := by
   have := Nat.pow_le_pow_right (n := 2) (by omega) (show 6 ≤ k by omega)
   omega
  rw [Nat.testBit_lt_two_pow (by omega), Nat.testBit_lt_two_pow (by omega)]
theorem cl_mono {a b : Nat} (ha : a < 64) (hb : b < 64) (H : ∀ k, a.testBit k = true → b.testBit k = true) : ∀ k, (clN a).testBit k = true → (clN b).testBit k = true := by
 intro k hk
 have hla := clN_lt ⟨a, ha⟩
 simp only at hla
 by_cases h6 : k < 6
 ·obtain ⟨a0, a1, a2, a3, a4, a5⟩ := clN_bits ⟨a, ha⟩
  obtain ⟨b0, b1, b2, b3, b4, b5⟩ := clN_bits ⟨b, hb⟩
  simp only at a0 a1 a2 a3 a4 a5 b0 b1 b2 b3 b4 b5
  have h7 : k = 0 ∨ k = 1 ∨ k = 2 ∨ k = 3 ∨ k = 4 ∨ k = 5 := by omega
  have m0 := H 0
  have m1 := H 1
  have m2 := H 2
  have m3 := H 3
  have m4 := H 4
  have m5 := H 5
  rcases h7 with rfl | rfl | rfl | rfl | rfl | rfl
  ·rw [a0, Bool.or_eq_true] at hk; rw [b0, Bool.or_eq_true]; exact hk.imp m0 m5
  ·rw [a1, Bool.or_eq_true, Bool.or_eq_true] at hk; rw [b1, Bool.or_eq_true, Bool.or_eq_true]; exact hk.imp m1 (Or.imp m2 m4)
  ·rw [a2, Bool.or_eq_true] at hk; rw [b2, Bool.or_eq_true]; exact hk.imp m2 m4
  ·rw [a3, Bool.or_eq_true] at hk; rw [b3, Bool.or_eq_true]; exact hk.imp m3 m4
  ·rw [a4] at hk; rw [b4]; exact m4 hk
  ·rw [a5] at hk; rw [b5]; exact m5 hk
 ·have hp : (64 : Nat) ≤ 2 ^ k := by
   have := Nat.pow_le_pow_right (n := 2) (by omega) (show 6 ≤ k by omega)
   omega
  rw [Nat.testBit_lt_two_pow (by omega)] at hk
  cases hk
theorem closed_kept {h : List TxnV} {l : List Int} {V : Mat} (hc : checkI h = 0) (hn : l.Nodup) (hV : inM V (chainR l) = true) {x : Int} (hk : lackN (askN x) (keptN h l V) = 0) : lackN (clN (askN x)) (keptN h l V) = 0 := by
 have hlt : keptN h l V < 64 := keptTo_lt _ _ _
 rw [lack_iff] at *
 intro k e
 rw [← kept_closed hc hn hV]
 exact cl_mono (askN_lt x) hlt hk k e
theorem implied_holds {h : List TxnV} {l : List Int} {V : Mat} (hc : checkI h = 0) (hn : l.Nodup) {x y : Int} (hx : holdsB h x l V = true) (hi : impB x y = true) : holdsB h y l V = true := by
 unfold holdsB at *
 simp only [Bool.and_eq_true, decide_eq_true_eq] at hx ⊢
 unfold impB at hi
 simp only [Bool.and_eq_true, decide_eq_true_eq] at hi
 obtain ⟨hx1, hx2, hx3, hx4⟩ := hx
 obtain ⟨_, hi2, hi3⟩ := hi
 have hV : inM V (chainR l) = true := by
  unfold rightM at hx3
  simp only [Bool.and_eq_true] at hx3
  exact hx3.2.1
 refine ⟨hi2, hx2, hx3, ?_⟩
 have h1 := (lack_iff _ _).1 (closed_kept hc hn hV hx4)
 have h2 := (lack_iff (askN y) (clN (askN x))).1 hi3
 exact (lack_iff _ _).2 (fun k e => h1 k (h2 k e))
end

section
open Go.RowKit
def joinL (F : Nat → Nat) (l : List Nat) : Nat := l.foldl (fun s k => s ||| F k) 0
def joinN (F : Nat → Nat) (s : Nat) : Nat := joinL F (lst s)
theorem joinL_nil (F : Nat → Nat) : joinL F [] = 0 := rfl
theorem joinF_bit (F : Nat → Nat) (j : Nat) : ∀ (l : List Nat) (s : Nat), (l.foldl (fun s k => s ||| F k) s).testBit j = (s.testBit j || l.any fun k => (F k).testBit j)
 | [], s => by simp
 | k :: l, s => by rw [List.foldl_cons, joinF_bit F j l, Nat.testBit_or, List.any_cons, Bool.or_assoc]
theorem joinL_bit (F : Nat → Nat) (l : List Nat) (j : Nat) : (joinL F l).testBit j = l.any fun k => (F k).testBit j := by
 unfold joinL; rw [joinF_bit]; simp
theorem joinL_set {F : Nat → Nat} {l : List Nat} (h : ∀ k ∈ l, IsSet (F k)) : IsSet (joinL F l) := by
 apply isSet_of_bits
 intro i hi
 rw [joinL_bit, List.any_eq_false]
 intro k hk
 rw [(h k hk).high hi]; simp
theorem joinN_set {F : Nat → Nat} {s : Nat} (h : ∀ k, k < 64 → IsSet (F k)) : IsSet (joinN F s) := joinL_set fun k hk => h k (mem_lst.1 hk).1
theorem joinN_iff {F : Nat → Nat} {s : Nat} {j : Nat} : (joinN F s).testBit j = true ↔ ∃ k, k < 64 ∧ s.testBit k = true ∧ (F k).testBit j = true := by
 unfold joinN
 rw [joinL_bit, List.any_eq_true]
 exact ⟨fun ⟨k, hk, hj⟩ => ⟨k, (mem_lst.1 hk).1, (mem_lst.1 hk).2, hj⟩, fun ⟨k, h1, h2, h3⟩ => ⟨k, mem_lst.2 ⟨h1, h2⟩, h3⟩⟩
theorem joinN_congr {F G : Nat → Nat} {s : Nat} (h : ∀ k, k < 64 → s.testBit k = true → F k = G k) : joinN F s = joinN G s := by
 apply Nat.eq_of_testBit_eq
 intro j
 rw [Bool.eq_iff_iff, joinN_iff, joinN_iff]
 exact ⟨fun ⟨k, h1, h2, h3⟩ => ⟨k, h1, h2, by rw [← h k h1 h2]; exact h3⟩, fun ⟨k, h1, h2, h3⟩ => ⟨k, h1, h2, by rw [h k h1 h2]; exact h3⟩⟩
def plS : List Nat → Nat
 | [] => 0
 | i :: r => withS (plS r) (i : Int)
theorem plS_set : ∀ r, IsSet (plS r)
 | [] => by unfold plS IsSet; omega
 | i :: r => isSet_withS (plS_set r)
theorem plS_bit (j : Nat) : ∀ (r : List Nat), (∀ i ∈ r, i < 64) → (plS r).testBit j = decide (j ∈ r)
 | [], _ => by unfold plS; simp
 | i :: r, h => by
  have h1 : decide (0 ≤ (i : Int) ∧ (i : Int) < 64) = true := by have := h i (List.mem_cons_self ..); simp; omega
  unfold plS
  rw [testBit_withS, plS_bit j r (fun a ha => h a (List.mem_cons_of_mem _ ha)), h1, Int.toNat_natCast, Bool.true_and, Bool.eq_iff_iff]
  simp only [Bool.or_eq_true, decide_eq_true_eq, List.mem_cons]
  exact ⟨fun q => q.elim .inr (fun e => .inl e.symm), fun q => q.elim (fun e => .inr e.symm) .inl⟩
theorem plS_pop {i : Nat} {r : List Nat} (hi : i ∉ r) (h : ∀ a ∈ i :: r, a < 64) : woS (plS (i :: r)) (i : Int) = plS r := by
 apply Nat.eq_of_testBit_eq
 intro j
 have h1 : decide (0 ≤ (i : Int) ∧ (i : Int) < 64) = true := by have := h i (List.mem_cons_self ..); simp; omega
 rw [testBit_woS, plS_bit j _ h, plS_bit j r (fun a ha => h a (List.mem_cons_of_mem _ ha)), h1, Int.toNat_natCast, Bool.true_and, Bool.eq_iff_iff]
 simp only [Bool.and_eq_true, decide_eq_true_eq, List.mem_cons, Bool.not_eq_true', decide_eq_false_iff_not]
 constructor
 ·rintro ⟨rfl | q, hne⟩
  ·exact (hne rfl).elim
  ·exact q
 ·intro q
  exact ⟨.inr q, fun e => hi (by rw [e]; exact q)⟩
def wld1 (b pl C : Nat) : Nat := if C.testBit 4 then b ||| pl else b
def wld2 (b pl rv C : Nat) : Nat := if C.testBit 3 then wld1 b pl C ||| (rv &&& pl) else wld1 b pl C
def wld3 (b pl rv C : Nat) (sF : Nat → Nat) : Nat := if C.testBit 1 then wld2 b pl rv C ||| joinN sF (wld2 b pl rv C) else wld2 b pl rv C
def wld4 (b pl rv C : Nat) (sF aF : Nat → Nat) : Nat := if C.testBit 2 then wld3 b pl rv C sF ||| joinN aF (wld3 b pl rv C sF) else wld3 b pl rv C sF
section
variable {b pl rv C : Nat} {sF aF : Nat → Nat}
theorem wld1_set (hb : IsSet b) (hp : IsSet pl) : IsSet (wld1 b pl C) := by unfold wld1; split; exact isSet_or hb hp; exact hb
theorem wld2_set (hb : IsSet b) (hp : IsSet pl) (hr : IsSet rv) : IsSet (wld2 b pl rv C) := by unfold wld2; split; exact isSet_or (wld1_set hb hp) (isSet_and hr); exact wld1_set hb hp
theorem wld3_set (hb : IsSet b) (hp : IsSet pl) (hr : IsSet rv) (hs : ∀ k, k < 64 → IsSet (sF k)) : IsSet (wld3 b pl rv C sF) := by unfold wld3; split; exact isSet_or (wld2_set hb hp hr) (joinN_set hs); exact wld2_set hb hp hr
theorem wld4_set (hb : IsSet b) (hp : IsSet pl) (hr : IsSet rv) (hs : ∀ k, k < 64 → IsSet (sF k)) (ha : ∀ k, k < 64 → IsSet (aF k)) : IsSet (wld4 b pl rv C sF aF) := by unfold wld4; split; exact isSet_or (wld3_set hb hp hr hs) (joinN_set ha); exact wld3_set hb hp hr hs
theorem wld1_in (hb : ∀ j, b.testBit j = true → pl.testBit j = true) {j : Nat} (h : (wld1 b pl C).testBit j = true) : pl.testBit j = true := by
 unfold wld1 at h
 split at h
 ·rw [Nat.testBit_or, Bool.or_eq_true] at h; exact h.elim (hb j) id
 ·exact hb j h
theorem wld2_in (hb : ∀ j, b.testBit j = true → pl.testBit j = true) {j : Nat} (h : (wld2 b pl rv C).testBit j = true) : pl.testBit j = true := by
 unfold wld2 at h
 split at h
 ·rw [Nat.testBit_or, Bool.or_eq_true, Nat.testBit_and, Bool.and_eq_true] at h; exact h.elim (wld1_in hb) And.right
 ·exact wld1_in hb h
theorem wld3_in (hb : ∀ j, b.testBit j = true → pl.testBit j = true) (hs : ∀ k j, pl.testBit k = true → (sF k).testBit j = true → pl.testBit j = true) {j : Nat} (h : (wld3 b pl rv C sF).testBit j = true) : pl.testBit j = true := by
 unfold wld3 at h
 split at h
 ·rw [Nat.testBit_or, Bool.or_eq_true, joinN_iff] at h
  rcases h with h | ⟨k, _, h1, h2⟩
  ·exact wld2_in hb h
  ·exact hs k j (wld2_in hb h1) h2
 ·exact wld2_in hb h
theorem wld4_in (hb : ∀ j, b.testBit j = true → pl.testBit j = true) (hs : ∀ k j, pl.testBit k = true → (sF k).testBit j = true → pl.testBit j = true) (ha : ∀ k j, pl.testBit k = true → (aF k).testBit j = true → pl.testBit j = true) {j : Nat} (h : (wld4 b pl rv C sF aF).testBit j = true) : pl.testBit j = true := by
 unfold wld4 at h
 split at h
 ·rw [Nat.testBit_or, Bool.or_eq_true, joinN_iff] at h
  rcases h with h | ⟨k, _, h1, h2⟩
  ·exact wld3_in hb hs h
  ·exact ha k j (wld3_in hb hs h1) h2
 ·exact wld3_in hb hs h
theorem wld3_congr {sG : Nat → Nat} (hb : ∀ j, b.testBit j = true → pl.testBit j = true) (h : ∀ k, k < 64 → pl.testBit k = true → sF k = sG k) : wld3 b pl rv C sF = wld3 b pl rv C sG := by
 unfold wld3
 rw [joinN_congr fun k hk hb2 => h k hk (wld2_in hb hb2)]
theorem wld4_congr {sG aG : Nat → Nat} (hb : ∀ j, b.testBit j = true → pl.testBit j = true) (h : ∀ k, k < 64 → pl.testBit k = true → sF k = sG k ∧ aF k = aG k) (hs : ∀ k j, pl.testBit k = true → (sF k).testBit j = true → pl.testBit j = true) : wld4 b pl rv C sF aF = wld4 b pl rv C sG aG := by
 have e : wld3 b pl rv C sF = wld3 b pl rv C sG := wld3_congr hb fun k hk hp => (h k hk hp).1
 unfold wld4
 rw [← e, joinN_congr (F := aF) (G := aG) fun k hk hb2 => (h k hk (wld3_in hb hs hb2)).2]
end
def baseN (h : List TxnV) (C i : Nat) : Nat := seeTo (baseM h (C : Int)) (i : Int) 64
theorem baseN_set (h : List TxnV) (C i : Nat) : IsSet (baseN h C i) := seeTo_set _ _ _
def aheadL : List Nat → Nat → Nat
 | [], _ => 0
 | i :: r, k => if k = i then plS r else aheadL r k
def plSee (h : List TxnV) (C : Nat) : List Nat → Nat → Nat
 | [], _ => 0
 | i :: r, k => if k = i then wld4 (baseN h C i) (plS r) (rivN h i) C (plSee h C r) (aheadL r) else plSee h C r k
def nextN (h : List TxnV) (C : Nat) (r : List Nat) (i : Nat) : Nat := wld4 (baseN h C i) (plS r) (rivN h i) C (plSee h C r) (aheadL r)
theorem aheadL_set : ∀ (r : List Nat) (k : Nat), IsSet (aheadL r k)
 | [], _ => by unfold aheadL IsSet; omega
 | i :: r, k => by
  unfold aheadL
  split
  ·exact plS_set r
  ·exact aheadL_set r k
theorem plSee_set (h : List TxnV) (C : Nat) : ∀ (r : List Nat) (k : Nat), IsSet (plSee h C r k)
 | [], _ => by unfold plSee IsSet; omega
 | i :: r, k => by
  unfold plSee
  split
  ·exact wld4_set (baseN_set h C i) (plS_set r) (rivN_set h i) (fun k _ => plSee_set h C r k) (fun k _ => aheadL_set r k)
  ·exact plSee_set h C r k
def readW (h : List TxnV) (aF : Nat → Nat) (seen : Nat) (r : Int × Int) : Nat := if 0 ≤ r.2 then lackN (seen &&& wrtN h r.1) (withS (aF r.2.toNat) r.2) else seen &&& wrtN h r.1
def readP (h : List TxnV) (aF : Nat → Nat) (seen : Nat) (r : Int × Int) : Bool := decide (readW h aF seen r = 0)
def readsP (h : List TxnV) (aF : Nat → Nat) (seen i : Nat) : Bool := (readsOf h i).all (readP h aF seen)
def tryP (h : List TxnV) (C : Nat) (r : List Nat) (i : Nat) : Bool := decide (i < h.length) && (!decide (i ∈ r) && (inB (baseN h C i) (plS r) && readsP h (aheadL r) (nextN h C r i) i))
def tryI (h : List TxnV) (C : Nat) (r : List Nat) (i : Int) : Bool := decide (0 ≤ i) && tryP h C r i.toNat
def plF (B C : Nat) (vb vr : Value) (pl : Nat) (aF sF : Nat → Nat) (i : Nat) : Value :=
 if i = 0 then .pointer (some ⟨B, 0, none⟩) else if i = 1 then .int .i64 (C : Int) else if i = 2 then vb else if i = 3 then vr else if i = 4 then .int .u64 (pl : Int) else
 if i < 69 then .int .u64 ((aF (i - 5) : Nat) : Int) else .int .u64 ((sF (i - 69) : Nat) : Int)
def PlAt (w : World) (S B C : Nat) (vb vr : Value) (pl : Nat) (aF sF : Nat → Nat) : Prop := ∀ i, i < 133 → w.cell? ⟨S, i, none⟩ = some (plF B C vb vr pl aF sF i) ∧ w.frozen? ⟨S, i, none⟩ = false
section
variable {w : World} {S B C : Nat} {vb vr : Value} {pl : Nat} {aF sF : Nat → Nat}
theorem PlAt.lt (h : PlAt w S B C vb vr pl aF sF) : S < w.heap.size := block_lt (h 0 (by omega)).1
theorem PlAt.below {w' : World} {B' : Nat} (h : PlAt w S B C vb vr pl aF sF) (hb : Below B' w w') (hB : S < B') : PlAt w' S B C vb vr pl aF sF := fun i hi => by
 rw [hb.cell (p := ⟨S, i, none⟩) hB, hb.frozen (p := ⟨S, i, none⟩) hB]; exact h i hi
theorem PlAt.grown {w' : World} {row : Option Nat} (h : PlAt w S B C vb vr pl aF sF) (hg : w.grownBy w' row) (hne : some S ≠ row) : PlAt w' S B C vb vr pl aF sF := fun i hi => by
 obtain ⟨h1, h2⟩ := h i hi
 have hb := hg.block S h.lt hne
 have e1 : w'.cell? ⟨S, i, none⟩ = w.cell? ⟨S, i, none⟩ := by simp only [World.cell?]; rw [hb]
 have e2 : w'.frozen? ⟨S, i, none⟩ = w.frozen? ⟨S, i, none⟩ := by simp only [World.frozen?]; rw [hb]
 rw [e1, e2]; exact ⟨h1, h2⟩
theorem PlAt.cO (h : PlAt w S B C vb vr pl aF sF) : w.cell? ⟨S, 0, none⟩ = some (.pointer (some ⟨B, 0, none⟩)) := (h 0 (by omega)).1
theorem PlAt.cC (h : PlAt w S B C vb vr pl aF sF) : w.cell? ⟨S, 1, none⟩ = some (.int .i64 (C : Int)) := (h 1 (by omega)).1
theorem PlAt.cB (h : PlAt w S B C vb vr pl aF sF) : w.cell? ⟨S, 2, none⟩ = some vb := (h 2 (by omega)).1
theorem PlAt.cR (h : PlAt w S B C vb vr pl aF sF) : w.cell? ⟨S, 3, none⟩ = some vr := (h 3 (by omega)).1
theorem PlAt.cP (h : PlAt w S B C vb vr pl aF sF) : w.cell? ⟨S, 4, none⟩ = some (.int .u64 (pl : Int)) := (h 4 (by omega)).1
theorem PlAt.cA (h : PlAt w S B C vb vr pl aF sF) {k : Nat} (hk : k < 64) : w.cell? ⟨S, 5 + k, none⟩ = some (.int .u64 ((aF k : Nat) : Int)) := by
 rw [(h (5 + k) (by omega)).1]; unfold plF
 rw [if_neg (by omega), if_neg (by omega), if_neg (by omega), if_neg (by omega), if_neg (by omega), if_pos (by omega), Nat.add_sub_cancel_left]
theorem PlAt.cS (h : PlAt w S B C vb vr pl aF sF) {k : Nat} (hk : k < 64) : w.cell? ⟨S, 69 + k, none⟩ = some (.int .u64 ((sF k : Nat) : Int)) := by
 rw [(h (69 + k) (by omega)).1]; unfold plF
 rw [if_neg (by omega), if_neg (by omega), if_neg (by omega), if_neg (by omega), if_neg (by omega), if_neg (by omega), Nat.add_sub_cancel_left]
theorem PlAt.free (h : PlAt w S B C vb vr pl aF sF) {i : Nat} (hi : i < 133) : w.frozen? ⟨S, i, none⟩ = false := (h i hi).2
theorem PlAt.put (h : PlAt w S B C vb vr pl aF sF) (k : Nat) (v : Value) {vb' vr' : Value} {pl' : Nat} {aF' sF' : Nat → Nat} (h1 : plF B C vb' vr' pl' aF' sF' k = v)
  (h2 : ∀ i, i < 133 → i ≠ k → plF B C vb' vr' pl' aF' sF' i = plF B C vb vr pl aF sF i) : PlAt (w.setCell ⟨S, k, none⟩ v) S B C vb' vr' pl' aF' sF' := fun i hi => by
 refine ⟨?_, by rw [World.frozen?_setCell]; exact (h i hi).2⟩
 by_cases e : i = k
 ·subst e
  rw [World.cell?_setCell_same _ _ _ (h i hi).1, h1]
 ·have hne : (⟨S, k, none⟩ : Addr) ≠ ⟨S, i, none⟩ := by
   intro q
   injection q with _ q2
   exact e q2.symm
  rw [World.cell?_setCell_other _ _ _ _ hne, h2 i hi e]
  exact (h i hi).1
theorem PlAt.setB (h : PlAt w S B C vb vr pl aF sF) (v : Value) : PlAt (w.setCell ⟨S, 2, none⟩ v) S B C v vr pl aF sF := h.put 2 v rfl (fun i _ e => by unfold plF; simp [e])
theorem PlAt.setR (h : PlAt w S B C vb vr pl aF sF) (v : Value) : PlAt (w.setCell ⟨S, 3, none⟩ v) S B C vb v pl aF sF := h.put 3 v rfl (fun i _ e => by unfold plF; simp [e])
theorem PlAt.setP (h : PlAt w S B C vb vr pl aF sF) (s : Nat) : PlAt (w.setCell ⟨S, 4, none⟩ (.int .u64 (s : Int))) S B C vb vr s aF sF := h.put 4 _ rfl (fun i _ e => by unfold plF; simp [e])
def updN (F : Nat → Nat) (i s : Nat) : Nat → Nat := fun k => if k = i then s else F k
theorem PlAt.setA (h : PlAt w S B C vb vr pl aF sF) {k : Nat} (hk : k < 64) (s : Nat) : PlAt (w.setCell ⟨S, 5 + k, none⟩ (.int .u64 (s : Int))) S B C vb vr pl (updN aF k s) sF := h.put (5 + k) _
 (by unfold plF updN; rw [if_neg (by omega), if_neg (by omega), if_neg (by omega), if_neg (by omega), if_neg (by omega), if_pos (by omega), if_pos (by omega)])
 (fun i _ e => by
  unfold plF updN
  by_cases h5 : i < 5
  ·have : i = 0 ∨ i = 1 ∨ i = 2 ∨ i = 3 ∨ i = 4 := by omega
   rcases this with rfl | rfl | rfl | rfl | rfl <;> rfl
  ·have : ¬ i - 5 = k := by omega
   simp only [this, if_false])
theorem PlAt.setS (h : PlAt w S B C vb vr pl aF sF) {k : Nat} (hk : k < 64) (s : Nat) : PlAt (w.setCell ⟨S, 69 + k, none⟩ (.int .u64 (s : Int))) S B C vb vr pl aF (updN sF k s) := h.put (69 + k) _
 (by unfold plF updN; rw [if_neg (by omega), if_neg (by omega), if_neg (by omega), if_neg (by omega), if_neg (by omega), if_neg (by omega), if_pos (by omega)])
 (fun i _ e => by
  unfold plF updN
  by_cases h5 : i < 69
  ·by_cases h6 : i < 5
   ·have : i = 0 ∨ i = 1 ∨ i = 2 ∨ i = 3 ∨ i = 4 := by omega
    rcases this with rfl | rfl | rfl | rfl | rfl <;> rfl
   ·simp only [h5, if_true]
  ·have : ¬ i - 69 = k := by omega
   simp only [this, if_false])
end
structure PlIs (W : World) (S B b : Nat) (h : List TxnV) (C : Nat) (r : List Nat) (vb vr : Value) (aF sF : Nat → Nat) (w : World) : Prop where
 o : OrdIs W B b h
 t : Tab W
 bel : Below W.heap.size W w
 low : W.heap.size ≤ S
 a : PlAt w S B C vb vr (plS r) aF sF
 ba : w.ownsRow (S + 1) 106 1 vb h.length ((List.range h.length).map fun i => .int .u64 ((baseN h C i : Nat) : Int))
 rw : w.ownsRow (S + 1) 3 1 vr r.length (r.reverse.map fun i : Nat => .int .i64 (i : Int))
 ne : ∀ g, vb.ownBlock = some g → vr.ownBlock ≠ some g
 set : ∀ k, k < 64 → IsSet (aF k) ∧ IsSet (sF k)
 eq : ∀ k ∈ r, aF k = aheadL r k ∧ sF k = plSee h C r k
 nd : r.Nodup
 lt : ∀ k ∈ r, k < h.length
 base : ∀ k ∈ r, ∀ j, (baseN h C k).testBit j = true → (aheadL r k).testBit j = true
structure PlStep (S : Nat) (vr vr' : Value) (w w' : World) : Prop where
 os : w'.os = w.os
 tape : w'.tape = w.tape
 output : w'.output = w.output
 size : w.heap.size ≤ w'.heap.size
 block : ∀ k, k < w.heap.size → k ≠ S → vr.ownBlock ≠ some k → w'.heap[k]? = w.heap[k]?
 own : ∀ g, vr'.ownBlock = some g → vr.ownBlock = some g ∨ w.heap.size ≤ g
theorem PlStep.of_below {S : Nat} {vr : Value} {w w' : World} (hb : Below w.heap.size w w') : PlStep S vr vr w w' := ⟨hb.os, hb.tape, hb.output, hb.size, fun k hk _ _ => hb.block k hk, fun _ hg => .inl hg⟩
theorem PlStep.refl (S : Nat) (vr : Value) (w : World) : PlStep S vr vr w w := .of_below (Below.refl _ _)
theorem PlStep.trans {S : Nat} {v1 v2 v3 : Value} {w1 w2 w3 : World} (h : PlStep S v1 v2 w1 w2) (k : PlStep S v2 v3 w2 w3) : PlStep S v1 v3 w1 w3 := by
 refine ⟨k.os.trans h.os, k.tape.trans h.tape, k.output.trans h.output, Nat.le_trans h.size k.size, fun j hj hs hv => ?_, fun g hg => ?_⟩
 ·refine (k.block j (Nat.lt_of_lt_of_le hj h.size) hs (fun e => ?_)).trans (h.block j hj hs hv)
  rcases h.own j e with q | q
  ·exact hv q
  ·omega
 ·rcases k.own g hg with q | q
  ·exact h.own g q
  ·exact .inr (Nat.le_trans h.size q)
section
variable {W : World} {S B b : Nat} {h : List TxnV} {C : Nat} {r : List Nat} {vb vr : Value} {aF sF : Nat → Nat} {w w' : World}
theorem pl_far {base : Nat} {e : TypeId} {size n : Nat} {v : Value} {xs : List Value} (hr : w.ownsRow base e size v n xs) {p : Addr} (hp : p.block < base) (u : Value) : (w.setCell p u).ownsRow base e size v n xs :=
 ownsRow_setCell_other hr (fun e => by have := (hr.lt _ e).1; omega) u
theorem PlIs.below (p : PlIs W S B b h C r vb vr aF sF w) (hb : Below w.heap.size w w') : PlIs W S B b h C r vb vr aF sF w' :=
 ⟨p.o, p.t, p.bel.trans (hb.mono p.bel.size), p.low, p.a.below hb p.a.lt, owns_below p.ba hb, owns_below p.rw hb, p.ne, p.set, p.eq, p.nd, p.lt, p.base⟩
theorem PlIs.ord (p : PlIs W S B b h C r vb vr aF sF w) : OrdIs w B b h := p.o.below p.bel
theorem PlIs.tab (p : PlIs W S B b h C r vb vr aF sF w) : Tab w := p.t.below p.bel (p.t.pos)
theorem ahead_in {r : List Nat} (hlt : ∀ k ∈ r, k < 64) : ∀ {k j : Nat}, (aheadL r k).testBit j = true → (plS r).testBit j = true := by
 induction r with
 | nil => intro k j hj; unfold aheadL at hj; simp at hj
 | cons i r ih =>
  intro k j hj
  have hlt' : ∀ a ∈ r, a < 64 := fun a ha => hlt a (List.mem_cons_of_mem _ ha)
  have : (plS r).testBit j = true := by
   unfold aheadL at hj
   split at hj
   ·exact hj
   ·exact ih hlt' hj
  rw [plS_bit j _ hlt', decide_eq_true_eq] at this
  rw [plS_bit j _ hlt, decide_eq_true_eq]
  exact List.mem_cons_of_mem _ this
theorem base_tail {i : Nat} (hi : i ∉ r) (hb : ∀ k ∈ i :: r, ∀ j, (baseN h C k).testBit j = true → (aheadL (i :: r) k).testBit j = true) : (∀ k ∈ r, ∀ j, (baseN h C k).testBit j = true → (aheadL r k).testBit j = true) ∧ ∀ j, (baseN h C i).testBit j = true → (plS r).testBit j = true := by
 constructor
 ·intro k hk j hj
  have := hb k (List.mem_cons_of_mem _ hk) j hj
  unfold aheadL at this
  rwa [if_neg (fun e => hi (by rw [← e]; exact hk))] at this
 ·intro j hj
  have := hb i (List.mem_cons_self ..) j hj
  unfold aheadL at this
  rwa [if_pos rfl] at this
theorem sees_ahead {r : List Nat} (hlt : ∀ k ∈ r, k < 64) (hnd : r.Nodup) (hb : ∀ k ∈ r, ∀ j, (baseN h C k).testBit j = true → (aheadL r k).testBit j = true) : ∀ {k j : Nat}, (plSee h C r k).testBit j = true → (aheadL r k).testBit j = true := by
 induction r with
 | nil => intro k j hj; unfold plSee at hj; simp at hj
 | cons i r ih =>
  intro k j hj
  have hlt' : ∀ a ∈ r, a < 64 := fun a ha => hlt a (List.mem_cons_of_mem _ ha)
  obtain ⟨hi, hnd'⟩ := List.nodup_cons.1 hnd
  obtain ⟨hb', hbi⟩ := base_tail hi hb
  unfold plSee at hj
  unfold aheadL
  split at hj
  ·rename_i e
   rw [if_pos e]
   exact wld4_in hbi (fun k j _ hj => ahead_in hlt' (ih hlt' hnd' hb' hj)) (fun k j _ hj => ahead_in hlt' hj) hj
  ·rename_i e
   rw [if_neg e]
   exact ih hlt' hnd' hb' hj
end
end

section
open Go.RowKit
def PlX (w0 : World) (N S B b : Nat) (h : List TxnV) (C : Nat) (r : List Nat) (vb vr : Value) (aF sF : Nat → Nat) (w : World) : Prop :=
 ∃ W, Below w0.heap.size w0 W ∧ W.heap.size = N ∧ PlIs W S B b h C r vb vr aF sF w
structure ApartQ (Q : Nat → Prop) (w w' : World) : Prop where
 os : w'.os = w.os
 tape : w'.tape = w.tape
 output : w'.output = w.output
 size : w.heap.size ≤ w'.heap.size
 block : ∀ k, k < w.heap.size → ¬ Q k → w'.heap[k]? = w.heap[k]?
theorem ApartQ.of_grown {w w' : World} {T : Nat} (hg : w.grownBy w' (some T)) : ApartQ (fun k => k = T) w w' := ⟨hg.os, hg.tape, hg.output, hg.size, fun k hk hn => hg.block k hk fun e => hn (by injection e)⟩
theorem own_block {w w' : World} {base : Nat} {e : TypeId} {size n : Nat} {v : Value} {xs : List Value} (h : w.ownsRow base e size v n xs) (hg : ∀ g, v.ownBlock = some g → w'.heap[g]? = w.heap[g]?) : w'.ownsRow base e size v n xs := by
 refine ⟨h.1, ?_⟩
 rcases h.2 with hn | ⟨g, cap, cur, rfl, hb, hgg, rest⟩
 ·exact .inl hn
 ·exact .inr ⟨g, cap, cur, rfl, hb, (hg g rfl).trans hgg, rest⟩
section
variable {w0 W w w' : World} {N S B b T : Nat} {h : List TxnV} {C : Nat} {r : List Nat} {vb vr : Value} {aF sF : Nat → Nat}
theorem PlX.below (p : PlX w0 N S B b h C r vb vr aF sF w) (hb : Below w.heap.size w w') : PlX w0 N S B b h C r vb vr aF sF w' := by
 obtain ⟨W, h1, h2, q⟩ := p; exact ⟨W, h1, h2, q.below hb⟩
theorem PlX.lowS (p : PlX w0 N S B b h C r vb vr aF sF w) : N ≤ S ∧ S < w.heap.size ∧ w0.heap.size ≤ N := by
 obtain ⟨W, h1, h2, q⟩ := p; rw [← h2]; exact ⟨q.low, q.a.lt, h1.size⟩
theorem PlX.own (p : PlX w0 N S B b h C r vb vr aF sF w) : (∀ g, vb.ownBlock = some g → S < g ∧ g < w.heap.size) ∧ ∀ g, vr.ownBlock = some g → S < g ∧ g < w.heap.size := by
 obtain ⟨W, h1, h2, q⟩ := p
 exact ⟨fun g hg => q.ba.lt g hg, fun g hg => q.rw.lt g hg⟩
theorem PlX.apart (p : PlX w0 N S B b h C r vb vr aF sF w) (hO : OrdIs w0 B b h) (ht : Tab w0) {Q : Nat → Prop} (hg : ApartQ Q w w') (h0 : ∀ k, Q k → w0.heap.size ≤ k) (hS : ¬ Q S) (hvb : ∀ g, vb.ownBlock = some g → ¬ Q g) (hvr : ∀ g, vr.ownBlock = some g → ¬ Q g) : PlX w0 N S B b h C r vb vr aF sF w' := by
 obtain ⟨W, h1, rfl, q⟩ := p
 have hSl := q.a.lt
 have hlow := q.low
 have hws := q.bel.size
 have hgs := hg.size
 have hsz : (w'.heap.extract 0 W.heap.size).size = W.heap.size := by simp; omega
 have hget : ∀ k, k < W.heap.size → (w'.heap.extract 0 W.heap.size)[k]? = w'.heap[k]? := fun k hk => by
  rw [Array.getElem?_extract]; simp; omega
 have hB : Below w0.heap.size w0 { W with heap := w'.heap.extract 0 W.heap.size } := by
  refine ⟨h1.os, h1.tape, h1.output, ?_, fun k hk => ?_⟩
  ·show w0.heap.size ≤ (w'.heap.extract 0 W.heap.size).size
   rw [hsz]; exact h1.size
  ·have hkW : k < W.heap.size := Nat.lt_of_lt_of_le hk h1.size
   show (w'.heap.extract 0 W.heap.size)[k]? = _
   rw [hget k hkW, hg.block k (by omega) (fun e => by have := h0 k e; omega), q.bel.block k hkW]
   exact h1.block k hk
 refine ⟨{ W with heap := w'.heap.extract 0 W.heap.size }, hB, hsz, hO.below hB, ht.below hB ht.pos, ?_, ?_, ?_, ?_, ?_, q.ne, q.set, q.eq, q.nd, q.lt, q.base⟩
 ·refine ⟨hg.os.trans q.bel.os, hg.tape.trans q.bel.tape, hg.output.trans q.bel.output, ?_, fun k hk => ?_⟩
  ·show (w'.heap.extract 0 W.heap.size).size ≤ _
   rw [hsz]; omega
  ·have hk : k < W.heap.size := by rw [← hsz]; exact hk
   exact (hget k hk).symm
 ·show (w'.heap.extract 0 W.heap.size).size ≤ S
  rw [hsz]; exact hlow
 ·intro i hi
  obtain ⟨a1, a2⟩ := q.a i hi
  have hb := hg.block S hSl hS
  exact ⟨(World.cell?_of_block (a := ⟨S, i, none⟩) hb).trans a1, (World.frozen?_of_block (a := ⟨S, i, none⟩) hb).trans a2⟩
 ·exact own_block q.ba fun g e => hg.block g (q.ba.lt g e).2 (hvb g e)
 ·exact own_block q.rw fun g e => hg.block g (q.rw.lt g e).2 (hvr g e)
end
end

section
open Go.RowKit
section
variable {W : World} {S B b : Nat} {h : List TxnV} {C : Nat} {r : List Nat} {vb vr : Value} {aF sF : Nat → Nat} {w : World}
theorem pasks_any (p : PlIs W S B b h C r vb vr aF sF w) : Calls Tryz.prog 228 #[.pointer (some ⟨S, 0, none⟩)] w fun e w' => e = .returned (.int .i64 (C : Int)) ∧ w = w' := by
 have h1 := p.a.cC
 clear p
 go_enter Tryz.func228, Tryz.ntmps228
 go_wp2_with fail
 go_ret
 exact ⟨rfl, rfl⟩
theorem pplaced_any (p : PlIs W S B b h C r vb vr aF sF w) : Calls Tryz.prog 172 #[.pointer (some ⟨S, 0, none⟩)] w fun e w' => e = .returned (.int .u64 ((plS r : Nat) : Int)) ∧ w = w' := by
 have h1 := p.a.cP
 clear p
 generalize plS r = s at *
 go_enter Tryz.func172, Tryz.ntmps172
 go_wp2_with fail
 go_ret
 exact ⟨rfl, rfl⟩
theorem PlIs.row (p : PlIs W S B b h C r vb vr aF sF w) : Ints w vr (r.reverse.map Int.ofNat) := by
 have h1 := Row.of_owns p.rw
 unfold Ints
 rw [List.map_map]
 have : (Value.int IntKind.i64 ∘ Int.ofNat) = fun i : Nat => Value.int .i64 (i : Int) := rfl
 rw [this, List.length_map, List.length_reverse]
 exact h1
theorem PlIs.form (p : PlIs W S B b h C r vb vr aF sF w) : ∃ ao cap, vr = .slice ao r.length cap := by
 obtain ⟨ao, cap, e, _⟩ := p.row.form
 rw [List.length_map, List.length_reverse] at e
 exact ⟨ao, cap, e⟩
theorem nodup_len : ∀ (n : Nat) (l : List Nat), l.Nodup → (∀ k ∈ l, k < n) → l.length ≤ n
 | 0, [], _, _ => Nat.le_refl _
 | 0, k :: l, _, h => absurd (h k (List.mem_cons_self ..)) (by omega)
 | n + 1, l, hn, h => by
  by_cases hm : n ∈ l
  ·have h1 := nodup_len n (l.erase n) (hn.erase n) (fun k hk => by
    have := (hn.mem_erase_iff).1 hk
    have := h k this.2
    omega)
   have h2 := List.length_erase_of_mem hm
   have h3 := List.length_pos_of_mem hm
   omega
  ·have := nodup_len n l hn (fun k hk => by
    have := h k hk
    have : k ≠ n := fun e => hm (by rw [← e]; exact hk)
    omega)
   omega
theorem PlIs.len (p : PlIs W S B b h C r vb vr aF sF w) : r.length ≤ h.length := nodup_len _ _ p.nd p.lt
theorem pdone_any (p : PlIs W S B b h C r vb vr aF sF w) : Calls Tryz.prog 169 #[.pointer (some ⟨S, 0, none⟩)] w fun e w' => e = .returned (.bool (decide (r.length = h.length))) ∧ Below w.heap.size w w' := by
 have h1 := p.a.cR
 have h0 := p.a.cO
 have h2 := p.ord.blk.cN
 obtain ⟨ao, cap, rfl⟩ := p.form
 have HE : Hid ((((r.length : Int) == (h.length : Int)) : Bool) = decide (r.length = h.length)) := hid (by
  rw [Bool.eq_iff_iff, beq_iff_eq, decide_eq_true_eq]; omega)
 generalize decide (r.length = h.length) = x at *
 clear p
 go_enter Tryz.func169, Tryz.ntmps169
 go_wp2_with fail
 go_quiet (fail)
 go_wp2_with fail
 go_ret
 exact ⟨ret_b HE.out, below_drewN (Below.refl _ _) _⟩
def plSeeI (h : List TxnV) (C : Nat) (r : List Nat) (i : Int) : Nat := if hasB (plS r) i then plSee h C r i.toNat else 0
theorem plSeeI_set (h : List TxnV) (C : Nat) (r : List Nat) (i : Int) : IsSet (plSeeI h C r i) := by
 unfold plSeeI; split
 ·exact plSee_set h C r _
 ·unfold IsSet; omega
theorem psees_any (i : Int) (p : PlIs W S B b h C r vb vr aF sF w) (h64 : h.length ≤ 64) : Calls Tryz.prog 177 #[.pointer (some ⟨S, 0, none⟩), .int .i64 i] w fun e w' => e = .returned (.int .u64 ((plSeeI h C r i : Nat) : Int)) ∧ w = w' := by
 have h1 := p.a.cP
 have hset := plS_set r
 have hlt64 : ∀ k ∈ r, k < 64 := fun k hk => by have := p.lt k hk; omega
 have CH := hid (fun wx => has_any (plS r) i wx hset)
 cases hh : hasB (plS r) i with
 | false =>
  have HV : Hid ((0 : Int) = ((plSeeI h C r i : Nat) : Int)) := hid (by unfold plSeeI; rw [hh]; rfl)
  rw [hh] at CH
  clear hh hset p
  generalize plS r = s at *
  go_enter Tryz.func177, Tryz.ntmps177
  go_wp2_with fail
  refine (CH.out _).mono ?_
  rintro e w1 ⟨rfl, rfl⟩
  go_wp2_with fail
  go_ret
  exact ⟨ret_i HV.out, rfl⟩
 | true =>
  have hb2 := hh
  unfold hasB at hb2
  rw [Bool.and_eq_true, decide_eq_true_eq] at hb2
  obtain ⟨⟨hi0, hi64⟩, hb2⟩ := hb2
  obtain ⟨k, rfl⟩ := Int.eq_ofNat_of_zero_le hi0
  rw [Int.toNat_natCast] at hb2
  have hk64 : k < 64 := by omega
  have hkr : k ∈ r := by rw [plS_bit k r hlt64, decide_eq_true_eq] at hb2; exact hb2
  have h3 := p.a.cS hk64
  rw [(p.eq k hkr).2] at h3
  have HV : Hid (((plSee h C r k : Nat) : Int) = ((plSeeI h C r (k : Int) : Nat) : Int)) := hid (by unfold plSeeI; rw [hh]; rfl)
  rw [hh] at CH
  clear hh hset p hb2 hkr hlt64
  generalize plS r = s at *
  generalize plSee h C r k = y at *
  go_enter Tryz.func177, Tryz.ntmps177
  go_wp2_with fail
  refine (CH.out _).mono ?_
  rintro e w1 ⟨rfl, rfl⟩
  go_wp2_with fail
  go_ret
  exact ⟨ret_i HV.out, rfl⟩
end
theorem joinF_fold (F : Nat → Nat) : ∀ (l : List Nat) (s : Nat), l.foldl (fun s k => s ||| F k) s = s ||| joinL F l
 | [], s => by rw [joinL_nil]; simp
 | k :: l, s => by
  have e : joinL F (k :: l) = F k ||| joinL F l := by
   show l.foldl _ (0 ||| F k) = _
   rw [joinF_fold F l, Nat.zero_or]
  rw [List.foldl_cons, joinF_fold F l, e, Nat.or_assoc]
theorem joinN_step {F : Nat → Nat} {c : Nat} (hne : lst c ≠ []) (a : Nat) : a ||| joinN F c = (a ||| F (fst c)) ||| joinN F (woS c (fst c : Int)) := by
 have e : lst c = fst c :: lst (woS c (fst c : Int)) := by
  have := lst_step (S := c) (c := c) (acc := []) (by simp) hne
  simpa using this
 unfold joinN
 rw [e]
 show a ||| (lst (woS c (fst c : Int))).foldl _ (0 ||| F (fst c)) = _
 rw [joinF_fold, Nat.zero_or, Nat.or_assoc]
theorem joined_any (S o : Nat) (F : Nat → Nat) (s : Nat) (w : World) (hs : IsSet s) (hF : ∀ k, k < 64 → IsSet (F k)) (hcell : ∀ k, k < 64 → w.cell? ⟨S, o + k, none⟩ = some (.int .u64 ((F k : Nat) : Int))) (ht : Tab w) :
  Calls Tryz.prog 263 #[.int .u64 (s : Int), .pointer (some ⟨S, o, none⟩)] w fun e w' => e = .returned (.int .u64 ((joinN F s : Nat) : Int)) ∧ Below w.heap.size w w' := by
 have HT := hid (fun wx (hx : Below w.heap.size w wx) => ht.below hx ht.pos)
 have HC := hid (fun wx (hx : Below w.heap.size w wx) k (hk : k < 64) => (hx.cell (p := ⟨S, o + k, none⟩) (block_lt (hcell k hk))).trans (hcell k hk))
 have HF := hid hF
 have HV : Hid (joinN F s = 0 ||| joinN F s) := hid (Nat.zero_or _).symm
 clear hcell ht hF
 go_enter Tryz.func263, Tryz.ntmps263
 go_wp2_with fail
 go_loopw [0, 5] (fun v x wr => ∃ c a : Nat, IsSet c ∧ IsSet a ∧ v = .int .u64 (c : Int) ∧ x = .int .u64 (a : Int) ∧ Hid (joinN F s = a ||| joinN F c) ∧ Below w.heap.size w wr)
  (fun v _ _ => (lst (intOf v).toNat).length)
 case atStart => exact ⟨s, 0, hs, by unfold IsSet; omega, rfl, rfl, HV, Below.refl _ _⟩
 case round =>
  clear HV
  obtain ⟨c, a, hc, ha, rfl, rfl, HJ, hb⟩ := hrel
  rcases Nat.eq_zero_or_pos c with h0 | h0
  ·subst h0
   have HR : Hid (((a : Nat) : Int) = ((joinN F s : Nat) : Int)) := hid (by rw [HJ.out]; unfold joinN; rw [lst_zero, joinL_nil, Nat.or_zero])
   go_wp2_with fail
   go_ret
   exact ⟨ret_i HR.out, hb⟩
  ·have hne := lst_ne hc h0
   have h0i : ((c : Int) != 0) = true := by rw [bne_iff_ne]; omega
   have hwo := isSet_woS (n := (fst c : Int)) hc
   have hfl : fst c < 64 := fst_lt hne
   have HN : Hid (joinN F s = (a ||| F (fst c)) ||| joinN F (woS c (fst c : Int))) := hid (by rw [HJ.out, joinN_step hne])
   have HD := hid (lst_less hne)
   have hff := HF.out _ hfl
   have hor := isSet_or ha hff
   have HOR : Hid (Go.bits .or .u64 (a : Int) ((F (fst c) : Nat) : Int) = ((a ||| F (fst c) : Nat) : Int)) := hid (Go.bits_or_u64_nat _ _ ha hff)
   have CF := hid (fun n => (first_any c (wr.drewN n) hc (HT.out _ (below_drewN hb n))).mono fun _ _ h => And.intro h.1 h.2.symm)
   have CF2 := hid (fun wx (hx : Below w.heap.size w wx) => first_any c wx hc (HT.out _ hx))
   have CW := hid (fun wx => wo_any c (fst c : Int) wx hc)
   have hcell := HC.out _ hb _ hfl
   generalize woS c (fst c : Int) = c2 at *
   generalize F (fst c) = y at *
   generalize fst c = f at *
   have hfi : (f : Int) < 64 := by omega
   clear hne HJ h0
   go_wp2_with fail
   go_quiet ((go_at_call 262; exact Calls.quiet_of_same (CF.out _)))
   rw [HOR.out]
   have hb2 := below_drewN hb nq
   generalize wr.drewN nq = w2 at *
   go_wp2_with (first
    | (go_at_call 262; refine (CF2.out _ hb2).mono ?_; rintro e w' ⟨rfl, rfl⟩)
    | (go_at_call 233; refine (CW.out _).mono ?_; rintro e w' ⟨rfl, rfl⟩))
   go_roundw
   case rel => exact ⟨c2, a ||| y, hwo, hor, rfl, rfl, HN, hb2⟩
   case measure => simp only [intOf, Int.toNat_natCast]; exact HD.out
end

section
open Go.RowKit
theorem hasB_nat {s : Nat} {n : Nat} (hn : n < 64) : hasB s (n : Int) = s.testBit n := by
 unfold hasB
 rw [decide_eq_true (by omega), Bool.true_and, Int.toNat_natCast]
theorem lastI_snoc (l : List Int) (a : Int) (s : Nat) : lastI (l ++ [a]) s = if hasB s a then a else lastI l s := by
 unfold lastI lastTo
 rw [List.take_length, List.take_length, List.foldl_append]
 rfl
theorem lastI_has : ∀ (r : List Int) (s : Nat), lastI r.reverse s = -1 ∨ hasB s (lastI r.reverse s) = true
 | [], s => .inl rfl
 | a :: r, s => by
  rw [List.reverse_cons, lastI_snoc]
  cases ha : hasB s a with
  | true => rw [if_pos rfl]; exact .inr ha
  | false => rw [if_neg (by decide)]; exact lastI_has r s
theorem lastI_sub {s t : Nat} (hs : ∀ a, hasB t a = true → hasB s a = true) : ∀ (r : List Int), (hasB s (lastI r.reverse s) = true → hasB t (lastI r.reverse s) = true) → lastI r.reverse t = lastI r.reverse s
 | [], _ => rfl
 | a :: r, hf => by
  rw [List.reverse_cons, lastI_snoc] at hf
  rw [List.reverse_cons, lastI_snoc, lastI_snoc]
  cases ha : hasB s a with
  | true =>
   rw [ha, if_pos rfl] at hf
   rw [hf ha]
   rfl
  | false =>
   rw [ha, if_neg (by decide)] at hf
   have hb : hasB t a = false := by
    cases hb : hasB t a with
    | false => rfl
    | true => rw [hs a hb] at ha; cases ha
   rw [hb, if_neg (by decide), if_neg (by decide)]
   exact lastI_sub hs r hf
theorem hasB_range {s : Nat} {a : Int} (h : hasB s a = true) : ∃ n : Nat, n < 64 ∧ a = (n : Int) ∧ s.testBit n = true := by
 unfold hasB at h
 rw [Bool.and_eq_true, decide_eq_true_eq] at h
 exact ⟨a.toNat, by omega, by omega, h.2⟩
theorem seen_bit {V : Mat} {h : List TxnV} {y : Int} {i n : Nat} (hi : i < 64) (hn : n < 64) : (seeTo V (i : Int) 64 &&& wrtN h y).testBit n = (V n i && (wrtN h y).testBit n) := by
 rw [Nat.testBit_and, seeTo_bit V (i : Int) n 64 (Nat.le_refl 64), decide_eq_true hn, Bool.true_and, hasR_nat V n i hn hi]
theorem right_from {h : List TxnV} {l : List Int} {V : Mat} (hr : rightM h l V = true) {i j : Nat} (hi : i < 64) (hj : j < 64) (hf : froM h i j = true) : V i j = true := by
 obtain ⟨h1, h2, h3⟩ := (prsTo_iff (froP h) h.length i j hi hj h.length).1 hf
 unfold froP at h3
 rw [List.any_eq_true] at h3
 obtain ⟨r, hr1, hr2⟩ := h3
 rw [decide_eq_true_eq] at hr2
 unfold rightM at hr
 simp only [Bool.and_eq_true] at hr
 have hrt := hr.2.2
 unfold rightTo at hrt
 rw [List.all_eq_true] at hrt
 have h5 := List.all_eq_true.1 (hrt j (List.mem_range.2 (by omega))) r hr1
 unfold readOk at h5
 rw [decide_eq_true_eq, hr2] at h5
 have h6 := lastI_has l.reverse (seeTo V (j : Int) 64 &&& wrtN h r.1)
 rw [List.reverse_reverse, h5] at h6
 rcases h6 with h6 | h6
 ·omega
 ·rw [hasB_nat hi, seen_bit hj hi, Bool.and_eq_true] at h6
  exact h6.1
theorem least_base {h : List TxnV} {x : Nat} {l : List Int} {R : Mat} (hx : x < 9223372036854775808) (hR : LeastIs h x l R) {i j : Nat} (hi : i < 64) (hj : j < 64)
  (hb : froM h i j = true ∨ (x.testBit 0 = true ∧ sesM h i j = true) ∨ (x.testBit 5 = true ∧ timM h i j = true) ∨ (x.testBit 3 = true ∧ rivM h (chainR l) i j = true) ∨ (x.testBit 4 = true ∧ chainR l i j = true)) : R i j = true := by
 refine (hR i j hi hj).2 (.base ((startM_iff h x hx _ i j).2 ?_))
 rw [baseM_iff h x hx]
 rcases hb with hb | hb | hb | hb | hb
 ·exact .inl (.inl hb)
 ·exact .inl (.inr (.inl hb))
 ·exact .inl (.inr (.inr hb))
 ·exact .inr (.inl hb)
 ·exact .inr (.inr hb)
theorem least_in {h : List TxnV} {x : Int} {l : List Int} {V R : Mat} (hV : holdsB h x l V = true) (hR : LeastIs h (askN x) l R) : inM R V = true := by
 have hlt := askN_lt x
 have hx : askN x < 9223372036854775808 := by omega
 unfold holdsB at hV
 simp only [Bool.and_eq_true, decide_eq_true_eq] at hV
 obtain ⟨_, _, hr, hk⟩ := hV
 have hk := (lack_iff _ _).1 hk
 have K : ∀ k, k < 6 → (askN x).testBit k = true → ∀ i j, i < 64 → j < 64 → keptM h (chainR l) V k i j = true → V i j = true := fun k hk6 hb => (inM_iff _ _).1 ((kept_bit h l V hk6).symm.trans (hk k hb))
 rw [inM_iff]
 intro i j hi hj hr2
 refine must_in (V := fun i j => V i j = true) ?_ ?_ ?_ ((hR i j hi hj).1 hr2) hi hj
 ·intro i j hi hj hs
  rw [startM_iff h _ hx, baseM_iff h _ hx] at hs
  rcases hs with (hs | ⟨h1, h2⟩ | ⟨h1, h2⟩) | ⟨h1, h2⟩ | ⟨h1, h2⟩
  ·exact right_from hr hi hj hs
  ·exact K 0 (by omega) h1 i j hi hj h2
  ·exact K 5 (by omega) h1 i j hi hj h2
  ·exact K 3 (by omega) h1 i j hi hj h2
  ·exact K 4 (by omega) h1 i j hi hj h2
 ·intro ht i m j hi hm hj h1 h2
  rw [trB_bit _ hx] at ht
  exact K 1 (by omega) ht i j hi hj ((thenR_iff V V i j).2 ⟨m, hm, h1, h2⟩)
 ·intro hp i m j hi hm hj h1 h2
  rw [pfB_bit _ hx] at hp
  exact K 2 (by omega) hp i j hi hj ((thenR_iff _ V i j).2 ⟨m, hm, h1, h2⟩)
theorem least_holds {h : List TxnV} {x : Int} {l : List Int} {V R : Mat} (hlen : h.length ≤ 64) (hV : holdsB h x l V = true) (hR : LeastIs h (askN x) l R) : holdsB h x l R = true := by
 have hin := least_in hV hR
 have hin' := (inM_iff _ _).1 hin
 have hlt := askN_lt x
 have hx : askN x < 9223372036854775808 := by omega
 unfold holdsB at *
 simp only [Bool.and_eq_true, decide_eq_true_eq] at hV ⊢
 obtain ⟨h1, h2, hr, hk⟩ := hV
 refine ⟨h1, h2, ?_, ?_⟩
 ·have hr0 := hr
  unfold rightM at hr ⊢
  simp only [Bool.and_eq_true] at hr ⊢
  obtain ⟨hr1, hr2, hr3⟩ := hr
  refine ⟨hr1, inM_trans hin hr2, ?_⟩
  unfold rightTo at hr3 ⊢
  rw [List.all_eq_true] at hr3 ⊢
  intro i hi
  have hi' : i < h.length := List.mem_range.1 hi
  rw [List.all_eq_true]
  intro r hrd
  have h5 := List.all_eq_true.1 (hr3 i hi) r hrd
  unfold readOk at h5 ⊢
  rw [decide_eq_true_eq] at h5 ⊢
  have h6 := lastI_sub (s := seeTo V (i : Int) 64 &&& wrtN h r.1) (t := seeTo R (i : Int) 64 &&& wrtN h r.1) ?_ l.reverse ?_
  ·rw [List.reverse_reverse] at h6; rw [h6]; exact h5
  ·intro a ha
   obtain ⟨n, hn, rfl, hb⟩ := hasB_range ha
   rw [seen_bit (by omega) hn, Bool.and_eq_true] at hb
   rw [hasB_nat hn, seen_bit (by omega) hn, hin' n i hn (by omega) hb.1, hb.2]; rfl
  ·rw [List.reverse_reverse, h5]
   intro ha
   obtain ⟨n, hn, e, hb⟩ := hasB_range ha
   rw [e]
   rw [seen_bit (by omega) hn, Bool.and_eq_true] at hb
   have hw := hb.2
   have hnl : n < h.length := by
    unfold wrtN at hw
    rw [← hasB_nat hn, hasB_mkS _ _ hn, Bool.and_eq_true, decide_eq_true_eq] at hw
    exact hw.1
   have hfr : froM h n i = true := (prsTo_iff (froP h) h.length n i hn (by omega) h.length).2 ⟨by omega, by omega, by
    unfold froP; rw [List.any_eq_true]; exact ⟨r, hrd, by rw [decide_eq_true_eq]; exact e⟩⟩
   rw [hasB_nat hn, seen_bit (by omega) hn, least_base hx hR hn (by omega) (.inl hfr), hw]; rfl
 ·rw [lack_iff]
  intro k hb
  have hk6 : k < 6 := by
   apply Decidable.byContradiction
   intro hge
   have hp : (64 : Nat) ≤ 2 ^ k := by
    have := Nat.pow_le_pow_right (n := 2) (by omega) (show 6 ≤ k by omega)
    omega
   rw [Nat.testBit_lt_two_pow (by omega)] at hb
   cases hb
  rw [kept_bit h l R hk6, inM_iff]
  intro i j hi hj hm
  have h7 : k = 0 ∨ k = 1 ∨ k = 2 ∨ k = 3 ∨ k = 4 ∨ k = 5 := by omega
  rcases h7 with rfl | rfl | rfl | rfl | rfl | rfl
  ·exact least_base hx hR hi hj (.inr (.inl ⟨hb, hm⟩))
  ·obtain ⟨q, hq, a1, a2⟩ := (thenR_iff R R i j).1 hm
   exact (hR i j hi hj).2 (.trans (by rw [trB_bit _ hx]; exact hb) hq ((hR i q hi hq).1 a1) ((hR q j hq hj).1 a2))
  ·obtain ⟨q, hq, a1, a2⟩ := (thenR_iff _ R i j).1 hm
   exact (hR i j hi hj).2 (.pre (by rw [pfB_bit _ hx]; exact hb) hq a1 ((hR q j hq hj).1 a2))
  ·exact least_base hx hR hi hj (.inr (.inr (.inr (.inl ⟨hb, hm⟩))))
  ·exact least_base hx hR hi hj (.inr (.inr (.inr (.inr ⟨hb, hm⟩))))
  ·exact least_base hx hR hi hj (.inr (.inr (.inl ⟨hb, hm⟩)))
end

section
open Go.RowKit
section
variable {b pl rv C : Nat} {sF aF : Nat → Nat}
theorem wld1_base {j : Nat} (h : b.testBit j = true) : (wld1 b pl C).testBit j = true := by
 unfold wld1; split
 ·rw [Nat.testBit_or, h]; rfl
 ·exact h
theorem wld2_up {j : Nat} (h : (wld1 b pl C).testBit j = true) : (wld2 b pl rv C).testBit j = true := by
 unfold wld2; split
 ·rw [Nat.testBit_or, h]; rfl
 ·exact h
theorem wld3_up {j : Nat} (h : (wld2 b pl rv C).testBit j = true) : (wld3 b pl rv C sF).testBit j = true := by
 unfold wld3; split
 ·rw [Nat.testBit_or, h]; rfl
 ·exact h
theorem wld4_up {j : Nat} (h : (wld3 b pl rv C sF).testBit j = true) : (wld4 b pl rv C sF aF).testBit j = true := by
 unfold wld4; split
 ·rw [Nat.testBit_or, h]; rfl
 ·exact h
theorem wld4_base {j : Nat} (h : b.testBit j = true) : (wld4 b pl rv C sF aF).testBit j = true := wld4_up (wld3_up (wld2_up (wld1_base h)))
theorem wld4_all {j : Nat} (hc : C.testBit 4 = true) (h : pl.testBit j = true) : (wld4 b pl rv C sF aF).testBit j = true := by
 refine wld4_up (wld3_up (wld2_up ?_))
 unfold wld1
 rw [if_pos hc, Nat.testBit_or, h, Bool.or_true]
theorem wld4_riv {j : Nat} (hc : C.testBit 3 = true) (h : rv.testBit j = true) (h2 : pl.testBit j = true) : (wld4 b pl rv C sF aF).testBit j = true := by
 refine wld4_up (wld3_up ?_)
 unfold wld2
 rw [if_pos hc, Nat.testBit_or, Nat.testBit_and, h, h2, Bool.and_true, Bool.or_true]
theorem wld4_least {Y : Nat → Prop} (hb : ∀ j, b.testBit j = true → Y j) (h4 : C.testBit 4 = true → ∀ j, pl.testBit j = true → Y j) (h3 : C.testBit 3 = true → ∀ j, rv.testBit j = true → pl.testBit j = true → Y j)
  (h1 : C.testBit 1 = true → ∀ m j, m < 64 → Y m → (sF m).testBit j = true → Y j) (h2 : C.testBit 2 = true → ∀ m j, m < 64 → Y m → (aF m).testBit j = true → Y j) {j : Nat} (h : (wld4 b pl rv C sF aF).testBit j = true) : Y j := by
 have y1 : ∀ j, (wld1 b pl C).testBit j = true → Y j := by
  intro j hj
  unfold wld1 at hj
  split at hj
  ·rename_i hc; rw [Nat.testBit_or, Bool.or_eq_true] at hj; exact hj.elim (hb j) (h4 hc j)
  ·exact hb j hj
 have y2 : ∀ j, (wld2 b pl rv C).testBit j = true → Y j := by
  intro j hj
  unfold wld2 at hj
  split at hj
  ·rename_i hc; rw [Nat.testBit_or, Bool.or_eq_true, Nat.testBit_and, Bool.and_eq_true] at hj; exact hj.elim (y1 j) (fun q => h3 hc j q.1 q.2)
  ·exact y1 j hj
 have y3 : ∀ j, (wld3 b pl rv C sF).testBit j = true → Y j := by
  intro j hj
  unfold wld3 at hj
  split at hj
  ·rename_i hc; rw [Nat.testBit_or, Bool.or_eq_true, joinN_iff] at hj
   rcases hj with hj | ⟨k, hk, q1, q2⟩
   ·exact y2 j hj
   ·exact h1 hc k j hk (y2 k q1) q2
  ·exact y2 j hj
 unfold wld4 at h
 split at h
 ·rename_i hc; rw [Nat.testBit_or, Bool.or_eq_true, joinN_iff] at h
  rcases h with hj | ⟨k, hk, q1, q2⟩
  ·exact y3 j hj
  ·exact h2 hc k j hk (y3 k q1) q2
 ·exact y3 j h
theorem wld4_closed (_ : ∀ k j, (aF k).testBit j = true → j < 64) (h64 : ∀ m, (wld4 b pl rv C sF aF).testBit m = true → m < 64) (hsa : ∀ k j, (sF k).testBit j = true → (aF k).testBit j = true)
  (hs : C.testBit 1 = true → ∀ k m j, (sF k).testBit m = true → (sF m).testBit j = true → (sF k).testBit j = true)
  (ha : ∀ k m j, (aF k).testBit m = true → (aF m).testBit j = true → (aF k).testBit j = true) :
  (C.testBit 1 = true → ∀ m j, (wld4 b pl rv C sF aF).testBit m = true → (sF m).testBit j = true → (wld4 b pl rv C sF aF).testBit j = true) ∧
  (C.testBit 2 = true → ∀ m j, (wld4 b pl rv C sF aF).testBit m = true → (aF m).testBit j = true → (wld4 b pl rv C sF aF).testBit j = true) := by
 have P2 : C.testBit 2 = true → ∀ m j, (wld4 b pl rv C sF aF).testBit m = true → (aF m).testBit j = true → (wld4 b pl rv C sF aF).testBit j = true := by
  intro hc m j hm hj
  have hm64 := h64 m hm
  unfold wld4 at hm ⊢
  rw [if_pos hc, Nat.testBit_or, Bool.or_eq_true, joinN_iff] at hm ⊢
  rcases hm with hm | ⟨k, hk, q1, q2⟩
  ·exact .inr ⟨m, hm64, hm, hj⟩
  ·exact .inr ⟨k, hk, q1, ha k m j q2 hj⟩
 refine ⟨fun hc m j hm hj => ?_, P2⟩
 by_cases c2 : C.testBit 2 = true
 ·exact P2 c2 m j hm (hsa m j hj)
 ·have e : wld4 b pl rv C sF aF = wld3 b pl rv C sF := by unfold wld4; rw [if_neg c2]
  have hm64 := h64 m hm
  rw [e] at hm ⊢
  unfold wld3 at hm ⊢
  rw [if_pos hc, Nat.testBit_or, Bool.or_eq_true, joinN_iff] at hm ⊢
  rcases hm with hm | ⟨k, hk, q1, q2⟩
  ·exact .inr ⟨m, hm64, hm, hj⟩
  ·exact .inr ⟨k, hk, q1, hs hc k m j q2 hj⟩
end
structure RowG (h : List TxnV) (C : Nat) (r : List Nat) : Prop where
 nd : r.Nodup
 lt : ∀ k ∈ r, k < 64
 base : ∀ k ∈ r, ∀ j, (baseN h C k).testBit j = true → (aheadL r k).testBit j = true
section
variable {h : List TxnV} {C : Nat}
theorem RowG.tail {i : Nat} {r : List Nat} (g : RowG h C (i :: r)) : RowG h C r :=
 ⟨(List.nodup_cons.1 g.nd).2, fun k hk => g.lt k (List.mem_cons_of_mem _ hk), (base_tail (List.nodup_cons.1 g.nd).1 g.base).1⟩
theorem RowG.head {i : Nat} {r : List Nat} (g : RowG h C (i :: r)) : ∀ j, (baseN h C i).testBit j = true → (plS r).testBit j = true := (base_tail (List.nodup_cons.1 g.nd).1 g.base).2
theorem aheadL_tail {i k : Nat} {r : List Nat} (hne : k ≠ i) : aheadL (i :: r) k = aheadL r k := by rw [aheadL, if_neg hne]
theorem plSee_tail {i k : Nat} {r : List Nat} (hne : k ≠ i) : plSee h C (i :: r) k = plSee h C r k := by rw [plSee, if_neg hne]
theorem plS_mem {r : List Nat} (hlt : ∀ k ∈ r, k < 64) {j : Nat} (hj : (plS r).testBit j = true) : j ∈ r := by rw [plS_bit j r hlt, decide_eq_true_eq] at hj; exact hj
theorem aheadL_mem {r : List Nat} (hlt : ∀ k ∈ r, k < 64) {k j : Nat} (hj : (aheadL r k).testBit j = true) : j ∈ r := plS_mem hlt (ahead_in hlt hj)
theorem aheadL_out : ∀ {r : List Nat} {k : Nat}, k ∉ r → aheadL r k = 0
 | [], _, _ => rfl
 | i :: r, k, hk => by
  rw [aheadL_tail (fun e => hk (by rw [e]; exact List.mem_cons_self ..)), aheadL_out (fun q => hk (List.mem_cons_of_mem _ q))]
theorem aheadL_trans : ∀ {r : List Nat}, r.Nodup → (∀ k ∈ r, k < 64) → ∀ {k m j : Nat}, (aheadL r k).testBit m = true → (aheadL r m).testBit j = true → (aheadL r k).testBit j = true
 | [], _, _, k, m, j, h1, _ => by unfold aheadL at h1; simp at h1
 | i :: r, hnd, hlt, k, m, j, h1, h2 => by
  obtain ⟨hi, hnd'⟩ := List.nodup_cons.1 hnd
  have hlt' : ∀ a ∈ r, a < 64 := fun a ha => hlt a (List.mem_cons_of_mem _ ha)
  by_cases e : k = i
  ·subst e
   rw [aheadL, if_pos rfl] at h1 ⊢
   have hm := plS_mem hlt' h1
   rw [aheadL_tail (fun e => hi (by rw [← e]; exact hm))] at h2
   exact ahead_in hlt' h2
  ·rw [aheadL_tail e] at h1 ⊢
   have hm := aheadL_mem hlt' h1
   rw [aheadL_tail (fun e => hi (by rw [← e]; exact hm))] at h2
   exact aheadL_trans hnd' hlt' h1 h2
theorem sees_closed : ∀ {r : List Nat}, RowG h C r → (C.testBit 1 = true → ∀ k m j, (plSee h C r k).testBit m = true → (plSee h C r m).testBit j = true → (plSee h C r k).testBit j = true) ∧
  (C.testBit 2 = true → ∀ k m j, (plSee h C r k).testBit m = true → (aheadL r m).testBit j = true → (plSee h C r k).testBit j = true)
 | [], _ => ⟨fun _ k m j h1 _ => by unfold plSee at h1; simp at h1, fun _ k m j h1 _ => by unfold plSee at h1; simp at h1⟩
 | i :: r, g => by
  obtain ⟨hi, hnd'⟩ := List.nodup_cons.1 g.nd
  have gt := g.tail
  obtain ⟨I1, I2⟩ := sees_closed gt
  have hin : ∀ m, (wld4 (baseN h C i) (plS r) (rivN h i) C (plSee h C r) (aheadL r)).testBit m = true → (plS r).testBit m = true := fun m hm =>
   wld4_in g.head (fun k j _ hj => ahead_in gt.lt (sees_ahead gt.lt gt.nd gt.base hj)) (fun k j _ hj => ahead_in gt.lt hj) hm
  obtain ⟨N1, N2⟩ := wld4_closed (b := baseN h C i) (pl := plS r) (rv := rivN h i) (C := C) (sF := plSee h C r) (aF := aheadL r) (fun k j hj => gt.lt j (aheadL_mem gt.lt hj)) (fun m hm => gt.lt m (plS_mem gt.lt (hin m hm)))
   (fun k j hj => sees_ahead gt.lt gt.nd gt.base hj) (fun hc k m j => I1 hc k m j) (fun k m j => aheadL_trans gt.nd gt.lt)
  constructor
  ·intro hc k m j h1 h2
   by_cases e : k = i
   ·subst e
    rw [plSee, if_pos rfl] at h1 ⊢
    have hm := plS_mem gt.lt (hin m h1)
    rw [plSee_tail (fun e => hi (by rw [← e]; exact hm))] at h2
    exact N1 hc m j h1 h2
   ·rw [plSee_tail e] at h1 ⊢
    have hm := aheadL_mem gt.lt (sees_ahead gt.lt gt.nd gt.base h1)
    rw [plSee_tail (fun e => hi (by rw [← e]; exact hm))] at h2
    exact I1 hc k m j h1 h2
  ·intro hc k m j h1 h2
   by_cases e : k = i
   ·subst e
    rw [plSee, if_pos rfl] at h1 ⊢
    have hm := plS_mem gt.lt (hin m h1)
    rw [aheadL_tail (fun e => hi (by rw [← e]; exact hm))] at h2
    exact N2 hc m j h1 h2
   ·rw [plSee_tail e] at h1 ⊢
    have hm := aheadL_mem gt.lt (sees_ahead gt.lt gt.nd gt.base h1)
    rw [aheadL_tail (fun e => hi (by rw [← e]; exact hm))] at h2
    exact I2 hc k m j h1 h2
theorem sees_fix : ∀ {r : List Nat}, RowG h C r → ∀ k, k ∈ r → plSee h C r k = wld4 (baseN h C k) (aheadL r k) (rivN h k) C (plSee h C r) (aheadL r)
 | [], _, k, hk => by cases hk
 | i :: r, g, k, hk => by
  obtain ⟨hi, hnd'⟩ := List.nodup_cons.1 g.nd
  have gt := g.tail
  have hS : ∀ k j, (plSee h C r k).testBit j = true → (plS r).testBit j = true := fun k j hj => ahead_in gt.lt (sees_ahead gt.lt gt.nd gt.base hj)
  by_cases e : k = i
  ·subst e
   rw [show aheadL (k :: r) k = plS r by rw [aheadL, if_pos rfl]]
   conv => lhs; rw [plSee, if_pos rfl]
   refine wld4_congr g.head (fun m hm hp => ?_) (fun m j _ => hS m j)
   have hne : m ≠ k := fun e => hi (by rw [← e]; exact plS_mem gt.lt hp)
   rw [plSee_tail hne, aheadL_tail hne]; exact ⟨rfl, rfl⟩
  ·have hkr : k ∈ r := by rcases List.mem_cons.1 hk with q | q; exact (e q).elim; exact q
   rw [plSee_tail e, aheadL_tail e, sees_fix gt k hkr]
   refine wld4_congr (gt.base k hkr) (fun m hm hp => ?_) (fun m j hp hj => aheadL_trans gt.nd gt.lt hp (sees_ahead gt.lt gt.nd gt.base hj))
   have hne : m ≠ i := fun e => hi (by rw [← e]; exact aheadL_mem gt.lt hp)
   rw [plSee_tail hne, aheadL_tail hne]; exact ⟨rfl, rfl⟩
theorem ahead_snoc {a b c : Int} : ∀ {L : List Int}, Ahead (L ++ [c]) a b ↔ Ahead L a b ∨ (a ∈ L ∧ b = c)
 | [] => by simp [Ahead]
 | d :: L => by
  show Ahead (L ++ [c]) a b ∨ (d = a ∧ b ∈ L ++ [c]) ↔ (Ahead L a b ∨ (d = a ∧ b ∈ L)) ∨ (a ∈ d :: L ∧ b = c)
  rw [ahead_snoc, List.mem_append, List.mem_singleton, List.mem_cons]
  constructor
  ·rintro ((q | ⟨q1, q2⟩) | ⟨q1, q2 | q2⟩)
   ·exact .inl (.inl q)
   ·exact .inr ⟨.inr q1, q2⟩
   ·exact .inl (.inr ⟨q1, q2⟩)
   ·exact .inr ⟨.inl q1.symm, q2⟩
  ·rintro ((q | ⟨q1, q2⟩) | ⟨q1 | q1, q2⟩)
   ·exact .inl (.inl q)
   ·exact .inr ⟨q1, .inl q2⟩
   ·exact .inr ⟨q1.symm, .inr q2⟩
   ·exact .inl (.inr ⟨q1, q2⟩)
theorem ahead_chain {r : List Nat} (hnd : r.Nodup) (hlt : ∀ k ∈ r, k < 64) (j k : Nat) : chainR (r.reverse.map Int.ofNat) j k = true ↔ (aheadL r k).testBit j = true := by
 rw [chainR_iff]
 induction r with
 | nil => simp [Ahead, aheadL]
 | cons i r ih =>
  obtain ⟨hi, hnd'⟩ := List.nodup_cons.1 hnd
  have hlt' : ∀ a ∈ r, a < 64 := fun a ha => hlt a (List.mem_cons_of_mem _ ha)
  have ih := ih hnd' hlt'
  rw [List.reverse_cons, List.map_append, List.map_cons, List.map_nil, ahead_snoc, ih]
  have hmem : ((j : Int) ∈ r.reverse.map Int.ofNat) ↔ j ∈ r := by
   rw [List.mem_map]
   exact ⟨fun ⟨a, ha, e⟩ => by have : a = j := Int.ofNat.inj e; rw [← this]; exact List.mem_reverse.1 ha, fun q => ⟨j, List.mem_reverse.2 q, rfl⟩⟩
  rw [hmem]
  by_cases e : k = i
  ·subst e
   rw [aheadL, if_pos rfl, plS_bit j r hlt', decide_eq_true_eq, aheadL_out hi]
   simp
  ·rw [aheadL_tail e]
   constructor
   ·rintro (q | ⟨_, q⟩)
    ·exact q
    ·exact (e (Int.ofNat.inj q)).elim
   ·exact fun q => .inl q
end
end

section
open Go.RowKit
theorem heap_set_far (w : World) (p : Addr) (u : Value) (k : Nat) (hk : k ≠ p.block) : (w.setCell p u).heap[k]? = w.heap[k]? := Below.heap_setCell w p u k (fun e => hk e)
theorem PlStep.setCell {S : Nat} {v1 v2 : Value} {w w' : World} (h : PlStep S v1 v2 w w') (o : Nat) (u : Value) : PlStep S v1 v2 w (w'.setCell ⟨S, o, none⟩ u) := by
 refine ⟨h.os, h.tape, h.output, by have := h.size; simpa using this, fun k hk hs hv => ?_, h.own⟩
 rw [heap_set_far w' ⟨S, o, none⟩ u k hs]
 exact h.block k hk hs hv
theorem PlStep.below {S : Nat} {v1 v2 : Value} {w w' w'' : World} (h : PlStep S v1 v2 w w') (hb : Below w'.heap.size w' w'') : PlStep S v1 v2 w w'' := h.trans (.of_below hb)
theorem PlStep.grown {S : Nat} {v1 v2 v3 : Value} {w w' w'' : World} (h : PlStep S v1 v2 w w') (hg : w'.grownBy w'' v2.ownBlock) (ho : ∀ g, v3.ownBlock = some g → v2.ownBlock = some g ∨ g = w'.heap.size) : PlStep S v1 v3 w w'' := by
 refine ⟨hg.os.trans h.os, hg.tape.trans h.tape, hg.output.trans h.output, Nat.le_trans h.size hg.size, fun k hk hs hv => ?_, fun g hgo => ?_⟩
 ·refine (hg.block k (Nat.lt_of_lt_of_le hk h.size) (fun e => ?_)).trans (h.block k hk hs hv)
  rcases h.own k e.symm with q | q
  ·exact hv q
  ·omega
 ·rcases ho g hgo with q | q
  ·exact h.own g q
  ·exact .inr (by have := h.size; omega)
theorem PlStep.as {S : Nat} {v1 v2 v3 : Value} {w w' : World} (h : PlStep S v1 v2 w w') (e : v3.ownBlock = v2.ownBlock) : PlStep S v1 v3 w w' := ⟨h.os, h.tape, h.output, h.size, h.block, fun g hg => h.own g (by rw [← e]; exact hg)⟩
theorem owns_less {w : World} {base n cap : Nat} {e : TypeId} {ao : Option Addr} {xs : List Value} {x : Value} (h : w.ownsRow base e 1 (.slice ao (n + 1) cap) (n + 1) (xs ++ [x])) : w.ownsRow base e 1 (.slice ao n cap) n xs := by
 obtain ⟨hl, h⟩ := h
 have hn : xs.length = n := by simp at hl; omega
 refine ⟨by omega, ?_⟩
 rcases h with ⟨hv, h0⟩ | ⟨g, cap', cur, hv, hb, hh, hc, hm, hs, ht⟩
 ·omega
 ·obtain ⟨e1, e2, e3⟩ : ao = some ⟨g, 0, none⟩ ∧ n + 1 = n + 1 ∧ cap = cap' := by simpa using hv
  subst e1 e3
  refine .inr ⟨g, cap, cur, rfl, hb, hh, by omega, hm, hs, ?_⟩
  have := congrArg (List.take (n * 1)) ht
  rw [List.take_take, Nat.min_eq_left (by omega)] at this
  rw [this, Nat.mul_one, ← hn, List.take_left]
theorem own_len (ao : Option Addr) (n m c d : Nat) : (Value.slice ao n c).ownBlock = (Value.slice ao m d).ownBlock := by cases ao <;> rfl
section
variable {W : World} {S B b : Nat} {h : List TxnV} {C : Nat} {r : List Nat} {vb vr : Value} {aF sF : Nat → Nat} {w : World}
theorem PlIs.undo {i : Nat} {ao : Option Addr} {cap : Nat} (p : PlIs W S B b h C (i :: r) vb (.slice ao (r.length + 1) cap) aF sF w) :
  PlIs W S B b h C r vb (.slice ao r.length cap) aF sF ((w.setCell ⟨S, 3, none⟩ (.slice ao r.length cap)).setCell ⟨S, 4, none⟩ (.int .u64 ((plS r : Nat) : Int))) ∧
  PlStep S (.slice ao (r.length + 1) cap) (.slice ao r.length cap) w ((w.setCell ⟨S, 3, none⟩ (.slice ao r.length cap)).setCell ⟨S, 4, none⟩ (.int .u64 ((plS r : Nat) : Int))) := by
 obtain ⟨hi, hnd⟩ := List.nodup_cons.1 p.nd
 have hrw := p.rw
 rw [List.reverse_cons, List.map_append, List.length_cons] at hrw
 have hne : ∀ k ∈ r, k ≠ i := fun k hk e => hi (by rw [← e]; exact hk)
 refine ⟨⟨p.o, p.t, (p.bel.setCell (p := ⟨S, 3, none⟩) p.low _).setCell (p := ⟨S, 4, none⟩) p.low _, p.low, (p.a.setR _).setP _, pl_far (pl_far p.ba (by simp) _) (by simp) _, pl_far (pl_far (owns_less hrw) (by simp) _) (by simp) _, fun g hg e => p.ne g hg (by rw [own_len ao (r.length + 1) r.length cap cap]; exact e), p.set, fun k hk => ?_, hnd, fun k hk => p.lt k (List.mem_cons_of_mem _ hk), (base_tail hi p.base).1⟩, ?_⟩
 ·have := p.eq k (List.mem_cons_of_mem _ hk)
  rw [aheadL_tail (hne k hk), plSee_tail (hne k hk)] at this
  exact this
 ·exact (((PlStep.refl S _ w).setCell 3 _).setCell 4 _).as (own_len _ _ _ _ _)
structure PlRaw (W : World) (S B C : Nat) (h : List TxnV) (r : List Nat) (vb vr : Value) (aF sF : Nat → Nat) (w0 w : World) : Prop where
 bel : Below W.heap.size W w
 low : W.heap.size ≤ S
 a : PlAt w S B C vb vr (plS r) aF sF
 ba : w.ownsRow (S + 1) 106 1 vb h.length ((List.range h.length).map fun i => .int .u64 ((baseN h C i : Nat) : Int))
 rw : w.ownsRow (S + 1) 3 1 vr r.length (r.reverse.map fun i : Nat => .int .i64 (i : Int))
 st : PlStep S vr vr w0 w
theorem PlIs.raw (p : PlIs W S B b h C r vb vr aF sF w) : PlRaw W S B C h r vb vr aF sF w w := ⟨p.bel, p.low, p.a, p.ba, p.rw, .refl _ _ _⟩
section
variable {w0 w' : World}
theorem PlRaw.below (p : PlRaw W S B C h r vb vr aF sF w0 w) (hb : Below w.heap.size w w') : PlRaw W S B C h r vb vr aF sF w0 w' :=
 ⟨p.bel.trans (hb.mono p.bel.size), p.low, p.a.below hb p.a.lt, owns_below p.ba hb, owns_below p.rw hb, p.st.below hb⟩
theorem PlRaw.setA (p : PlRaw W S B C h r vb vr aF sF w0 w) {k : Nat} (hk : k < 64) (s : Nat) : PlRaw W S B C h r vb vr (updN aF k s) sF w0 (w.setCell ⟨S, 5 + k, none⟩ (.int .u64 (s : Int))) :=
 ⟨p.bel.setCell (p := ⟨S, 5 + k, none⟩) p.low _, p.low, p.a.setA hk s, pl_far p.ba (by simp) _, pl_far p.rw (by simp) _, p.st.setCell _ _⟩
theorem PlRaw.setS (p : PlRaw W S B C h r vb vr aF sF w0 w) {k : Nat} (hk : k < 64) (s : Nat) : PlRaw W S B C h r vb vr aF (updN sF k s) w0 (w.setCell ⟨S, 69 + k, none⟩ (.int .u64 (s : Int))) :=
 ⟨p.bel.setCell (p := ⟨S, 69 + k, none⟩) p.low _, p.low, p.a.setS hk s, pl_far p.ba (by simp) _, pl_far p.rw (by simp) _, p.st.setCell _ _⟩
theorem updN_same (F : Nat → Nat) (i s : Nat) : updN F i s i = s := by unfold updN; rw [if_pos rfl]
theorem updN_other (F : Nat → Nat) {i k : Nat} (s : Nat) (hk : k ≠ i) : updN F i s k = F k := by unfold updN; rw [if_neg hk]
theorem PlRaw.app (p : PlRaw W S B C h r vb vr aF sF w0 w) (hne : ∀ g, vb.ownBlock = some g → vr.ownBlock ≠ some g) {w5 : World} {g cap n : Nat} {xs : List Value} (hown : w5.ownsRow (S + 1) 3 1 (.slice (some ⟨g, 0, none⟩) n cap) n xs) (hg : w.grownBy w5 vr.ownBlock) (hl : vr.ownBlock = some g ∨ g = w.heap.size) :
  Below W.heap.size W w5 ∧ PlAt w5 S B C vb vr (plS r) aF sF ∧ w5.ownsRow (S + 1) 106 1 vb h.length ((List.range h.length).map fun i => .int .u64 ((baseN h C i : Nat) : Int)) ∧ PlStep S vr (.slice (some ⟨g, 0, none⟩) n cap) w0 w5 ∧ ∀ k, vb.ownBlock = some k → k ≠ g := by
 have hS : vr.ownBlock ≠ some S := fun e => by have := (p.rw.lt _ e).1; omega
 refine ⟨p.bel.grown hg p.bel.size (fun k hk => ?_), p.a.grown hg (fun e => hS e.symm), p.ba.kept hg ?_, p.st.grown hg (fun k hk => ?_), fun k hk e => ?_⟩
 ·have := (p.rw.lt _ hk).1
  have := p.low
  omega
 ·cases hb : vb.ownBlock with
  | none => exact .inl rfl
  | some k => exact .inr (fun e => hne k hb e.symm)
 ·have e : g = k := by injection hk
  rcases hl with q | q
  ·exact .inl (by rw [← e]; exact q)
  ·exact .inr (by omega)
 ·subst e
  rcases hl with q | q
  ·exact hne k hk q
  ·have := (p.ba.lt _ hk).2
   omega
theorem PlIs.done (p : PlIs W S B b h C r vb vr aF sF w) {i s : Nat} (hi : i < h.length) (hin : i ∉ r) (hbs : ∀ j, (baseN h C i).testBit j = true → (plS r).testBit j = true) (h64 : h.length ≤ 64) (hs : s = nextN h C r i) {w4 w5 : World} (q : PlRaw W S B C h r vb vr (updN aF i (plS r)) (updN sF i s) w w4)
  {g cap : Nat} (hown : w5.ownsRow (S + 1) 3 1 (.slice (some ⟨g, 0, none⟩) (r.length + 1) cap) (r.length + 1) ((r.reverse.map fun i : Nat => .int .i64 (i : Int)) ++ [.int .i64 (i : Int)])) (hg : w4.grownBy w5 vr.ownBlock) (hl : vr.ownBlock = some g ∨ g = w4.heap.size) :
  PlIs W S B b h C (i :: r) vb (.slice (some ⟨g, 0, none⟩) (r.length + 1) cap) (updN aF i (plS r)) (updN sF i s) ((w5.setCell ⟨S, 3, none⟩ (.slice (some ⟨g, 0, none⟩) (r.length + 1) cap)).setCell ⟨S, 4, none⟩ (.int .u64 ((plS (i :: r) : Nat) : Int))) ∧
  PlStep S vr (.slice (some ⟨g, 0, none⟩) (r.length + 1) cap) w ((w5.setCell ⟨S, 3, none⟩ (.slice (some ⟨g, 0, none⟩) (r.length + 1) cap)).setCell ⟨S, 4, none⟩ (.int .u64 ((plS (i :: r) : Nat) : Int))) := by
 obtain ⟨b5, a5, v5, s5, n5⟩ := q.app p.ne hown hg hl
 have hi64 : i < 64 := by omega
 have hset : IsSet s := by rw [hs]; exact wld4_set (baseN_set h C i) (plS_set r) (rivN_set h i) (fun k _ => plSee_set h C r k) (fun k _ => aheadL_set r k)
 refine ⟨⟨p.o, p.t, (b5.setCell (p := ⟨S, 3, none⟩) p.low _).setCell (p := ⟨S, 4, none⟩) p.low _, p.low, (a5.setR _).setP _, pl_far (pl_far v5 (by simp) _) (by simp) _, ?_, fun k hk e => n5 k hk (by injection e with e; exact e.symm), fun k hk => ?_, fun k hk => ?_, List.nodup_cons.2 ⟨hin, p.nd⟩, fun k hk => ?_, fun k hk j hj => ?_⟩, (s5.setCell 3 _).setCell 4 _⟩
 ·rw [List.reverse_cons, List.map_append, List.length_cons]
  exact pl_far (pl_far hown (by simp) _) (by simp) _
 ·by_cases e : k = i
  ·subst e; rw [updN_same, updN_same]; exact ⟨plS_set r, hset⟩
  ·rw [updN_other _ _ e, updN_other _ _ e]; exact p.set k hk
 ·by_cases e : k = i
  ·subst e
   rw [updN_same, updN_same, aheadL, if_pos rfl, plSee, if_pos rfl, hs]
   exact ⟨rfl, rfl⟩
  ·rw [updN_other _ _ e, updN_other _ _ e, aheadL_tail e, plSee_tail e]
   rcases List.mem_cons.1 hk with q | q
   ·exact (e q).elim
   ·exact p.eq k q
 ·rcases List.mem_cons.1 hk with q | q
  ·omega
  ·exact p.lt k q
 ·by_cases e : k = i
  ·subst e
   rw [aheadL, if_pos rfl]
   exact hbs j hj
  ·rw [aheadL_tail e]
   rcases List.mem_cons.1 hk with q | q
   ·exact (e q).elim
   ·exact p.base k q j hj
end
end
end

end Go.Proofs.YtnhkjehfmbfmmaaGreatDoor
