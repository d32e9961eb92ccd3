/- Walks and plain facts that the proof of the statement WholeNames uses, joined: CnoB CanA TblB TblC CanB CanC CanD CanE CanF CanG HisW HisY OrdAG CanH RenA RenB. Conditions: each theorem's own. -/
import Derived.Shelf.SortM.Plain
import Derived.Test.YtnhkjehfmbfmmaaGreatDoorPWholeNames0
import Derived.Test.YtnhkjehfmbfmmaaGreatDoorPWholeNames1
import Derived.Test.YtnhkjehfmbfmmaaGreatDoorPWholeNames2
import Derived.Test.YtnhkjehfmbfmmaaGreatDoorPWholeNames3
import Derived.Test.YtnhkjehfmbfmmaaGreatDoorPWholeNames7
namespace Go.Proofs.YtnhkjehfmbfmmaaGreatDoor
set_option maxHeartbeats 32000000
set_option maxRecDepth 100000
set_option linter.unusedSimpArgs false
set_option linter.unusedVariables false
open Lib (hid)
section
open Go.RowKit
theorem check_rightB {h : List TxnV} (hc : checkI h = 0) : partsB h = true ∧ valuesB h = true ∧ stampsB h = true ∧ sesB h = true := by
 unfold checkI at hc
 split at hc
 ·cases hc
 ·split at hc
  ·rename_i hr
   unfold rightB at hr
   simp only [Bool.and_eq_true] at hr
   exact ⟨hr.1, hr.2.1, hr.2.2.1, hr.2.2.2⟩
  ·cases hc
theorem may_at {h : List TxnV} (hp : partsB h = true) {t : TxnV} (ht : t ∈ h) : (0 ≤ t.s ∧ t.s < 64 ∧ 0 ≤ t.b ∧ t.b < t.c ∧ t.c ≤ 2147483647 ∧ 1 ≤ t.l.length ∧ t.l.length ≤ 64) ∧ ∀ o ∈ t.l, mayO o = true := by
 have h1 := List.all_eq_true.1 hp t ht
 unfold mayT at h1
 rw [Bool.and_eq_true, decide_eq_true_eq] at h1
 exact ⟨h1.1, fun o ho => List.all_eq_true.1 h1.2 o ho⟩
theorem check_bc {h : List TxnV} (hc : checkI h = 0) : ∀ t ∈ h, t.b < t.c := fun _ ht => (may_at (check_rightB hc).1 ht).1.2.2.2.1
theorem st_apart {h : List TxnV} (hs : stampsB h = true) {i j : Nat} (hi : i < h.length) (hj : j < h.length) (hne : i ≠ j) : Apart h[i] h[j] := by
 have hd : (stL h).Nodup := of_decide_eq_true hs
 have hd' : (stL (h.take h.length)).Nodup := by rw [List.take_length]; exact hd
 rcases Nat.lt_or_gt_of_ne hne with e | e
 ·exact st_take hd' i j hj (Nat.le_refl _) e
 ·obtain ⟨a, b, c, d⟩ := st_take hd' j i hi (Nat.le_refl _) e
  exact ⟨fun q => a q.symm, fun q => c q.symm, fun q => b q.symm, fun q => d q.symm⟩
theorem begins_nodup {h : List TxnV} (hs : stampsB h = true) : (h.map (·.b)).Nodup := by
 rw [List.nodup_iff_pairwise_ne, List.pairwise_map, List.pairwise_iff_getElem]
 intro i j hi hj hij
 exact (st_apart hs hi hj (by omega)).1
theorem ses_timP {h : List TxnV} (hc : checkI h = 0) {i j : Nat} (hi : i < h.length) (hj : j < h.length) : sesP h i j = true ↔ sAt h i = sAt h j ∧ timP h i j = true := by
 have hbc := check_bc hc
 have hse := (check_rightB hc).2.2.2
 unfold sesP timP
 rw [Bool.and_eq_true, decide_eq_true_eq, decide_eq_true_eq, decide_eq_true_eq, sAt_eq hi, sAt_eq hj, cAt_eq hi, bAt_eq hj]
 constructor
 ·rintro ⟨h1, h2⟩
  exact ⟨h2, ses_all hse hbc j hj i h1 h2⟩
 ·rintro ⟨h1, h2⟩
  refine ⟨?_, h1⟩
  rcases Nat.lt_trichotomy i j with e | e | e
  ·exact e
  ·subst e; have := hbc _ (List.getElem_mem hi); omega
  ·have h3 := ses_all hse hbc i hi j e h1.symm
   have a := hbc _ (List.getElem_mem hi)
   have b := hbc _ (List.getElem_mem hj)
   omega
def whereB (h : List TxnV) (b : Int) : Nat := h.findIdx fun t => t.b == b
theorem whereB_at {h : List TxnV} (hd : (h.map (·.b)).Nodup) {t : TxnV} (ht : t ∈ h) : ∃ hi : whereB h t.b < h.length, h[whereB h t.b] = t := by
 have hi : whereB h t.b < h.length := by unfold whereB; rw [List.findIdx_lt_length]; exact ⟨t, ht, by simp⟩
 refine ⟨hi, ?_⟩
 have h1 := List.findIdx_getElem (p := fun u : TxnV => u.b == t.b) (xs := h) (w := hi)
 have h1 : h[whereB h t.b].b = t.b := beq_iff_eq.1 h1
 obtain ⟨k, hk, e⟩ := List.mem_iff_getElem.1 ht
 rw [List.nodup_iff_pairwise_ne, List.pairwise_map, List.pairwise_iff_getElem] at hd
 have : whereB h t.b = k := by
  rcases Nat.lt_trichotomy (whereB h t.b) k with q | q | q
  ·exact absurd (by rw [h1, e]) (hd _ _ hi hk q)
  ·exact q
  ·exact absurd (by rw [h1, e]) (hd _ _ hk hi q)
 subst this
 exact e
theorem perm_turn {h s : List TxnV} (hp : s.Perm h) (hd : (h.map (·.b)).Nodup) : ∃ π ρ : Nat → Nat, IsoT h.length π ρ ∧ ∀ j (hj : j < s.length), ∃ hπ : π j < h.length, s[j] = h[π j] := by
 have hl := hp.length_eq
 have hds : (s.map (·.b)).Nodup := (hp.map _).nodup_iff.2 hd
 have one : ∀ (l m : List TxnV), l.length = m.length → (l.map (·.b)).Nodup → (m.map (·.b)).Nodup → (∀ t ∈ l, t ∈ m) → (∀ t ∈ m, t ∈ l) → ∀ j (hj : j < l.length), ∃ hi : whereB m l[j].b < m.length, m[whereB m l[j].b] = l[j] ∧ whereB l (m[whereB m l[j].b].b) = j := by
  intro l m hlm hdl hdm hsub _ j hj
  obtain ⟨hi, e⟩ := whereB_at hdm (hsub _ (List.getElem_mem hj))
  refine ⟨hi, e, ?_⟩
  rw [e]
  obtain ⟨hi2, e2⟩ := whereB_at hdl (List.getElem_mem hj)
  rw [List.nodup_iff_pairwise_ne, List.pairwise_map, List.pairwise_iff_getElem] at hdl
  rcases Nat.lt_trichotomy (whereB l l[j].b) j with q | q | q
  ·exact absurd (by rw [e2]) (hdl _ _ hi2 hj q)
  ·exact q
  ·exact absurd (by rw [e2]) (hdl _ _ hj hi2 q)
 have sub1 : ∀ t ∈ s, t ∈ h := fun t ht => hp.mem_iff.1 ht
 have sub2 : ∀ t ∈ h, t ∈ s := fun t ht => hp.mem_iff.2 ht
 refine ⟨fun j => whereB h (bAt s j), fun i => whereB s (bAt h i), ⟨fun j hj => ?_, fun j hj => ?_, fun j hj => ?_, fun j hj => ?_⟩, fun j hj => ?_⟩
 ·have hj' : j < s.length := by omega
  show whereB h (bAt s j) < h.length
  rw [bAt_eq hj']
  exact (one s h hl hds hd sub1 sub2 j hj').1
 ·show whereB s (bAt h j) < h.length
  rw [bAt_eq hj, ← hl]
  exact (one h s hl.symm hd hds sub2 sub1 j hj).1
 ·show whereB h (bAt s (whereB s (bAt h j))) = j
  obtain ⟨hi, e1, e2⟩ := one h s hl.symm hd hds sub2 sub1 j hj
  rw [bAt_eq hj, bAt_eq hi]
  exact e2
 ·have hj' : j < s.length := by omega
  show whereB s (bAt h (whereB h (bAt s j))) = j
  obtain ⟨hi, e1, e2⟩ := one s h hl hds hd sub1 sub2 j hj'
  rw [bAt_eq hj', bAt_eq hi]
  exact e2
 ·obtain ⟨hi, e1, e2⟩ := one s h hl hds hd sub1 sub2 j hj
  show ∃ hπ : whereB h (bAt s j) < h.length, s[j] = h[whereB h (bAt s j)]
  rw [bAt_eq hj]
  exact ⟨hi, e1.symm⟩
section
variable {h s c : List TxnV} {f τ κ ν : Int → Int}
theorem ren_of (hp : s.Perm h) (hd : (h.map (·.b)).Nodup) (he : c.map txE = (s.map txE).map (renE f τ κ ν)) (hκ : ∀ a b, KeyIn h a → KeyIn h b → κ a = κ b → a = b) (hν : ∀ a b, ValIn h a → ValIn h b → ν a = ν b → a = b) (h0 : ν 0 = 0) :
  ∃ π ρ, Ren h c π ρ κ ν ∧ ∀ j (hj : j < c.length), ∃ hπ : π j < h.length, txE c[j] = renE f τ κ ν (txE h[π j]) := by
 obtain ⟨π, ρ, ht, hs⟩ := perm_turn hp hd
 have hl : c.length = s.length := by have := congrArg List.length he; simpa using this
 have hl2 := hp.length_eq
 have key : ∀ j (hj : j < c.length), ∃ hπ : π j < h.length, txE c[j] = renE f τ κ ν (txE h[π j]) := by
  intro j hj
  obtain ⟨hπ, e⟩ := hs j (by omega)
  refine ⟨hπ, ?_⟩
  have := congrArg (fun l => l[j]?) he
  simp only [List.getElem?_map] at this
  rw [List.getElem?_eq_getElem hj, List.getElem?_eq_getElem (show j < s.length by omega)] at this
  simp only [Option.map_some, Option.some.injEq] at this
  rw [this, e]
 refine ⟨π, ρ, ⟨by omega, ht, fun j hj => ?_, hκ, hν, h0⟩, key⟩
 obtain ⟨hπ, e⟩ := key j (by omega)
 rw [opsAt_eq (by omega), opsAt_eq hπ]
 exact congrArg (fun e : ETx => e.2.2.2) e
end
section
variable {h c : List TxnV} {f τ κ ν : Int → Int} {π ρ : Nat → Nat}
theorem ren_dec (hc : checkI h = 0) (hx : checkI c = 0) (q : Ren h c π ρ κ ν) (he : ∀ j (hj : j < c.length), ∃ hπ : π j < h.length, txE c[j] = renE f τ κ ν (txE h[π j]))
  (hf : ∀ t ∈ h, ∀ u ∈ h, f t.s = f u.s → t.s = u.s) (hτ : ∀ a ∈ stL h, ∀ b ∈ stL h, a < b → τ a < τ b) (lv : Int) : (decW c lv).2.2 = (decW h lv).2.2 := by
 have hC : clI ((askN lv : Nat) : Int) < 9223372036854775808 := by have := clI_lt ((askN lv : Nat) : Int); omega
 have mono : ∀ a ∈ stL h, ∀ b ∈ stL h, (τ a < τ b ↔ a < b) := fun a ha b hb => by
  constructor
  ·intro e
   rcases Int.lt_trichotomy a b with h1 | h1 | h1
   ·exact h1
   ·rw [h1] at e; omega
   ·have := hτ b hb a ha h1; omega
  ·exact hτ a ha b hb
 have tim : ∀ i j, i < h.length → j < h.length → timP c i j = timP h (π i) (π j) := by
  intro i j hi hj
  obtain ⟨p1, e1⟩ := he i (by rw [q.len]; exact hi)
  obtain ⟨p2, e2⟩ := he j (by rw [q.len]; exact hj)
  unfold timP
  rw [cAt_eq (by rw [q.len]; exact hi), bAt_eq (by rw [q.len]; exact hj), cAt_eq p1, bAt_eq p2]
  have a1 : (c[i]'(by rw [q.len]; exact hi)).c = τ h[π i].c := congrArg (fun e : ETx => e.2.2.1) e1
  have a2 : (c[j]'(by rw [q.len]; exact hj)).b = τ h[π j].b := congrArg (fun e : ETx => e.2.1) e2
  rw [a1, a2, Bool.eq_iff_iff, decide_eq_true_eq, decide_eq_true_eq]
  exact mono _ (stL_mem.2 ⟨_, List.getElem_mem p1, .inr rfl⟩) _ (stL_mem.2 ⟨_, List.getElem_mem p2, .inl rfl⟩)
 have ses : ∀ i j, i < h.length → j < h.length → sesP c i j = sesP h (π i) (π j) := by
  intro i j hi hj
  obtain ⟨p1, e1⟩ := he i (by rw [q.len]; exact hi)
  obtain ⟨p2, e2⟩ := he j (by rw [q.len]; exact hj)
  rw [Bool.eq_iff_iff, ses_timP hx (by rw [q.len]; exact hi) (by rw [q.len]; exact hj), ses_timP hc p1 p2, tim i j hi hj, sAt_eq (by rw [q.len]; exact hi), sAt_eq (by rw [q.len]; exact hj), sAt_eq p1, sAt_eq p2]
  have a1 : (c[i]'(by rw [q.len]; exact hi)).s = f h[π i].s := congrArg (fun e : ETx => e.1) e1
  have a2 : (c[j]'(by rw [q.len]; exact hj)).s = f h[π j].s := congrArg (fun e : ETx => e.1) e2
  rw [a1, a2]
  refine and_congr_left fun _ => ⟨hf _ (List.getElem_mem p1) _ (List.getElem_mem p2), fun e => by rw [e]⟩
 exact IsoH.dec (q.iso hc hx hC (fun _ => ses) (fun _ => tim)) hc hx
end
section
variable {h s c : List TxnV}
theorem sesE_txE (s : List TxnV) : sesE (s.map txE) = s.map (·.s) := by unfold sesE; rw [List.map_map]; rfl
theorem stE_txE (s : List TxnV) : stE (s.map txE) = stL s := by unfold stE stL; rw [List.flatMap_map]; rfl
theorem keyE_iff {s : List TxnV} {k : Int} : k ∈ keyE (s.map txE) ↔ KeyIn s k := by
 unfold keyE KeyIn
 rw [List.flatMap_map, List.mem_flatMap]
 exact ⟨fun ⟨t, ht, hk⟩ => by obtain ⟨o, ho, e⟩ := List.mem_map.1 hk; exact ⟨t, ht, o, ho, e⟩, fun ⟨t, ht, o, ho, e⟩ => ⟨t, ht, List.mem_map.2 ⟨o, ho, e⟩⟩⟩
theorem valA_iff {s : List TxnV} {v : Int} : v ∈ valA (s.map txE) ↔ ∃ t ∈ s, ∃ o ∈ t.l, o.val = v := by
 unfold valA
 rw [List.flatMap_map, List.mem_flatMap]
 exact ⟨fun ⟨t, ht, hk⟩ => by obtain ⟨o, ho, e⟩ := List.mem_map.1 hk; exact ⟨t, ht, o, ho, e⟩, fun ⟨t, ht, o, ho, e⟩ => ⟨t, ht, List.mem_map.2 ⟨o, ho, e⟩⟩⟩
theorem KeyIn.perm (hp : s.Perm h) {k : Int} (q : KeyIn h k) : KeyIn s k := by
 obtain ⟨t, ht, r⟩ := q; exact ⟨t, hp.mem_iff.2 ht, r⟩
theorem ValIn.perm (hp : s.Perm h) {k : Int} (q : ValIn h k) : ValIn s k := q.imp id fun ⟨t, ht, r⟩ => ⟨t, hp.mem_iff.2 ht, r⟩
theorem noV_inj {L : List Int} {V : List Int} (hV : ∀ v ∈ V, v ≠ 0 → v ∈ L) {a b : Int} (ha : a = 0 ∨ a ∈ V) (hb : b = 0 ∨ b ∈ V) (e : noV L a = noV L b) : a = b := by
 unfold noV at e
 have na := noI_nonneg L a
 have nb := noI_nonneg L b
 by_cases h1 : a = 0
 ·by_cases h2 : b = 0
  ·rw [h1, h2]
  ·rw [if_pos h1, if_neg h2] at e; omega
 ·by_cases h2 : b = 0
  ·rw [if_neg h1, if_pos h2] at e; omega
  ·rw [if_neg h1, if_neg h2] at e
   exact noI_inj (hV a (ha.elim (fun q => absurd q h1) id) h1) (hV b (hb.elim (fun q => absurd q h2) id) h2) (by omega)
theorem valE_mem {E : List ETx} {v : Int} : v ∈ valE E ↔ v ∈ valA E ∧ v ≠ 0 := by unfold valE; rw [List.mem_filter]; simp
theorem nodup_ints : ∀ (n : Nat) (l : List Int), l.Nodup → (∀ k ∈ l, 0 ≤ k ∧ k < (n : Int)) → l.length ≤ n := by
 intro n l hn hl
 have := nodup_len n (l.map Int.toNat) (by
  rw [List.nodup_iff_pairwise_ne, List.pairwise_map]
  refine (List.nodup_iff_pairwise_ne.1 hn).imp_of_mem fun {a b} ha hb hne e => hne ?_
  have := hl a ha; have := hl b hb; omega) (fun k hk => by
  obtain ⟨a, ha, rfl⟩ := List.mem_map.1 hk
  have := hl a ha; omega)
 simpa using this
theorem can_ren_of (hc : checkI h = 0) (hs : IsSrt h s) (he : c.map txE = canE (s.map txE)) : ∃ π ρ, Ren h c π ρ (noI (keyE (s.map txE))) (noV (valE (s.map txE))) ∧ ∀ j (hj : j < c.length), ∃ hπ : π j < h.length, txE c[j] = renE (noI (sesE (s.map txE))) (rankI (stE (s.map txE))) (noI (keyE (s.map txE))) (noV (valE (s.map txE))) (txE h[π j]) := by
 refine ren_of hs.1 (begins_nodup (check_rightB hc).2.2.1) he ?_ ?_ (by unfold noV; rw [if_pos rfl])
 ·intro a b ha hb e
  exact noI_inj (keyE_iff.2 (ha.perm hs.1)) (keyE_iff.2 (hb.perm hs.1)) e
 ·intro a b ha hb e
  refine noV_inj (V := valA (s.map txE)) (fun v hv h0 => valE_mem.2 ⟨hv, h0⟩) ?_ ?_ e
  ·exact (ha.perm hs.1).imp id fun q => valA_iff.2 q
  ·exact (hb.perm hs.1).imp id fun q => valA_iff.2 q
theorem stE_perm (hs : IsSrt h s) {a : Int} (ha : a ∈ stL h) : a ∈ stE (s.map txE) := by
 rw [stE_txE]
 obtain ⟨t, ht, e⟩ := stL_mem.1 ha
 exact stL_mem.2 ⟨t, hs.1.mem_iff.2 ht, e⟩
theorem can_mono (hs : IsSrt h s) : ∀ a ∈ stL h, ∀ b ∈ stL h, a < b → rankI (stE (s.map txE)) a < rankI (stE (s.map txE)) b := fun _ ha _ _ e => rnk_lt (stE_perm hs ha) e
theorem can_ses (hs : IsSrt h s) : ∀ t ∈ h, ∀ u ∈ h, noI (sesE (s.map txE)) t.s = noI (sesE (s.map txE)) u.s → t.s = u.s := fun t ht u hu e => by
 refine noI_inj ?_ ?_ e <;> rw [sesE_txE]
 ·exact List.mem_map_of_mem (hs.1.mem_iff.2 ht)
 ·exact List.mem_map_of_mem (hs.1.mem_iff.2 hu)
theorem keys_total {L : List Int} {n : Nat} (hL : ∀ k ∈ L, 0 ≤ k ∧ k < (n : Int)) : (firsts L).length ≤ n := nodup_ints n _ (firsts_nodup L) fun k hk => hL k (mem_firsts.1 hk)
theorem valA_len (s : List TxnV) : (valA (s.map txE)).length = opsN s := by
 unfold valA opsN
 rw [List.flatMap_map, List.length_flatMap]
 congr 1
 exact List.map_congr_left fun t _ => by simp [txE]
theorem can_check (hc : checkI h = 0) (hs : IsSrt h s) (he : c.map txE = canE (s.map txE)) : checkI c = 0 := by
 obtain ⟨π, ρ, q, hq⟩ := can_ren_of hc hs he
 obtain ⟨hp, hv, hst, hse⟩ := check_rightB hc
 obtain ⟨h64, hopn, _, _⟩ := check_zero hc
 have hbc := check_bc hc
 have hln : s.length = h.length := hs.1.length_eq
 have at_ : ∀ j (hj : j < c.length), ∃ hπ : π j < h.length, c[j].s = noI (sesE (s.map txE)) h[π j].s ∧ c[j].b = rankI (stE (s.map txE)) h[π j].b ∧ c[j].c = rankI (stE (s.map txE)) h[π j].c ∧ c[j].l = h[π j].l.map (renO (noI (keyE (s.map txE))) (noV (valE (s.map txE)))) := by
  intro j hj
  obtain ⟨hπ, e⟩ := hq j hj
  exact ⟨hπ, congrArg (fun e : ETx => e.1) e, congrArg (fun e : ETx => e.2.1) e, congrArg (fun e : ETx => e.2.2.1) e, congrArg (fun e : ETx => e.2.2.2) e⟩
 have bm : ∀ t ∈ h, t.b ∈ stL h ∧ t.c ∈ stL h := fun t ht => ⟨stL_mem.2 ⟨t, ht, .inl rfl⟩, stL_mem.2 ⟨t, ht, .inr rfl⟩⟩
 have hstl : (stE (s.map txE)).length = 2 * h.length := by
  rw [stE_txE, ← hln]
  unfold stL
  rw [List.length_flatMap]
  clear hs he q hq hln at_
  induction s with
  | nil => rfl
  | cons a s ih => simp only [List.map_cons, List.sum_cons, List.length_cons, List.length_nil] at ih ⊢; omega
 have hkt : (firsts (keyE (s.map txE))).length ≤ 64 := keys_total (n := 64) fun k hk => by
  obtain ⟨t, ht, o, ho, rfl⟩ := keyE_iff.1 hk
  have := ((mayO_iff o).1 ((may_at hp (hs.1.mem_iff.1 ht)).2 o ho)).1
  omega
 have hvt : (firsts (valE (s.map txE))).length ≤ 1024 := by
  have h1 := firsts_len (valE (s.map txE))
  have h2 : (valE (s.map txE)).length ≤ (valA (s.map txE)).length := List.length_filter_le _ _
  rw [valA_len] at h2
  have h3 : opsN s = opsN h := by unfold opsN; exact sum_perm (hs.1.map _)
  omega
 have hsl : (firsts (sesE (s.map txE))).length ≤ 64 := by
  have h1 := firsts_len (sesE (s.map txE))
  rw [sesE_txE, List.length_map] at h1
  rw [sesE_txE]
  omega
 refine q.check hc ?_ ?_ ?_
 ·unfold partsB
  rw [List.all_eq_true]
  intro t ht
  obtain ⟨j, hj, rfl⟩ := List.mem_iff_getElem.1 ht
  obtain ⟨hπ, e1, e2, e3, e4⟩ := at_ j hj
  have hm := List.getElem_mem hπ
  obtain ⟨m1, m2⟩ := may_at hp hm
  rw [e1, e2, e3, e4]
  have a1 := noI_nonneg (sesE (s.map txE)) h[π j].s
  have a2 : noI (sesE (s.map txE)) h[π j].s < ((firsts (sesE (s.map txE))).length : Int) := noI_lt (by rw [sesE_txE]; exact List.mem_map_of_mem (hs.1.mem_iff.2 hm))
  have a3 := can_mono hs _ (bm _ hm).1 _ (bm _ hm).2 (hbc _ hm)
  have a4 : 0 ≤ rankI (stE (s.map txE)) h[π j].b := by unfold rankI; omega
  have a5 := rnk_le (L := stE (s.map txE)) h[π j].c
  rw [hstl] at a5
  rw [mayT_yes ⟨a1, by omega, a4, a3, by omega, by rw [List.length_map]; exact m1.2.2.2.2.2.1, by rw [List.length_map]; exact m1.2.2.2.2.2.2⟩]
  unfold allM
  rw [List.all_eq_true]
  intro o ho
  obtain ⟨p, hpm, rfl⟩ := List.mem_map.1 ho
  have hmo := (mayO_iff p).1 (m2 p hpm)
  rw [mayO_iff]
  have hK : KeyIn s p.key := ⟨_, hs.1.mem_iff.2 hm, p, hpm, rfl⟩
  have hV : p.val ∈ valA (s.map txE) := valA_iff.2 ⟨_, hs.1.mem_iff.2 hm, p, hpm, rfl⟩
  have b1 := noI_nonneg (keyE (s.map txE)) p.key
  have b2 : noI (keyE (s.map txE)) p.key < ((firsts (keyE (s.map txE))).length : Int) := noI_lt (keyE_iff.2 hK)
  have b3 := noI_nonneg (valE (s.map txE)) p.val
  refine ⟨⟨b1, by show noI _ _ < 64; omega⟩, ?_, ?_⟩
  ·show 0 ≤ noV _ p.val ∧ noV _ p.val ≤ 2147483647
   unfold noV
   by_cases h0 : p.val = 0
   ·rw [if_pos h0]; omega
   ·have b4 : noI (valE (s.map txE)) p.val < ((firsts (valE (s.map txE))).length : Int) := noI_lt (valE_mem.2 ⟨hV, h0⟩)
    rw [if_neg h0]; omega
  ·intro w
   show noV _ p.val ≠ 0
   unfold noV
   rw [if_neg (hmo.2.2 w)]; omega
 ·have hlen : c.length = h.length := q.len
  have hap : ∀ i j, ∀ hj : j < c.length, ∀ hi : i < j, Apart (c[i]'(by omega)) c[j] := by
   intro i j hj hi
   obtain ⟨p1, _, b1, c1, _⟩ := at_ i (by omega)
   obtain ⟨p2, _, b2, c2, _⟩ := at_ j hj
   have hne : π i ≠ π j := fun e => by have := q.turn.inj (show i < h.length by omega) (by omega) e; omega
   obtain ⟨x1, x2, x3, x4⟩ := st_apart hst p1 p2 hne
   have un : ∀ a ∈ stL h, ∀ b ∈ stL h, a ≠ b → rankI (stE (s.map txE)) a ≠ rankI (stE (s.map txE)) b := fun a ha b hb hne e => by
    rcases Int.lt_trichotomy a b with q | q | q
    ·have := can_mono hs a ha b hb q; omega
    ·exact hne q
    ·have := can_mono hs b hb a ha q; omega
   have m1 := bm _ (List.getElem_mem p1)
   have m2 := bm _ (List.getElem_mem p2)
   refine ⟨?_, ?_, ?_, ?_⟩
   ·rw [b1, b2]; exact un _ m1.1 _ m2.1 x1
   ·rw [b1, c2]; exact un _ m1.1 _ m2.2 x2
   ·rw [c1, b2]; exact un _ m1.2 _ m2.1 x3
   ·rw [c1, c2]; exact un _ m1.2 _ m2.2 x4
  have hbcc : ∀ t ∈ c, t.b < t.c := fun t ht => by
   obtain ⟨j, hj, rfl⟩ := List.mem_iff_getElem.1 ht
   obtain ⟨hπ, _, e2, e3, _⟩ := at_ j hj
   have hm := List.getElem_mem hπ
   rw [e2, e3]
   exact can_mono hs _ (bm _ hm).1 _ (bm _ hm).2 (hbc _ hm)
  have := st_nodup hbcc hap c.length (Nat.le_refl _)
  rw [List.take_length] at this
  exact decide_eq_true this
 ·have hcs : ∀ j (hj : j < c.length), ∃ hs' : j < s.length, txE c[j] = renE (noI (sesE (s.map txE))) (rankI (stE (s.map txE))) (noI (keyE (s.map txE))) (noV (valE (s.map txE))) (txE s[j]) := by
   intro j hj
   have hl : c.length = s.length := by have := congrArg List.length he; unfold canE at this; simpa using this
   refine ⟨by omega, ?_⟩
   have := congrArg (fun l => l[j]?) he
   unfold canE at this
   simp only [List.getElem?_map] at this
   rw [List.getElem?_eq_getElem hj, List.getElem?_eq_getElem (show j < s.length by omega)] at this
   simpa using this
  refine ses_mk fun j hj i hi e => ?_
  obtain ⟨q1, e1⟩ := hcs i (by omega)
  obtain ⟨q2, e2⟩ := hcs j hj
  have a1 : (c[i]'(by omega)).s = noI (sesE (s.map txE)) s[i].s := congrArg (fun e : ETx => e.1) e1
  have a2 : c[j].s = noI (sesE (s.map txE)) s[j].s := congrArg (fun e : ETx => e.1) e2
  have a3 : (c[i]'(by omega)).c = rankI (stE (s.map txE)) s[i].c := congrArg (fun e : ETx => e.2.2.1) e1
  have a4 : c[j].b = rankI (stE (s.map txE)) s[j].b := congrArg (fun e : ETx => e.2.1) e2
  have m1 := hs.1.mem_iff.1 (List.getElem_mem q1)
  have m2 := hs.1.mem_iff.1 (List.getElem_mem q2)
  rw [a1, a2] at e
  have es := can_ses hs _ m1 _ m2 e
  have hlt := (List.pairwise_iff_getElem.1 hs.2) i j q1 q2 hi
  rw [a3, a4]
  refine can_mono hs _ (bm _ m1).2 _ (bm _ m2).1 ?_
  obtain ⟨i', hi', f1⟩ := List.mem_iff_getElem.1 m1
  obtain ⟨j', hj', f2⟩ := List.mem_iff_getElem.1 m2
  rw [← f1, ← f2] at es hlt ⊢
  rcases Nat.lt_trichotomy i' j' with w | w | w
  ·exact ses_all hse hbc j' hj' i' w es
  ·subst w; omega
  ·have := ses_all hse hbc i' hi' j' w es.symm
   have := hbc _ (List.getElem_mem hi')
   have := hbc _ (List.getElem_mem hj')
   omega
theorem can_srt (hs : IsSrt h s) (he : c.map txE = canE (s.map txE)) : c.Pairwise fun t u => t.b < u.b := by
 rw [List.pairwise_iff_getElem]
 intro i j hi hj hij
 have hl : c.length = s.length := by have := congrArg List.length he; unfold canE at this; simpa using this
 have key : ∀ j (hj : j < c.length), c[j].b = rankI (stE (s.map txE)) (s[j]'(by omega)).b := by
  intro j hj
  have := congrArg (fun l => l[j]?) he
  unfold canE at this
  simp only [List.getElem?_map] at this
  rw [List.getElem?_eq_getElem hj, List.getElem?_eq_getElem (show j < s.length by omega)] at this
  simp only [Option.map_some, Option.some.injEq] at this
  exact congrArg (fun e : ETx => e.2.1) this
 rw [key i hi, key j hj]
 refine rnk_lt ?_ ((List.pairwise_iff_getElem.1 hs.2) i j _ _ hij)
 exact (stE_mem (List.mem_map_of_mem (List.getElem_mem (show i < s.length by omega)))).1
theorem can_can (he : c.map txE = canE (s.map txE)) : canE (c.map txE) = c.map txE := by
 rw [he]
 conv => lhs; rw [canE.eq_def (s.map txE)]
 refine can_ren ?_ ?_ ?_ ?_ ?_ ?_
 ·exact fun a ha b hb e => noI_inj ha hb e
 ·exact fun a ha b hb e => rnk_lt ha e
 ·exact fun a ha b hb e => noI_inj ha hb e
 ·unfold noV; rw [if_pos rfl]
 ·intro a ha e
  unfold noV at e
  by_cases h0 : a = 0
  ·exact h0
  ·rw [if_neg h0] at e; have := noI_nonneg (valE (s.map txE)) a; omega
 ·exact fun a ha b hb e => noV_inj (V := valA (s.map txE)) (fun v hv h0 => valE_mem.2 ⟨hv, h0⟩) (.inr ha) (.inr hb) e
theorem can_dec (hc : checkI h = 0) (hs : IsSrt h s) (he : c.map txE = canE (s.map txE)) (lv : Int) : (decW c lv).2.2 = (decW h lv).2.2 := by
 obtain ⟨π, ρ, q, hq⟩ := can_ren_of hc hs he
 exact ren_dec hc (can_check hc hs he) q hq (can_ses hs) (can_mono hs) lv
end
end

section
open Go.RowKit Go.Lib Go.Sort Go.Shelf
structure TxS where
 s : Int
 b : Int
 c : Int
 ao : Option Addr
 n : Nat
 cp : Nat
 l : List OpV
instance : Inhabited TxS := ⟨⟨0, 0, 0, none, 0, 0, []⟩⟩
def TxS.t (x : TxS) : TxnV := ⟨x.s, x.b, x.c, .slice x.ao x.n x.cp, x.l⟩
def encT (x : TxS) : List Value := [.int .i64 x.s, .int .i64 x.b, .int .i64 x.c, .slice x.ao x.n x.cp]
def cmpT (x y : TxS) : Int := compareInt x.b y.b
theorem cmpT_lt (x y : TxS) : ltOf cmpT x y = decide (x.b < y.b) := by
 unfold ltOf cmpT compareInt
 by_cases h1 : x.b < y.b
 ·simp [h1]
 ·by_cases h2 : y.b < x.b <;> simp [h1, h2]
theorem cmpT_swo : SWO (ltOf cmpT) where
 irrefl x := by rw [cmpT_lt]; simp
 trans x y z h1 h2 := by rw [cmpT_lt] at *; simp at *; omega
 ntrans x y z h1 h2 := by rw [cmpT_lt] at *; simp at *; omega
theorem txS_of : ∀ {h : List TxnV}, (∀ t ∈ h, ∃ ao n cp, t.v = .slice ao n cp) → ∃ l : List TxS, l.map TxS.t = h
 | [], _ => ⟨[], rfl⟩
 | t :: h, q => by
  obtain ⟨l, hl⟩ := txS_of fun u hu => q u (List.mem_cons_of_mem _ hu)
  obtain ⟨ao, n, cp, e⟩ := q t (List.mem_cons_self ..)
  refine ⟨⟨t.s, t.b, t.c, ao, n, cp, t.l⟩ :: l, ?_⟩
  rw [List.map_cons, hl]
  congr 1
  show (⟨t.s, t.b, t.c, .slice ao n cp, t.l⟩ : TxnV) = t
  rw [← e]
theorem cclosure_any (x y : TxS) (w : World) : Calls Tryz.prog 126 #[.agg #[.int .i64 x.s, .int .i64 x.b, .int .i64 x.c, .slice x.ao x.n x.cp], .agg #[.int .i64 y.s, .int .i64 y.b, .int .i64 y.c, .slice y.ao y.n y.cp]] w fun e w' => e = .returned (.int .i64 (cmpT x y)) ∧ ∃ q os', w' = grow (w.drewN q) os' := by
 obtain ⟨xs, xb, xc, xa, xn, xp, xl⟩ := x
 obtain ⟨ys, yb, yc, ya, yn, yp, yl⟩ := y
 have CC := fun w => hid (compare_any xb yb w)
 show Calls _ _ _ _ fun e w' => e = .returned (.int .i64 (compareInt xb yb)) ∧ _
 generalize compareInt xb yb = r at *
 go_enter Tryz.func126, Tryz.ntmps126
 go_wp2_with fail
 refine ((CC _).out).mono ?_
 rintro e w' ⟨rfl, rfl⟩
 go_wp2_with fail
 go_ret
 exact ⟨rfl, 0, _, by rw [alloc_eq_grow, alloc_eq_grow, grow_grow]; rfl⟩
theorem csort_any (blk off cap : Nat) (d : Array TxS) (w : World) (hH : HoldsK encT 4 w blk off d) (hblk : blk < w.heap.size) (hsz : d.size < 4611686018427387904) :
  Calls Tryz.prog 125 #[.slice (some ⟨blk, off, none⟩) d.size cap, .func (.func 126) #[] #[]] w fun e w' => e = .returned (.tuple #[]) ∧ ∃ d' n os, PermIn 0 d.size d d' ∧ SortedIn (ltOf cmpT) 0 d.size d' ∧ w' = sortWorldK encT 4 w blk off n d' os := by
 have eg : ∀ args w, (callFunc 126 args).run Tryz.prog w = .ok (.enter 126 args) w := enters_of Tryz.func126 (by kernel_rfl) rfl
 exact AnyQ.slices_SortFunc Tryz.sortTxn 4 Tryz.isAgg83 Tryz.sizeOf83 encT (fun _ => rfl) (fun x v hv => by simp [encT] at hv; rcases hv with rfl | rfl | rfl | rfl <;> rfl) cmpT cmpT_swo 126 #[] blk off cap d w eg (fun _ _ _ _ x y => cclosure_any x y _) hH hblk hsz
theorem tinsNone (p : Option Addr) (cap : Nat) (fv : Value) (w : World) : Calls Tryz.prog 205 #[.slice p 0 cap, .int .i64 0, .int .i64 0, fv] w fun e w' => e = .returned (.tuple #[]) ∧ w = w' := by
 go_enter Tryz.func205, Tryz.ntmps205
 go_wp2_with fail
 refine wp_loop_rounds 1 ?_
 rw [rounds_succ]
 go_wp2_with fail
 go_end0
 exact ⟨rfl, rfl⟩
theorem tpdqNone (p : Option Addr) (cap : Nat) (lim : Int) (fv : Value) (w : World) : Calls Tryz.prog 160 #[.slice p 0 cap, .int .i64 0, .int .i64 0, .int .i64 lim, fv] w fun e w' => e = .returned (.tuple #[]) ∧ w = w' := by
 have CI := hid (fun w => tinsNone p cap fv w)
 go_enter Tryz.func160, Tryz.ntmps160
 go_wp2_with fail
 refine wp_loop_rounds 1 ?_
 rw [rounds_succ]
 go_wp2_with fail
 refine (CI.out _).mono ?_
 rintro e w' ⟨rfl, rfl⟩
 go_wp2_with fail
 (try simp only [Exit.inBlock, Exit.then]); refine bodyPost_ret (results_none rfl _ _ _) rfl ?_
 exact ⟨rfl, rfl⟩
theorem tsort_none (p : Option Addr) (cap : Nat) (fv : Value) (w : World) : Calls Tryz.prog 125 #[.slice p 0 cap, fv] w fun e w' => e = .returned (.tuple #[]) ∧ w = w' := by
 have CP := hid (fun lim w => tpdqNone p cap lim fv w)
 have hl : ∀ W, Calls Tryz.prog 161 #[.int .u64 0] W fun e w' => e = .returned (.int .i64 (Lib.bitLen 0 : Nat)) ∧ w' = W := fun W =>
  Any.bits_Len (SlLaysF0.n15.bits (P := Tryz.prog) (ρ := Tryz.sortTxn_ren) { Tryz.sortTxn with }) 0 W (by omega) (by omega)
 have CL := hid hl
 clear hl
 go_enter Tryz.func125, Tryz.ntmps125
 go_wp2_with fail
 refine (CL.out _).mono ?_
 rintro e w' ⟨rfl, rfl⟩
 go_wp2_with fail
 refine (CP.out _ _).mono ?_
 rintro e w' ⟨rfl, rfl⟩
 go_wp2_with fail
 go_end0
 exact ⟨rfl, rfl⟩
theorem flat_txV (l : List TxS) : flatK encT 4 l.toArray = (txV (l.map TxS.t)).toArray := by
 apply Array.ext
 ·simp [txV_len]
 ·intro t h1 h2
  have ht : t < l.length * 4 := by simpa using h1
  have hk : t / 4 < l.length := by omega
  have hk2 : t / 4 < (l.map TxS.t).length := by simpa using hk
  obtain ⟨e0, e1, e2, e3⟩ := txV_at (l.map TxS.t) (t / 4) hk2
  rw [List.getElem_map] at e0 e1 e2 e3
  have hx : l.toArray[t / 4]! = l[t / 4] := by simp [hk]
  have h3 : (flatK encT 4 l.toArray)[t]! = (encT l[t / 4])[t % 4]! := by rw [get_flatK _ _ _ t (by simpa using ht), hx]
  rw [← getElem!_pos _ t h1, h3]
  have hm3 : t % 4 = 0 ∨ t % 4 = 1 ∨ t % 4 = 2 ∨ t % 4 = 3 := by omega
  have hr : ∀ x, (txV (l.map TxS.t))[t]? = some x → (txV (l.map TxS.t)).toArray[t] = x := fun x hx => by
   have := List.getElem?_eq_some_iff.1 hx
   simpa using this.2
  rcases hm3 with h | h | h | h
  ·rw [hr _ (by rw [show t = t / 4 * 4 from by omega]; exact e0), h]; rfl
  ·rw [hr _ (by rw [show t = t / 4 * 4 + 1 from by omega]; exact e1), h]; rfl
  ·rw [hr _ (by rw [show t = t / 4 * 4 + 2 from by omega]; exact e2), h]; rfl
  ·rw [hr _ (by rw [show t = t / 4 * 4 + 3 from by omega]; exact e3), h]; rfl
theorem town_sorted {w : World} {base g cap n : Nat} {os : Array Obj} {l ts : List TxS} (hl : ts.length = l.length) (h : OwnT w base (.slice (some ⟨g, 0, none⟩) l.length cap) (l.map TxS.t)) :
  OwnT (sortWorldK encT 4 w g 0 n ts.toArray os) base (.slice (some ⟨g, 0, none⟩) l.length cap) (ts.map TxS.t) ∧ w.grownBy (sortWorldK encT 4 w g 0 n ts.toArray os) (some g) := by
 unfold OwnT at h
 rw [List.length_map] at h
 obtain ⟨h1, h2⟩ := h
 rcases h2 with ⟨h2, _⟩ | ⟨g', cap', cur, e1, e2, hb, e3, e4, e5, e6⟩
 ·cases h2
 cases e1
 have hg : g < w.heap.size := (Array.getElem?_eq_some_iff.1 hb).1
 have ew : sortWorldK encT 4 w g 0 n ts.toArray os = grow (putRow id (Sort.ahead w n) g 0 (txV (ts.map TxS.t)).toArray) os := by
  unfold sortWorldK putRowK; rw [flat_txV]
 rw [ew]
 have hh : (grow (putRow id (Sort.ahead w n) g 0 (txV (ts.map TxS.t)).toArray) os).heap[g]? = some (.cells (putCells id 0 (txV (ts.map TxS.t)).toArray cur) 83 (0, 0)) := by
  rw [heap_grown (by simpa using hg)]
  simp [putRow, mapBlock, Sort.ahead, Array.getElem?_modify, hb, onCells]
 refine ⟨⟨by rw [txV_len], .inr ⟨g, cap, _, by rw [List.length_map, hl], e2, hh, by rw [List.length_map]; omega, e4, by simp [putCells, e5], ?_⟩⟩, rfl, rfl, rfl, by simp, fun k hk hne => ?_⟩
 ·have := take_put cur (txV (ts.map TxS.t)) (by rw [txV_len, List.length_map]; omega)
  rwa [txV_len] at this
 ·rw [heap_grown (by simpa using hk)]
  have : g ≠ k := fun e => hne (by rw [e])
  simp [putRow, mapBlock, Sort.ahead, Array.getElem?_modify, this]
theorem town_holds {w : World} {base g cap : Nat} {l : List TxS} (h : OwnT w base (.slice (some ⟨g, 0, none⟩) l.length cap) (l.map TxS.t)) : HoldsK encT 4 w g 0 l.toArray ∧ g < w.heap.size ∧ base ≤ g := by
 unfold OwnT at h
 rw [List.length_map] at h
 obtain ⟨h1, h2⟩ := h
 rcases h2 with ⟨h2, _⟩ | ⟨g', cap', cur, e1, e2, hb, e3, e4, e5, e6⟩
 ·cases h2
 cases e1
 refine ⟨?_, (Array.getElem?_eq_some_iff.1 hb).1, e2⟩
 show Holds id w g 0 _
 rw [flat_txV]
 exact holds_cells hb (by rw [txV_len, List.length_map]; exact e6)
theorem tsort_own (base : Nat) (v : Value) (h : List TxnV) (w : World) (hO : OwnT w base v h) (hv : ∀ t ∈ h, ∃ ao n cp, t.v = .slice ao n cp) (hn : (h.map (·.b)).Nodup) (hl : h.length ≤ 100000) :
  Calls Tryz.prog 125 #[v, .func (.func 126) #[] #[]] w fun e w' => e = .returned (.tuple #[]) ∧ ∃ s, IsSrt h s ∧ OwnT w' base v s ∧ w.grownBy w' v.ownBlock := by
 rcases hO.split with ⟨rfl, rfl⟩ | ⟨g, cap, rfl, hg⟩
 ·refine (tsort_none none 0 _ w).mono ?_
  rintro e w' ⟨rfl, rfl⟩
  exact ⟨rfl, [], ⟨List.Perm.refl _, List.Pairwise.nil⟩, hO, ⟨rfl, rfl, rfl, Nat.le_refl _, fun _ _ _ => rfl⟩⟩
 ·obtain ⟨l, rfl⟩ := txS_of hv
  rw [List.length_map] at *
  obtain ⟨hH, hgl, _⟩ := town_holds hO
  have hsz : l.toArray.size = l.length := by simp
  have C := csort_any g 0 cap l.toArray w hH hgl (by rw [hsz]; omega)
  rw [hsz] at C
  refine C.mono ?_
  rintro e w' ⟨rfl, d', n, os, ⟨hs1, _, hperm⟩, hs, rfl⟩
  have hs1 : d'.size = l.length := by rw [hs1]; simp
  have hp2 : d'.toList.Perm l := by
   rw [← hs1] at hperm
   rw [extract_all] at hperm
   rw [show (l.toArray.extract 0 d'.size).toList = l from by rw [hs1]; simp] at hperm
   exact hperm
  obtain ⟨q1, q2⟩ := town_sorted (n := n) (os := os) (ts := d'.toList) hp2.length_eq hO
  refine ⟨rfl, d'.toList.map TxS.t, ⟨hp2.map _, ?_⟩, q1, q2⟩
  have hnd : ((d'.toList.map TxS.t).map (·.b)).Nodup := ((hp2.map TxS.t).map (·.b)).nodup_iff.2 hn
  rw [List.nodup_iff_pairwise_ne, List.pairwise_map, List.pairwise_map] at hnd
  rw [List.pairwise_map, List.pairwise_iff_getElem]
  rw [List.pairwise_iff_getElem] at hnd
  intro i j hi hj hij
  have h1 := hnd i j hi hj hij
  have hj' : j < d'.size := by simpa using hj
  have hi' : i < d'.size := by simpa using hi
  have h2 := hs i j (Nat.zero_le _) hij (by rw [← hs1]; exact hj')
  rw [cmpT_lt, getElem!_pos d' i hi', getElem!_pos d' j hj'] at h2
  have h3 : ¬ d'[j].b < d'[i].b := by simpa using h2
  simp only [Array.getElem_toList] at h1 ⊢
  have h1 : d'[i].b ≠ d'[j].b := h1
  show d'[i].b < d'[j].b
  omega
end

section
open Go.RowKit
theorem below_app0 {B B' : Nat} {W wr w1 : World} {o : Obj} {e : TypeId} {n size : Nat} {v : Value} {xs : List Value} (hb : Below B W wr) (hB : B ≤ W.heap.size) (hown : wr.ownsRow B' e size v n xs) (hBB : B ≤ B')
  (hg : (wr.alloc o).grownBy w1 v.ownBlock) : Below B W w1 :=
 (hb.alloc (Nat.le_trans hB hb.size) o).grown hg (by have := hb.size; simp; omega) fun k hk => Nat.le_trans hBB (hown.lt k hk).1
theorem infoIntL : (Tryz.prog.info? 3).map (fun i => (i.zero, i.size, i.bytes)) = some (some (.int .i64 0), 1, 8) := by kernel_rfl
end

section
open Go.RowKit Go.Lib Go.Sort Go.Shelf
theorem holdsI {w : World} {g : Nat} {cur : Array Value} {e : TypeId} {l : List Int} (hb : w.heap[g]? = some (.cells cur e (0, 0))) (ht : cur.toList.take l.length = l.map (Value.int .i64)) : Holds (Value.int .i64) w g 0 l.toArray := by
 intro j hj
 have hj' : j < l.length := by simpa using hj
 refine ⟨?_, by simp [World.frozen?, hb]⟩
 have h1 : (cur.toList.take l.length)[j]? = (l.map (Value.int .i64))[j]? := by rw [ht]
 rw [List.getElem?_take_of_lt hj'] at h1
 simp only [World.cell?, hb, Nat.zero_add]
 simp only [Option.isSome_none, Bool.false_eq_true, if_false]
 rw [← Array.getElem?_toList, h1]
 simp [hj']
theorem take_putI (cur : Array Value) (l : List Int) (h : l.length ≤ cur.size) : (putCells (Value.int .i64) 0 l.toArray cur).toList.take l.length = l.map (Value.int .i64) := by
 apply List.ext_getElem?
 intro j
 by_cases hj : j < l.length
 ·rw [List.getElem?_take_of_lt hj, Array.getElem?_toList]
  simp [putCells, hj, show j < cur.size by omega]
 ·rw [List.getElem?_take_eq_none (by omega), List.getElem?_eq_none (by simp; omega)]
theorem isorted {w : World} {base g cap n : Nat} {os : Array Obj} {l ts : List Int} (hl : ts.length = l.length) (h : w.ownsRow base 3 1 (.slice (some ⟨g, 0, none⟩) l.length cap) l.length (l.map (Value.int .i64))) :
  (grow (putRow (Value.int .i64) (Sort.ahead w n) g 0 ts.toArray) os).ownsRow base 3 1 (.slice (some ⟨g, 0, none⟩) l.length cap) l.length (ts.map (Value.int .i64)) ∧ w.grownBy (grow (putRow (Value.int .i64) (Sort.ahead w n) g 0 ts.toArray) os) (some g) := by
 obtain ⟨h1, h2⟩ := h
 rcases h2 with ⟨h2, _⟩ | ⟨g', cap', cur, e1, e2, hb, e3, e4, e5, e6⟩
 ·cases h2
 cases e1
 have hg : g < w.heap.size := (Array.getElem?_eq_some_iff.1 hb).1
 have hh : (grow (putRow (Value.int .i64) (Sort.ahead w n) g 0 ts.toArray) os).heap[g]? = some (.cells (putCells (Value.int .i64) 0 ts.toArray cur) 3 (0, 0)) := by
  rw [heap_grown (by simpa using hg)]
  simp [putRow, mapBlock, Sort.ahead, Array.getElem?_modify, hb, onCells]
 refine ⟨⟨by simp [hl], .inr ⟨g, cap, _, rfl, e2, hh, by omega, e4, by simp [putCells, e5], ?_⟩⟩, rfl, rfl, rfl, by simp, fun k hk hne => ?_⟩
 ·have := take_putI cur ts (by omega)
  rw [hl] at this
  simpa using this
 ·rw [heap_grown (by simpa using hk)]
  have : g ≠ k := fun e => hne (by rw [e])
  simp [putRow, mapBlock, Sort.ahead, Array.getElem?_modify, this]
theorem isort_own (base : Nat) (v : Value) (l : List Int) (w : World) (hO : w.ownsRow base 3 1 v l.length (l.map (Value.int .i64))) (hl : l.length ≤ 1000000) :
  Calls Tryz.prog 133 #[v] w fun e w' => e = .returned (.tuple #[]) ∧ w'.ownsRow base 3 1 v l.length ((l.mergeSort fun x y => decide (x ≤ y)).map (Value.int .i64)) ∧ w.grownBy w' v.ownBlock := by
 have hO2 := hO
 obtain ⟨h1, h2⟩ := hO2
 rcases h2 with ⟨rfl, h2⟩ | ⟨g, cap, cur, rfl, e2, hb, e3, e4, e5, e6⟩
 ·have hl0 : l.length = 0 := by simpa using h2
  have : l = [] := List.eq_nil_of_length_eq_zero hl0
  subst this
  refine (AnyM.slices_Sort_int_none Tryz.sortInt none 0 w).mono ?_
  rintro e w' ⟨rfl, rfl⟩
  refine ⟨rfl, ?_, rfl, rfl, rfl, Nat.le_refl _, fun _ _ _ => rfl⟩
  simpa using hO
 ·refine (AnyM.slices_Sort_int Tryz.sortInt g 0 cap l w (holdsI hb (by simpa using e6)) (Array.getElem?_eq_some_iff.1 hb).1 (by omega)).mono ?_
  rintro e w' ⟨rfl, n, os, rfl⟩
  obtain ⟨q1, q2⟩ := isorted (n := n) (os := os) (ts := l.mergeSort fun x y => decide (x ≤ y)) (by simp) hO
  exact ⟨rfl, q1, q2⟩
def nameF (L : List Int) : Int → Option Int := fun x => if x ∈ L then some ((posL L x : Nat) : Int) else none
theorem nameF_yes {L : List Int} {x : Int} (h : x ∈ L) : nameF L x = some ((posL L x : Nat) : Int) := if_pos h
theorem nameF_no {L : List Int} {x : Int} (h : x ∉ L) : nameF L x = none := if_neg h
theorem nameF_put {L : List Int} {x : Int} (h : x ∉ L) : putF (nameF L) x (L.length : Int) = nameF (L ++ [x]) := by
 funext y
 unfold putF nameF
 have hp : L <+: L ++ [x] := List.prefix_append _ _
 by_cases e : y = x
 ·subst e
  rw [if_pos rfl, if_pos (by simp)]
  have : posL (L ++ [y]) y = L.length := by
   have h1 := posL_add L y
   unfold addN at h1
   rw [if_neg h] at h1
   rw [h1, posL_new h]
  rw [this]
 ·rw [if_neg e]
  by_cases e2 : y ∈ L
  ·rw [if_pos e2, if_pos (List.mem_append.2 (.inl e2)), posL_prefix hp e2]
  ·rw [if_neg e2, if_neg (by simp [e2, e])]
theorem mapNames : Tryz.prog.underlying 190 = some (.map 3 3) := Tryz.underlying190
theorem cof_any (b n : Nat) (L : List Int) (x : Int) (w : World) (hM : MapI eI Tryz.prog 3 w b n (nameF L) L.length) (hn : n ≤ 1000000) (hx : InI x) :
  Calls Tryz.prog 129 #[.map (some b), .int .i64 x] w fun e w' => e = .returned (.int .i64 ((posL L x : Nat) : Int)) ∧ MapI eI Tryz.prog 3 w' b (n + 1) (nameF (addN L x)) (addN L x).length ∧ w.grownBy w' (some b) := by
 by_cases hin : x ∈ L
 ·have hv := nameF_yes hin
  have HA : Hid (addN L x = L) := hid (by unfold addN; rw [if_pos hin])
  have HM := hid (hM.mono (Nat.le_succ n))
  generalize posL L x = p at *
  clear hin
  go_enter Tryz.func129, Tryz.ntmps129
  go_wp2_with (first | (at_lookup; refine wpList_lookI_ok _ rfl _ _ 190 rfl 3 3 keyI mapNames 0 (zeroI _) _ _ _ _ rfl hM _ rfl hx ?_; rw [hv]; simp only [Option.getD_some, Option.isSome_some, eI]) | go_in)
  go_ret
  exact ⟨rfl, by rw [HA.out]; exact HM.out, rfl, rfl, rfl, Nat.le_refl _, fun _ _ _ => rfl⟩
 ·have hv := nameF_no hin
  have HA : Hid (addN L x = L ++ [x]) := hid (by unfold addN; rw [if_neg hin])
  have HP : Hid (((posL L x : Nat) : Int) = (L.length : Int)) := hid (by rw [posL_new hin])
  have HN := hid (nameF_put hin)
  rw [HP.out]
  clear hin HP
  go_enter Tryz.func129, Tryz.ntmps129
  go_wp2_with (first | (at_lookup; refine wpList_lookI_ok _ rfl _ _ 190 rfl 3 3 keyI mapNames 0 (zeroI _) _ _ _ _ rfl hM _ rfl hx ?_; rw [hv]; simp only [Option.getD_none, Option.isSome_none, eI]) | (with_reducible refine wpList_lenI _ rfl _ 190 rfl 3 3 mapNames _ _ _ _ rfl hM ?_) | (at_mapUpdate; refine wpList_putI _ rfl _ _ _ 190 rfl 3 3 keyI mapNames _ _ _ _ rfl hM (by unfold maxLen; omega) _ rfl hx (L.length : Int) rfl ?_; intro w1 hM4 hgm; go_frame) | go_in)
  have hlen : (addN L x).length = L.length + 1 := by rw [HA.out]; simp
  have HM2 : Hid (MapI eI Tryz.prog 3 w1 b (n + 1) (nameF (addN L x)) (addN L x).length) := hid (by
   rw [hlen, HA.out, ← HN.out]
   rw [hv] at hM4
   simpa using hM4)
  clear hM4 hlen
  go_wp2_with fail
  go_ret
  exact ⟨rfl, HM2.out, hgm⟩
end

section
open Go.RowKit
theorem sort_two (L : List Int) (hd : L.Nodup) : (L.mergeSort fun x y => decide (x ≤ y)).Pairwise (· < ·) := by
 have hp := List.mergeSort_perm L (fun x y => decide (x ≤ y))
 have hs : (L.mergeSort fun x y => decide (x ≤ y)).Pairwise fun x y => decide (x ≤ y) = true := by
  apply List.pairwise_mergeSort
  ·intro a b c h1 h2; simp at *; omega
  ·intro a b; simp; omega
 have hn := hp.nodup_iff.2 hd
 rw [List.nodup_iff_pairwise_ne, List.pairwise_iff_getElem] at hn
 rw [List.pairwise_iff_getElem] at hs ⊢
 intro i j hi hj hij
 have h1 := hs i j hi hj hij
 have h2 := hn i j hi hj hij
 simp only [decide_eq_true_eq] at h1
 omega
theorem sort_rank {L : List Int} (hd : L.Nodup) {k : Nat} (hk : k < (L.mergeSort fun x y => decide (x ≤ y)).length) : rankN L (L.mergeSort fun x y => decide (x ≤ y))[k] = k := by
 have hp := List.mergeSort_perm L (fun x y => decide (x ≤ y))
 have hs := sort_two L hd
 generalize (L.mergeSort fun x y => decide (x ≤ y)) = T at *
 rw [List.pairwise_iff_getElem] at hs
 unfold rankN
 rw [← hp.countP_eq]
 have h1 : (T.take k).countP (fun y => decide (y < T[k])) = (T.take k).length := by
  rw [List.countP_eq_length]
  intro a ha
  obtain ⟨i, hi, e⟩ := List.mem_take_iff_getElem.1 ha
  have := hs i k (by omega) hk (by omega)
  rw [← e]; simpa using this
 have h2 : (T.drop k).countP (fun y => decide (y < T[k])) = 0 := by
  rw [List.countP_eq_zero]
  intro a ha
  obtain ⟨i, hi, e⟩ := List.mem_drop_iff_getElem.1 ha
  rw [← e]
  by_cases h0 : i = 0
  ·subst h0; simp
  ·have := hs k (k + i) hk (by omega) (by omega)
   simp; omega
 have := congrArg (List.countP fun y => decide (y < T[k])) (List.take_append_drop k T)
 rw [List.countP_append, h1, h2, List.length_take] at this
 omega
def rankF (L T : List Int) : Int → Option Int := fun x => if x ∈ T then some (rankI L x) else none
theorem rankF_put {L : List Int} (hd : L.Nodup) {k : Nat} (hk : k < (L.mergeSort fun x y => decide (x ≤ y)).length) : putF (rankF L ((L.mergeSort fun x y => decide (x ≤ y)).take k)) (L.mergeSort fun x y => decide (x ≤ y))[k] (k : Int) = rankF L ((L.mergeSort fun x y => decide (x ≤ y)).take (k + 1)) := by
 have hr := sort_rank hd hk
 generalize (L.mergeSort fun x y => decide (x ≤ y)) = T at *
 funext y
 unfold putF rankF
 rw [List.take_succ_eq_append_getElem hk]
 by_cases e : y = T[k]
 ·rw [if_pos e, if_pos (List.mem_append.2 (.inr (by rw [e]; exact List.mem_singleton.2 rfl))), e]
  unfold rankI
  rw [hr]
 ·rw [if_neg e]
  by_cases e2 : y ∈ T.take k
  ·rw [if_pos e2, if_pos (List.mem_append.2 (.inl e2))]
  ·rw [if_neg e2, if_neg]
   rw [List.mem_append]
   rintro (q | q)
   ·exact e2 q
   ·exact e (List.mem_singleton.1 q)
theorem rankF_all (L : List Int) : rankF L (L.mergeSort fun x y => decide (x ≤ y)) = rankF L L := by
 funext y
 unfold rankF
 have hp := List.mergeSort_perm L (fun x y => decide (x ≤ y))
 by_cases e : y ∈ L
 ·rw [if_pos e, if_pos (hp.mem_iff.2 e)]
 ·rw [if_neg e, if_neg (fun q => e (hp.mem_iff.1 q))]
theorem stL_len (h : List TxnV) : (stL h).length = 2 * h.length := by
 unfold stL
 induction h with
 | nil => rfl
 | cons t h ih => rw [List.flatMap_cons, List.length_append, ih]; simp; omega
theorem cranks_any (va : Value) (h : List TxnV) (w : World) (hT : Txns w va h) (hok : ∀ t ∈ h, t.ok) (hd : (stL h).Nodup) (hl : h.length ≤ 1000) :
  Calls Tryz.prog 128 #[va] w fun e w' => (∃ b n c, e = .returned (.map (some b)) ∧ n ≤ 10000 ∧ w.heap.size ≤ b ∧ MapI eI Tryz.prog 3 w' b n (rankF (stL h) (stL h)) c) ∧ Below w.heap.size w w' := by
 obtain ⟨i0, hi, hz0, hz1, hz2⟩ := info_parts infoIntL
 have HH := hid (fun wx (hx : Below w.heap.size w wx) => hT.below hx)
 obtain ⟨ao, cap, rfl, hal⟩ := hT.form
 have HD := hid hd
 have HOK := hid hok
 clear hT hd hok
 go_enter Tryz.func128, Tryz.ntmps128
 go_wp2_with fail
 go_loopw [3, 11] (fun v i wr => ∃ k : Nat, k ≤ h.length ∧ i = .int .i64 (k : Int) ∧ Hid (wr.ownsRow w.heap.size 3 1 v (stL (h.take k)).length ((stL (h.take k)).map (Value.int .i64))) ∧ Hid (Below w.heap.size w wr)) (fun _ i _ => h.length - (intOf i).toNat)
 case atStart => exact ⟨0, by omega, rfl, hid (World.ownsRow_nil _ _ _ _), hid (Below.refl _ _)⟩
 case round =>
  obtain ⟨k, hk, rfl, HO, HB⟩ := hrel
  by_cases hlt : k < h.length
  ·have hki : (k : Int) < (h.length : Int) := by omega
   obtain ⟨g, o, hao, d0, d1, d2, d3⟩ := (HH.out _ HB.out).at hlt
   cases hao
   have HL := hid (stL_succ h k hlt)
   have hsl : (stL (h.take k)).length ≤ 2000 := by rw [stL_len, List.length_take]; omega
   obtain ⟨_, ua, uc, hu, _⟩ := (HH.out _ HB.out).ops hlt
   rw [hu] at d3
   clear hu
   generalize h[k] = t at *
   obtain ⟨s, b, cc, v9, l⟩ := t
   simp only at d0 d1 d2 d3 HL
   have hown := HO.out.alloc (.cells #[.int .i64 s, .int .i64 b, .int .i64 cc, .slice ua l.length uc] 83)
   have HB2 := HB.out.alloc HB.out.size (.cells #[.int .i64 s, .int .i64 b, .int .i64 cc, .slice ua l.length uc] 83)
   have hsz := HB.out.size
   generalize stL (h.take k) = S at *
   clear HO
   go_wp2_with (first | (at_builtin; refine wpList_append_own _ rfl _ _ 24 rfl w.heap.size 3 i0 (.int .i64 0) 1 8 Tryz.underlying24 hi hz0 hz1 hz2 rfl (by decide) _ _ _ rfl (hown.alloc _) ⟨_, 0, none⟩ 2 2 [.int .i64 b, .int .i64 cc] rfl rfl ?c1 ?c2 ?c3 ?c4 ?c5 ?_) | go_in)
   try case c1 => first | (simp [Addr.add]; done) | (intro j u hu; rcases j with _ | _ | j <;> first | (cases hu; simp [Addr.add]; done) | (simp at hu; done))
   case c2 => first | exact ⟨rfl, rfl⟩ | (intro u hu; simp at hu; rcases hu with rfl | rfl <;> rfl)
   case c3 => unfold maxLen; omega
   case c4 => omega
   case c5 => first | omega | (simp; omega)
   intro v10 w10 hown10 hg10 _
   have HO10 : Hid (w10.ownsRow w.heap.size 3 1 v10 (stL (h.take (k + 1))).length ((stL (h.take (k + 1))).map (Value.int .i64))) := hid (by
    rw [HL.out, List.length_append, List.map_append]
    exact hown10)
   have HB10 : Hid (Below w.heap.size w w10) := hid (below_app0 HB2 (Nat.le_refl _) hown (Nat.le_refl _) hg10)
   clear hown10 hg10 hown HL HB2
   go_wp2_with fail
   go_roundw
   case rel => exact ⟨k + 1, by omega, by go_num, HO10, HB10⟩
   case measure => simp [intOf]; omega
  ·obtain rfl : k = h.length := by omega
   have hki : ¬ (h.length : Int) < (h.length : Int) := by omega
   have hO := HO.out
   rw [List.take_length] at hO
   have hsl : (stL h).length ≤ 2000 := by rw [stL_len]; omega
   have CS := hid (isort_own w.heap.size _ (stL h) wr hO (by omega))
   have HLO := hid (fun b hb => (World.ownsRow.lt hO b hb).1)
   have HIN : Hid (∀ x ∈ stL h, InI x) := hid (fun x hx => by
    obtain ⟨t, ht, e⟩ := stL_mem.1 hx
    have := (HOK.out t ht).1
    rcases e with rfl | rfl
    ·exact inI_of this.2.1
    ·exact inI_of this.2.2)
   have HPT := hid (List.mergeSort_perm (stL h) (fun x y => decide (x ≤ y)))
   have HPUT := hid (fun k hk => rankF_put HD.out (k := k) hk)
   have HALL := hid (rankF_all (stL h))
   clear hO HO
   go_wp2_with fail
   refine CS.out.mono ?_
   rintro e w5 ⟨rfl, hO5, hg5⟩
   have hb5 := HB.out.grown hg5 HB.out.size (fun j hj => HLO.out j hj)
   obtain ⟨_, so, scap, rfl, _⟩ := Row.of_owns hO5
   generalize hS : stL h = S at *
   generalize hT : (S.mergeSort fun x y => decide (x ≤ y)) = T at *
   have hTl : T.length = S.length := HPT.out.length_eq
   rw [← hTl]
   have hI5 : Ints w5 (.slice so T.length scap) T := by
    have h1 := Row.of_owns hO5
    rw [← hTl] at h1
    exact h1
   have hm0 := MapI.made eI Tryz.prog 3 w5
   have hxA := box_below w5 (.map #[] 0)
   have HI5 := hid (fun wx (hx : Below w5.heap.size w5 wx) => hI5.below hx)
   have hI6 := hid (hI5.below hxA)
   have HF0 : Hid (rankF S (T.take 0) = fun _ => none) := hid (by funext x; unfold rankF; simp)
   have hmm := @run_makeMap Tryz.prog
   have HB5 := hid hb5
   have HX5 := hid hxA
   clear hI5 hxA hb5
   generalize w5 = w5x at *
   go_wp2_with fail
   clear hmm
   go_loopw [28] (fun i wr => ∃ k n c : Nat, k ≤ T.length ∧ i = .int .i64 (k : Int) ∧ n ≤ k ∧ MapI eI Tryz.prog 3 wr w5x.heap.size n (rankF S (T.take k)) c ∧ Hid (Below w5x.heap.size w5x wr)) (fun i _ => T.length - (intOf i).toNat)
   case atStart => exact ⟨0, 0, 0, by omega, rfl, by omega, by rw [HF0.out]; exact hm0, HX5⟩
   case round =>
    obtain ⟨k, n, c, hk, rfl, hn, hM, HB6⟩ := hrel
    clear hm0
    by_cases hlt : k < T.length
    ·have hki2 : (k : Int) < (T.length : Int) := by omega
     obtain ⟨g, o, hao, hc⟩ := (HI5.out _ HB6.out).at hlt
     cases hao
     have hkx := HIN.out T[k] (HPT.out.mem_iff.1 (List.getElem_mem hlt))
     have HP := hid (HPUT.out k hlt)
     have hbz := HB6.out.size
     have HB7 := hid HB6.out
     clear HB6
     generalize T[k] = y at *
     go_wp2_with (first | (at_mapUpdate; refine wpList_putI _ rfl _ _ _ 32 rfl 3 3 keyI mapII _ _ _ _ rfl hM (by unfold maxLen; omega) _ rfl hkx (k : Int) rfl ?_; intro w1 hM4 hgm; go_frame) | go_in)
     have HB8 := hid (HB7.out.grown hgm HB7.out.size (fun j hj => by cases hj; omega))
     rw [HP.out] at hM4
     go_wp2_with fail
     go_roundw
     case rel => exact ⟨k + 1, n + 1, _, by omega, by go_num, by omega, hM4, HB8⟩
     case measure => simp [intOf]; omega
    ·obtain rfl : k = T.length := by omega
     have hki2 : ¬ (T.length : Int) < (T.length : Int) := by omega
     rw [List.take_length, HALL.out] at hM
     have HM := hid hM
     have HB7 := hid (below_then HB5.out HB6.out)
     have hz := HB5.out.size
     clear HB6 hM
     go_wp2_with fail
     go_ret
     exact ⟨⟨_, rfl, n, by omega, hz, c, HM.out⟩, HB7.out⟩
end

section
open Go.RowKit
theorem owns_set {w : World} {base : Nat} {e : TypeId} {size g cap n : Nat} {xs : List Value} (h : w.ownsRow base e size (.slice (some ⟨g, 0, none⟩) n cap) n xs) (j : Nat) (u : Value) :
  (w.setCell ⟨g, j, none⟩ u).ownsRow base e size (.slice (some ⟨g, 0, none⟩) n cap) n (xs.set j u) := by
 obtain ⟨h1, h2⟩ := h
 rcases h2 with ⟨h2, _⟩ | ⟨g', cap', cur, e1, e2, hb, e3, e4, e5, e6⟩
 ·cases h2
 cases e1
 refine ⟨by simp [h1], .inr ⟨g, cap, cur.setIfInBounds j u, rfl, e2, ?_, e3, e4, by simpa using e5, ?_⟩⟩
 ·rw [Sort.setCell_eq]
  simp [Sort.mapBlock, Array.getElem?_modify, hb, Sort.onCells]
 ·rw [Array.toList_setIfInBounds, List.take_set, e6]
theorem opV_set : ∀ (l : List OpV) (k : Nat) (_ : k < l.length) (o : OpV), opV (l.set k o) = (((opV l).set (k * 3) (.bool o.wr)).set (k * 3 + 1) (.int .i64 o.key)).set (k * 3 + 2) (.int .i64 o.val)
 | a :: l, 0, _, o => rfl
 | a :: l, k + 1, hk, o => by
  have ih := opV_set l k (by simpa using hk) o
  rw [show (k + 1) * 3 + 2 = (k * 3 + 2) + 1 + 1 + 1 from by omega, show (k + 1) * 3 + 1 = (k * 3 + 1) + 1 + 1 + 1 from by omega, show (k + 1) * 3 = (k * 3) + 1 + 1 + 1 from by omega]
  show opV (a :: l.set k _) = (((Value.bool a.wr :: .int .i64 a.key :: .int .i64 a.val :: opV l).set _ _).set _ _).set _ _
  simp only [List.set_cons_succ]
  rw [← ih]; rfl
theorem Own.store {w : World} {base g cap n : Nat} {l : List OpV} (h : Own w base (.slice (some ⟨g, 0, none⟩) n cap) l) {k : Nat} (hk : k < l.length) (o : OpV) :
  Own (w.setCells g (k * 3) [.bool o.wr, .int .i64 o.key, .int .i64 o.val]) base (.slice (some ⟨g, 0, none⟩) n cap) (l.set k o) := by
 unfold Own at h ⊢
 obtain ⟨x, y⟩ := h
 have hn : n = l.length := by
  rcases y with ⟨y, _⟩ | ⟨g', cap', cur, e1, _⟩
  ·cases y
  ·exact (Value.slice.inj e1).2.1
 subst hn
 have := owns_set (owns_set (owns_set (w := w) ⟨x, y⟩ (k * 3) (.bool o.wr)) (k * 3 + 1) (.int .i64 o.key)) (k * 3 + 2) (.int .i64 o.val)
 rw [← opV_set l k hk o] at this
 rw [List.length_set]
 exact this
def valP (l : List Int) : List Int := l.filter fun v => v != 0
theorem pos_cons {x : Int} (L : List Int) (h : x ≠ 0) : posL (0 :: L) x = posL L x + 1 := by
 unfold posL
 rw [List.findIdx_cons]
 have : ((0 : Int) == x) = false := by simpa using Ne.symm h
 rw [this]; rfl
theorem pos_zero (L : List Int) : posL (0 :: L) 0 = 0 := by
 unfold posL
 rw [List.findIdx_cons]; rfl
theorem addN_val (q : List Int) (x : Int) : addN (0 :: firsts (valP q)) x = 0 :: firsts (valP (q ++ [x])) := by
 unfold valP
 rw [List.filter_append]
 by_cases h : x = 0
 ·subst h
  rw [show List.filter (fun v => v != 0) [(0 : Int)] = [] from rfl, List.append_nil]
  unfold addN
  rw [if_pos (List.mem_cons_self ..)]
 ·have h1 : List.filter (fun v => v != 0) [x] = [x] := by simp [h]
  rw [h1, firsts_snoc]
  unfold addN
  by_cases h2 : x ∈ firsts (q.filter fun v => v != 0)
  ·rw [if_pos (List.mem_cons_of_mem _ h2), if_pos h2]
  ·rw [if_neg (by simp [h, h2]), if_neg h2]; rfl
section
variable {E : List ETx}
theorem op_ren {p q : List Int} {o : OpV} (hp : p ++ [o.key] <+: keyE E) (hq : q ++ [o.val] <+: valA E) :
  (⟨o.wr, ((posL (firsts p) o.key : Nat) : Int), ((posL (0 :: firsts (valP q)) o.val : Nat) : Int)⟩ : OpV) = renO (noI (keyE E)) (noV (valE E)) o := by
 unfold renO noI noV
 rw [posL_time hp]
 congr 1
 by_cases h : o.val = 0
 ·rw [if_pos h, h, pos_zero]; rfl
 ·rw [if_neg h, pos_cons _ h]
  unfold noI
  have hf : valP q ++ [o.val] <+: valE E := by
   obtain ⟨r, hr⟩ := hq
   refine ⟨valP r, ?_⟩
   unfold valP valE
   rw [← hr, List.filter_append, List.filter_append]
   have h1 : List.filter (fun v => v != 0) [o.val] = [o.val] := by simp [h]
   rw [h1]
  rw [posL_time hf]
  omega
theorem flat_prefix {f : ETx → List Int} {i : Nat} (hi : i < E.length) {k : Nat} (hk : k < (f E[i]).length) : (E.take i).flatMap f ++ (f E[i]).take k ++ [(f E[i])[k]] <+: E.flatMap f := by
 refine ⟨(f E[i]).drop (k + 1) ++ (E.drop (i + 1)).flatMap f, ?_⟩
 have h1 : E.flatMap f = (E.take i).flatMap f ++ (f E[i] ++ (E.drop (i + 1)).flatMap f) := by
  have := congrArg (List.flatMap f) (List.take_append_drop i E)
  rw [← this, List.flatMap_append, List.drop_eq_getElem_cons hi, List.flatMap_cons]
 have h2 : f E[i] = (f E[i]).take k ++ [(f E[i])[k]] ++ (f E[i]).drop (k + 1) := by
  rw [List.append_assoc, List.singleton_append, ← List.drop_eq_getElem_cons hk, List.take_append_drop]
 rw [h1]
 conv => rhs; rw [h2]
 simp only [List.append_assoc]
end
end

section
open Go.RowKit
def cOp (E : List ETx) (o : OpV) : OpV := renO (noI (keyE E)) (noV (valE E)) o
def cTx (E : List ETx) (t : TxnV) : TxnV := ⟨noI (sesE E) t.s, rankI (stE E) t.b, rankI (stE E) t.c, t.v, t.l.map (cOp E)⟩
theorem cTx_canE (s : List TxnV) : (s.map (cTx (s.map txE))).map txE = canE (s.map txE) := by
 unfold canE
 rw [List.map_map, List.map_map]; rfl
def outTo (s : List TxnV) (i : Nat) : List TxnV := (s.take i).map (cTx (s.map txE)) ++ s.drop i
def opsTo (s : List TxnV) (i k j : Nat) : List OpV := if j < i then (opsAt s j).map (cOp (s.map txE)) else if j = i then ((opsAt s j).take k).map (cOp (s.map txE)) ++ (opsAt s j).drop k else opsAt s j
def sTo (s : List TxnV) (i : Nat) : List Int := (sesE (s.map txE)).take i
def kTo (s : List TxnV) (i k : Nat) : List Int := keyE ((s.map txE).take i) ++ ((opsAt s i).take k).map (·.key)
def vTo (s : List TxnV) (i k : Nat) : List Int := valA ((s.map txE).take i) ++ ((opsAt s i).take k).map (·.val)
section
variable {s : List TxnV} {i k : Nat}
theorem outTo_len (hi : i ≤ s.length) : (outTo s i).length = s.length := by unfold outTo; simp; omega
theorem outTo_zero : outTo s 0 = s := by unfold outTo; simp
theorem outTo_all : outTo s s.length = s.map (cTx (s.map txE)) := by unfold outTo; simp
theorem outTo_at (hi : i < s.length) (hi2 : i < (outTo s i).length) : (outTo s i)[i] = s[i] := by
 have h1 : ((s.take i).map (cTx (s.map txE))).length = i := by simp; omega
 have : (outTo s i)[i]? = some s[i] := by
  unfold outTo
  rw [List.getElem?_append_right (by omega), h1, Nat.sub_self, List.getElem?_drop, Nat.add_zero, List.getElem?_eq_getElem hi]
 rw [List.getElem?_eq_getElem hi2] at this
 exact Option.some.inj this
theorem outTo_succ (hi : i < s.length) : outTo s (i + 1) = (outTo s i).set i (cTx (s.map txE) s[i]) := by
 have h1 : ((s.take i).map (cTx (s.map txE))).length = i := by simp; omega
 unfold outTo
 rw [List.take_succ_eq_append_getElem hi, List.map_append, List.set_append_right _ _ (by omega), h1, Nat.sub_self, List.drop_eq_getElem_cons hi, List.set_cons_zero, List.append_assoc]
 rfl
theorem txV_all (l : List TxnV) (i : Nat) (hi : i < l.length) (x y z : Int) (m : List OpV) : txV (l.set i ⟨x, y, z, l[i].v, m⟩) = (((txV l).set (i * 4) (.int .i64 x)).set (i * 4 + 1) (.int .i64 y)).set (i * 4 + 2) (.int .i64 z) := by
 induction l generalizing i with
 | nil => cases hi
 | cons a l ih =>
  cases i with
  | zero => rfl
  | succ i =>
   have := ih i (by simpa using hi)
   rw [show (i + 1) * 4 + 2 = (i * 4 + 2) + 1 + 1 + 1 + 1 from by omega, show (i + 1) * 4 + 1 = (i * 4 + 1) + 1 + 1 + 1 + 1 from by omega, show (i + 1) * 4 = (i * 4) + 1 + 1 + 1 + 1 from by omega]
   show txV (a :: l.set i _) = (((Value.int .i64 a.s :: .int .i64 a.b :: .int .i64 a.c :: a.v :: txV l).set _ _).set _ _).set _ _
   simp only [List.set_cons_succ]
   rw [← this]; rfl
theorem opsTo_now : opsTo s i k i = ((opsAt s i).take k).map (cOp (s.map txE)) ++ (opsAt s i).drop k := by
 unfold opsTo; rw [if_neg (by omega), if_pos rfl]
theorem opsTo_len (j : Nat) : (opsTo s i k j).length = (opsAt s j).length := by
 unfold opsTo
 split
 ·simp
 ·split
  ·simp; omega
  ·rfl
theorem opsTo_at (hk : k < (opsAt s i).length) (hk2 : k < (opsTo s i k i).length) : (opsTo s i k i)[k] = (opsAt s i)[k] := by
 have h1 : (((opsAt s i).take k).map (cOp (s.map txE))).length = k := by simp; omega
 have : (opsTo s i k i)[k]? = some (opsAt s i)[k] := by
  rw [opsTo_now, List.getElem?_append_right (by omega), h1, Nat.sub_self, List.getElem?_drop, Nat.add_zero, List.getElem?_eq_getElem hk]
 rw [List.getElem?_eq_getElem hk2] at this
 exact Option.some.inj this
theorem opsTo_succ (hk : k < (opsAt s i).length) : opsTo s i (k + 1) i = (opsTo s i k i).set k (cOp (s.map txE) (opsAt s i)[k]) := by
 have h1 : (((opsAt s i).take k).map (cOp (s.map txE))).length = k := by simp; omega
 rw [opsTo_now, opsTo_now, List.take_succ_eq_append_getElem hk, List.map_append, List.set_append_right _ _ (by omega), h1, Nat.sub_self, List.drop_eq_getElem_cons hk, List.set_cons_zero, List.append_assoc]
 rfl
theorem opsTo_other {j : Nat} (h : j ≠ i) : opsTo s i (k + 1) j = opsTo s i k j := by
 unfold opsTo; rw [if_neg h, if_neg h]
theorem opsTo_done (j : Nat) : opsTo s i (opsAt s i).length j = opsTo s (i + 1) 0 j := by
 unfold opsTo
 by_cases h1 : j < i
 ·rw [if_pos h1, if_pos (by omega)]
 ·rw [if_neg h1]
  by_cases h2 : j = i
  ·subst h2; rw [if_pos rfl, if_pos (by omega)]; simp
  ·rw [if_neg h2, if_neg (by omega)]
   by_cases h3 : j = i + 1
   ·rw [if_pos h3]; simp
   ·rw [if_neg h3]
theorem sTo_succ (hi : i < s.length) : sTo s (i + 1) = sTo s i ++ [s[i].s] := by
 unfold sTo
 rw [List.take_succ_eq_append_getElem (by unfold sesE; simpa using hi)]
 congr 1
 unfold sesE
 simp [txE]
theorem kTo_succ (hk : k < (opsAt s i).length) : kTo s i (k + 1) = kTo s i k ++ [(opsAt s i)[k].key] := by
 unfold kTo
 rw [List.take_succ_eq_append_getElem hk, List.map_append, List.append_assoc]; rfl
theorem vTo_succ (hk : k < (opsAt s i).length) : vTo s i (k + 1) = vTo s i k ++ [(opsAt s i)[k].val] := by
 unfold vTo
 rw [List.take_succ_eq_append_getElem hk, List.map_append, List.append_assoc]; rfl
theorem take_txE (hi : i < s.length) : (s.map txE).take (i + 1) = (s.map txE).take i ++ [txE s[i]] := by
 rw [List.take_succ_eq_append_getElem (by simpa using hi)]; simp
theorem kTo_done (hi : i < s.length) : kTo s i (opsAt s i).length = kTo s (i + 1) 0 := by
 unfold kTo
 rw [take_txE hi, List.take_length, List.take_zero, List.map_nil, List.append_nil, opsAt_eq hi]
 unfold keyE
 rw [List.flatMap_append]; simp [txE]
theorem vTo_done (hi : i < s.length) : vTo s i (opsAt s i).length = vTo s (i + 1) 0 := by
 unfold vTo
 rw [take_txE hi, List.take_length, List.take_zero, List.map_nil, List.append_nil, opsAt_eq hi]
 unfold valA
 rw [List.flatMap_append]; simp [txE]
theorem cOp_now (hi : i < s.length) (hk : k < (opsAt s i).length) : (⟨(opsAt s i)[k].wr, ((posL (firsts (kTo s i k)) (opsAt s i)[k].key : Nat) : Int), ((posL (0 :: firsts (valP (vTo s i k))) (opsAt s i)[k].val : Nat) : Int)⟩ : OpV) = cOp (s.map txE) (opsAt s i)[k] := by
 have hiE : i < (s.map txE).length := by simpa using hi
 have eE : (txE s[i]).2.2.2 = opsAt s i := (opsAt_eq hi).symm
 have e1 : ((opsAt s i).take k).map (·.key) = ((opsAt s i).map (·.key)).take k := List.map_take
 have e2 : ((opsAt s i).take k).map (·.val) = ((opsAt s i).map (·.val)).take k := List.map_take
 unfold cOp
 refine op_ren ?_ ?_
 ·have := flat_prefix (E := s.map txE) (f := fun e => e.2.2.2.map (·.key)) hiE (k := k) (by simp only [List.getElem_map, eE, List.length_map]; exact hk)
  simp only [List.getElem_map, eE] at this
  unfold kTo
  rw [e1]
  exact this
 ·have := flat_prefix (E := s.map txE) (f := fun e => e.2.2.2.map (·.val)) hiE (k := k) (by simp only [List.getElem_map, eE, List.length_map]; exact hk)
  simp only [List.getElem_map, eE] at this
  unfold vTo
  rw [e2]
  exact this
theorem ses_now (hi : i < s.length) : ((posL (firsts (sTo s i)) s[i].s : Nat) : Int) = noI (sesE (s.map txE)) s[i].s := by
 have h : sTo s i ++ [s[i].s] <+: sesE (s.map txE) := by
  rw [← sTo_succ hi]
  exact List.take_prefix _ _
 unfold noI
 rw [posL_time h]
theorem rank_now (x : Int) : rankI (stL s) x = rankI (stE (s.map txE)) x := by rw [stE_txE]
end
end

section
open Go.RowKit
structure CanF (s : List TxnV) (g base base2 bM bS bK bV : Nat) : Prop where
 g2 : g < base2
 bg : base ≤ g
 ops : ∀ t ∈ s, ∀ b, t.v.ownBlock = some b → base2 ≤ b ∧ b < bM
 apart : s.Pairwise ApartT
 gM : g < bM
 MS : bM < bS
 SK : bS < bK
 KV : bK < bV
structure CanI (s : List TxnV) (g cap base base2 bM bS bK bV nM cM : Nat) (i k iO iS kK kV : Nat) (W : World) : Prop where
 own : OwnT W base (.slice (some ⟨g, 0, none⟩) s.length cap) (outTo s iO)
 ops : ∀ j (hj : j < s.length), Own W base2 s[j].v (opsTo s i k j)
 mM : MapI eI Tryz.prog 3 W bM nM (rankF (stL s) (stL s)) cM
 mS : MapI eI Tryz.prog 3 W bS iS (nameF (firsts (sTo s iS))) (firsts (sTo s iS)).length
 mK : MapI eI Tryz.prog 3 W bK (opsN (s.take i) + kK) (nameF (firsts (kTo s i kK))) (firsts (kTo s i kK)).length
 mV : MapI eI Tryz.prog 3 W bV (opsN (s.take i) + kV + 1) (nameF (0 :: firsts (valP (vTo s i kV)))) (0 :: firsts (valP (vTo s i kV))).length
section
variable {s : List TxnV} {g cap base base2 bM bS bK bV nM cM : Nat} {i k iO iS kK kV : Nat} {W W1 : World}
theorem CanI.below (q : CanI s g cap base base2 bM bS bK bV nM cM i k iO iS kK kV W) (hb : Below W.heap.size W W1) : CanI s g cap base base2 bM bS bK bV nM cM i k iO iS kK kV W1 :=
 ⟨q.own.below hb, fun j hj => (q.ops j hj).below hb, q.mM.below hb, q.mS.below hb, q.mK.below hb, q.mV.below hb⟩
theorem CanF.op (f : CanF s g base base2 bM bS bK bV) {j : Nat} (hj : j < s.length) {b : Nat} (hb : s[j].v.ownBlock = some b) : base2 ≤ b ∧ b < bM := f.ops _ (List.getElem_mem hj) b hb
theorem CanI.ses (f : CanF s g base base2 bM bS bK bV) (q : CanI s g cap base base2 bM bS bK bV nM cM i k iO i kK kV W) (hi : i < s.length)
  (hM : MapI eI Tryz.prog 3 W1 bS (i + 1) (nameF (addN (firsts (sTo s i)) s[i].s)) (addN (firsts (sTo s i)) s[i].s).length) (hg : W.grownBy W1 (some bS)) : CanI s g cap base base2 bM bS bK bV nM cM i k iO (i + 1) kK kV W1 := by
 have h1 := f.gM; have h2 := f.MS; have h3 := f.SK; have h4 := f.KV
 rw [← firsts_snoc, ← sTo_succ hi] at hM
 refine ⟨World.ownsRow.kept q.own hg (.inr (fun e => by simp [Value.ownBlock] at e; omega)), fun j hj => World.ownsRow.kept (q.ops j hj) hg (.inr (fun e => by have := (f.op hj e).2; omega)),
  q.mM.kept hg (fun e => by cases e; omega), hM, q.mK.kept hg (fun e => by cases e; omega), q.mV.kept hg (fun e => by cases e; omega)⟩
theorem CanI.key (f : CanF s g base base2 bM bS bK bV) (q : CanI s g cap base base2 bM bS bK bV nM cM i k iO iS k kV W) (hk : k < (opsAt s i).length)
  (hM : MapI eI Tryz.prog 3 W1 bK (opsN (s.take i) + k + 1) (nameF (addN (firsts (kTo s i k)) (opsAt s i)[k].key)) (addN (firsts (kTo s i k)) (opsAt s i)[k].key).length) (hg : W.grownBy W1 (some bK)) : CanI s g cap base base2 bM bS bK bV nM cM i k iO iS (k + 1) kV W1 := by
 have h1 := f.gM; have h2 := f.MS; have h3 := f.SK; have h4 := f.KV
 rw [← firsts_snoc, ← kTo_succ hk] at hM
 refine ⟨World.ownsRow.kept q.own hg (.inr (fun e => by simp [Value.ownBlock] at e; omega)), fun j hj => World.ownsRow.kept (q.ops j hj) hg (.inr (fun e => by have := (f.op hj e).2; omega)),
  q.mM.kept hg (fun e => by cases e; omega), q.mS.kept hg (fun e => by cases e; omega), hM, q.mV.kept hg (fun e => by cases e; omega)⟩
theorem CanI.val (f : CanF s g base base2 bM bS bK bV) (q : CanI s g cap base base2 bM bS bK bV nM cM i k iO iS kK k W) (hk : k < (opsAt s i).length)
  (hM : MapI eI Tryz.prog 3 W1 bV (opsN (s.take i) + k + 1 + 1) (nameF (addN (0 :: firsts (valP (vTo s i k))) (opsAt s i)[k].val)) (addN (0 :: firsts (valP (vTo s i k))) (opsAt s i)[k].val).length) (hg : W.grownBy W1 (some bV)) : CanI s g cap base base2 bM bS bK bV nM cM i k iO iS kK (k + 1) W1 := by
 have h1 := f.gM; have h2 := f.MS; have h3 := f.SK; have h4 := f.KV
 rw [addN_val, ← vTo_succ hk] at hM
 refine ⟨World.ownsRow.kept q.own hg (.inr (fun e => by simp [Value.ownBlock] at e; omega)), fun j hj => World.ownsRow.kept (q.ops j hj) hg (.inr (fun e => by have := (f.op hj e).2; omega)),
  q.mM.kept hg (fun e => by cases e; omega), q.mS.kept hg (fun e => by cases e; omega), q.mK.kept hg (fun e => by cases e; omega), hM⟩
theorem CanI.cells (q : CanI s g cap base base2 bM bS bK bV nM cM i k i iS kK kV W) (hi : i < s.length) :
  (W.cell? ⟨g, i * 4, none⟩ = some (.int .i64 s[i].s) ∧ W.frozen? ⟨g, i * 4, none⟩ = false) ∧ (W.cell? ⟨g, i * 4 + 1, none⟩ = some (.int .i64 s[i].b) ∧ W.frozen? ⟨g, i * 4 + 1, none⟩ = false) ∧ (W.cell? ⟨g, i * 4 + 2, none⟩ = some (.int .i64 s[i].c) ∧ W.frozen? ⟨g, i * 4 + 2, none⟩ = false) ∧ W.cell? ⟨g, i * 4 + 3, none⟩ = some s[i].v := by
 have hl := outTo_len (s := s) (i := i) (by omega)
 have ho : OwnT W base (.slice (some ⟨g, 0, none⟩) (outTo s i).length cap) (outTo s i) := by rw [hl]; exact q.own
 have hi2 : i < (outTo s i).length := by omega
 obtain ⟨q0, q1, q2, q3⟩ := txV_at (outTo s i) i hi2
 rw [outTo_at hi hi2] at q0 q1 q2 q3
 have a0 := ho.at (j := i * 4) (by omega)
 have a1 := ho.at (j := i * 4 + 1) (by omega)
 have a2 := ho.at (j := i * 4 + 2) (by omega)
 have a3 := ho.at (j := i * 4 + 3) (by omega)
 rw [q0] at a0
 rw [q1] at a1
 rw [q2] at a2
 rw [q3] at a3
 exact ⟨a0, a1, a2, a3.1⟩
theorem CanI.cell (f : CanF s g base base2 bM bS bK bV) (q : CanI s g cap base base2 bM bS bK bV nM cM i k i iS kK kV W) (hi : i < s.length) (x y z : Int) (hx : x = noI (sesE (s.map txE)) s[i].s) (hy : y = rankI (stE (s.map txE)) s[i].b) (hz : z = rankI (stE (s.map txE)) s[i].c) :
  CanI s g cap base base2 bM bS bK bV nM cM i k (i + 1) iS kK kV (((W.setCell ⟨g, i * 4, none⟩ (.int .i64 x)).setCell ⟨g, i * 4 + 1, none⟩ (.int .i64 y)).setCell ⟨g, i * 4 + 2, none⟩ (.int .i64 z)) := by
 have h1 := f.gM; have h2 := f.MS; have h3 := f.SK; have h4 := f.KV; have h5 := f.g2
 have hl := outTo_len (s := s) (i := i) (by omega)
 have hi2 : i < (outTo s i).length := by omega
 have hset : outTo s (i + 1) = (outTo s i).set i ⟨x, y, z, (outTo s i)[i].v, s[i].l.map (cOp (s.map txE))⟩ := by
  rw [outTo_succ hi, outTo_at hi hi2, hx, hy, hz]; rfl
 refine ⟨?_, fun j hj => owns_cell_any (owns_cell_any (owns_cell_any (q.ops j hj) (by exact h5) _) (by exact h5) _) (by exact h5) _,
  ((q.mM.cell (by show bM ≠ g; omega) _).cell (by show bM ≠ g; omega) _).cell (by show bM ≠ g; omega) _, ((q.mS.cell (by show bS ≠ g; omega) _).cell (by show bS ≠ g; omega) _).cell (by show bS ≠ g; omega) _,
  ((q.mK.cell (by show bK ≠ g; omega) _).cell (by show bK ≠ g; omega) _).cell (by show bK ≠ g; omega) _, ((q.mV.cell (by show bV ≠ g; omega) _).cell (by show bV ≠ g; omega) _).cell (by show bV ≠ g; omega) _⟩
 have ho := q.own
 unfold OwnT at ho ⊢
 rw [hl] at ho
 have := owns_set (owns_set (owns_set ho (i * 4) (.int .i64 x)) (i * 4 + 1) (.int .i64 y)) (i * 4 + 2) (.int .i64 z)
 rw [hset, List.length_set, hl, txV_all _ _ hi2]
 exact this
end
end

section
open Go.RowKit
theorem grown_cells {g : Nat} : ∀ (vs : List Value) (o : Nat) (w : World), w.grownBy (w.setCells g o vs) (some g)
 | [], _, _ => ⟨rfl, rfl, rfl, Nat.le_refl _, fun _ _ _ => rfl⟩
 | x :: r, o, w => by rw [World.setCells]; exact (grown_setC w ⟨g, o, none⟩ x).trans (grown_cells r (o + 1) _)
theorem own_first {w : World} {base : Nat} {v : Value} {l : List OpV} (h : Own w base v l) (hl : 0 < l.length) : ∃ g2 cp2, v = .slice (some ⟨g2, 0, none⟩) l.length cp2 ∧ base ≤ g2 := by
 obtain ⟨h1, h2⟩ := h
 rcases h2 with ⟨_, h2⟩ | ⟨g, cap, cur, e1, e2, _⟩
 ·rw [h2] at hl; cases hl
 ·exact ⟨g, cap, e1, e2⟩
section
variable {s : List TxnV} {g cap base base2 bM bS bK bV nM cM : Nat} {i k iO iS kK kV : Nat} {W : World}
theorem CanF.apart_at (f : CanF s g base base2 bM bS bK bV) {j : Nat} (hi : i < s.length) (hj : j < s.length) (hne : j ≠ i) {b : Nat} (hb : s[i].v.ownBlock = some b) : s[j].v.ownBlock ≠ some b := by
 have ha := List.pairwise_iff_getElem.1 f.apart
 rcases Nat.lt_or_ge j i with e | e
 ·intro h; exact ha j i hj hi e b h hb
 ·exact ha i j hi hj (by omega) b hb
theorem CanI.op (f : CanF s g base base2 bM bS bK bV) (q : CanI s g cap base base2 bM bS bK bV nM cM i k iO iS (k + 1) (k + 1) W) (hi : i < s.length) (hk : k < (opsAt s i).length) {g2 n2 cp2 : Nat} (hv : s[i].v = .slice (some ⟨g2, 0, none⟩) n2 cp2) (o : OpV) (ho : o = cOp (s.map txE) (opsAt s i)[k]) :
  CanI s g cap base base2 bM bS bK bV nM cM i (k + 1) iO iS (k + 1) (k + 1) (W.setCells g2 (k * 3) [.bool o.wr, .int .i64 o.key, .int .i64 o.val]) := by
 have h1 := f.gM; have h2 := f.MS; have h3 := f.SK; have h4 := f.KV; have h5 := f.g2
 have hgr := grown_cells (g := g2) [.bool o.wr, .int .i64 o.key, .int .i64 o.val] (k * 3) W
 have hb2 := f.op hi (b := g2) (by rw [hv]; rfl)
 have hkl : k < (opsTo s i k i).length := by rw [opsTo_len]; exact hk
 refine ⟨World.ownsRow.kept q.own hgr (.inr (fun e => by simp [Value.ownBlock] at e; omega)), fun j hj => ?_, q.mM.kept hgr (fun e => by cases e; omega), q.mS.kept hgr (fun e => by cases e; omega), q.mK.kept hgr (fun e => by cases e; omega), q.mV.kept hgr (fun e => by cases e; omega)⟩
 by_cases e : j = i
 ·subst e
  have hq := q.ops j hj
  rw [hv] at hq ⊢
  rw [opsTo_succ hk, ← ho]
  exact hq.store hkl o
 ·rw [opsTo_other e]
  exact World.ownsRow.kept (q.ops j hj) hgr (.inr (f.apart_at hi hj e (by rw [hv]; rfl)))
theorem CanI.done (q : CanI s g cap base base2 bM bS bK bV nM cM i (opsAt s i).length (i + 1) (i + 1) (opsAt s i).length (opsAt s i).length W) (hi : i < s.length) : CanI s g cap base base2 bM bS bK bV nM cM (i + 1) 0 (i + 1) (i + 1) 0 0 W := by
 have hn : opsN (s.take i) + (opsAt s i).length = opsN (s.take (i + 1)) := by rw [opsN_take s i hi, opsAt_eq hi]
 refine ⟨q.own, fun j hj => by rw [← opsTo_done]; exact q.ops j hj, q.mM, q.mS, ?_, ?_⟩
 ·have := q.mK
  rw [kTo_done hi, hn] at this
  exact this
 ·have := q.mV
  rw [vTo_done hi, hn] at this
  exact this
theorem nameF_nil : nameF [] = fun _ => none := by funext x; unfold nameF; simp
theorem nameF_zero : nameF [0] = putF (fun _ => none) 0 0 := by
 funext x
 unfold nameF putF
 by_cases e : x = 0
 ·subst e; simp [posL]
 ·rw [if_neg (by simpa using e), if_neg e]
theorem sTo_zero : sTo s 0 = [] := by unfold sTo; simp
theorem kTo_zero : kTo s 0 0 = [] := by unfold kTo; simp [keyE]
theorem vTo_zero : vTo s 0 0 = [] := by unfold vTo; simp [valA]
theorem opsTo_zero (j : Nat) : opsTo s 0 0 j = opsAt s j := by
 unfold opsTo
 rw [if_neg (by omega)]
 split
 ·simp
 ·rfl
theorem CanI.start (hO : OwnT W base (.slice (some ⟨g, 0, none⟩) s.length cap) s) (hP : ∀ t ∈ s, Own W base2 t.v t.l) (hM : MapI eI Tryz.prog 3 W bM nM (rankF (stL s) (stL s)) cM) (hS : MapI eI Tryz.prog 3 W bS 0 (fun _ => none) 0) (hK : MapI eI Tryz.prog 3 W bK 0 (fun _ => none) 0) (hV : MapI eI Tryz.prog 3 W bV 1 (putF (fun _ => none) 0 0) 1) :
  CanI s g cap base base2 bM bS bK bV nM cM 0 0 0 0 0 0 W := by
 refine ⟨by rw [outTo_zero]; exact hO, fun j hj => ?_, hM, ?_, ?_, ?_⟩
 ·rw [opsTo_zero, opsAt_eq hj]; exact hP _ (List.getElem_mem hj)
 ·rw [sTo_zero]
  show MapI _ _ _ _ _ _ (nameF []) _
  rw [nameF_nil]; exact hS
 ·rw [kTo_zero]
  show MapI _ _ _ _ _ _ (nameF []) _
  rw [nameF_nil]; exact hK
 ·rw [vTo_zero]
  show MapI _ _ _ _ _ _ (nameF [0]) _
  rw [nameF_zero]; exact hV
theorem CanI.copy (f : CanF s g base base2 bM bS bK bV) (hbs : base ≤ base2) (hb2 : base2 ≤ W.heap.size) (q : CanI s g cap base base2 bM bS bK bV nM cM s.length 0 s.length s.length 0 0 W) : CopyOf W base (.slice (some ⟨g, 0, none⟩) s.length cap) (s.map (cTx (s.map txE))) := by
 have ho := q.own
 rw [outTo_all] at ho
 refine ⟨base2, ⟨hbs, hb2⟩, ho, fun b hb => by simp [Value.ownBlock] at hb; have := f.g2; omega, fun t ht => ?_, ?_⟩
 ·obtain ⟨u, hu, rfl⟩ := List.mem_map.1 ht
  obtain ⟨j, hj, rfl⟩ := List.mem_iff_getElem.1 hu
  have := q.ops j hj
  unfold opsTo at this
  rw [if_pos hj, opsAt_eq hj] at this
  exact this
 ·rw [List.pairwise_map]
  exact f.apart
end
end

section
open Go.RowKit
theorem CopyOf.txns {w : World} {base : Nat} {v : Value} {c : List TxnV} (h : CopyOf w base v c) : Txns w v c := by
 obtain ⟨b2, h1, h2, h3, h4, h5⟩ := h
 exact ⟨h2.row, fun t ht => (h4 t ht).ops⟩
end

section
open Go.RowKit
def zT (t : TxnV) : TxnV := ⟨t.s, t.b, t.c, .slice none 0 0, t.l⟩
theorem zT_of {c h : List TxnV} (e : c.map txE = h.map txE) : c.map zT = h.map zT := by
 have k : ∀ l : List TxnV, l.map zT = (l.map txE).map fun q => (⟨q.1, q.2.1, q.2.2.1, .slice none 0 0, q.2.2.2⟩ : TxnV) := fun l => by rw [List.map_map]; rfl
 rw [k, k, e]
theorem opsN_z (h : List TxnV) : opsN (h.map zT) = opsN h := by unfold opsN; rw [List.map_map]; rfl
theorem partsB_z (h : List TxnV) : partsB (h.map zT) = partsB h := by unfold partsB; rw [List.all_map]; rfl
theorem wvH_z (h : List TxnV) : wvH (h.map zT) = wvH h := by unfold wvH; rw [List.flatMap_map]; rfl
theorem opsAt_z (h : List TxnV) (k : Nat) : opsAt (h.map zT) k = opsAt h k := by unfold opsAt; rw [List.getElem?_map]; cases h[k]? <;> rfl
theorem wrTo_z (h : List TxnV) (k : Nat) : wrTo (h.map zT) k = wrTo h k := by
 unfold wrTo
 congr 1
 funext F j
 rw [opsAt_z]
theorem valuesB_z (h : List TxnV) : valuesB (h.map zT) = valuesB h := by
 unfold valuesB okW
 rw [wvH_z, List.all_map, List.length_map, wrTo_z]; rfl
theorem stampsB_z (h : List TxnV) : stampsB (h.map zT) = stampsB h := by
 have : stL (h.map zT) = stL h := by unfold stL; rw [List.flatMap_map]; rfl
 unfold stampsB; rw [this]
theorem endF_z (h : List TxnV) : endF (h.map zT) = endF h := by
 funext x
 unfold endF
 rw [List.filter_map, List.getLast?_map, Option.map_map]; rfl
theorem sesOk_z (h : List TxnV) (k : Nat) : sesOk (h.map zT) k = sesOk h k := by
 unfold sesOk
 rw [List.getElem?_map, ← List.map_take, endF_z]
 cases h[k]? <;> rfl
theorem sesB_z (h : List TxnV) : sesB (h.map zT) = sesB h := by
 unfold sesB
 rw [List.length_map]
 congr 1
 funext k
 exact sesOk_z h k
theorem checkI_z (h : List TxnV) : checkI (h.map zT) = checkI h := by
 unfold checkI rightB
 rw [List.length_map, opsN_z, partsB_z, valuesB_z, stampsB_z, sesB_z]
theorem checkI_txE {c h : List TxnV} (e : c.map txE = h.map txE) : checkI c = checkI h := by
 rw [← checkI_z c, ← checkI_z h, zT_of e]
theorem checkI_right {h : List TxnV} (e : checkI h = 0) : h.length ≤ 64 ∧ opsN h ≤ 1024 ∧ ∀ t ∈ h, mayT t.s t.b t.c t.l = true := by
 unfold checkI at e
 split at e
 ·cases e
 ·split at e
  ·rename_i h1 h2
   refine ⟨by omega, by omega, ?_⟩
   unfold rightB at h2
   simp only [Bool.and_eq_true] at h2
   exact List.all_eq_true.1 h2.1
  ·cases e
end

section
open Go.RowKit
def OwnH (w : World) (b0 : Nat) (v : Value) (c : List TxnV) : Prop := OwnT w b0 v c ∧ (∀ t ∈ c, Own w b0 t.v t.l) ∧ c.Pairwise ApartT
section
variable {w w' : World} {b0 base : Nat} {v v' u : Value} {c : List TxnV}
theorem OwnH.below (h : OwnH w b0 v c) (hb : Below w.heap.size w w') : OwnH w' b0 v c := ⟨h.1.below hb, fun t ht => (h.2.1 t ht).below hb, h.2.2⟩
theorem OwnH.nil (w : World) (b0 : Nat) : OwnH w b0 (.slice none 0 0) [] := ⟨⟨rfl, .inl ⟨rfl, rfl⟩⟩, by simp, List.Pairwise.nil⟩
theorem OwnH.txns (h : OwnH w b0 v c) : Txns w v c := ⟨h.1.row, fun t ht => (h.2.1 t ht).ops⟩
theorem ownH_apart {b1 : Nat} {l : List OpV} (h : OwnT w b0 v c) (k : Own w b1 u l) : u.ownBlock = none ∨ u.ownBlock ≠ v.ownBlock := owns_apart k h (by decide)
theorem OwnH.add {s b d : Int} {l : List OpV} (h : OwnH w b0 v c) (hu : Own w base u l) (hlt : ∀ t ∈ c, ∀ g, t.v.ownBlock = some g → g < base) (hb : b0 ≤ base) (hO : OwnT w' b0 v' (c ++ [⟨s, b, d, u, l⟩])) (hg : w.grownBy w' v.ownBlock) : OwnH w' b0 v' (c ++ [⟨s, b, d, u, l⟩]) := by
 refine ⟨hO, fun t ht => ?_, ?_⟩
 ·rcases List.mem_append.1 ht with ht | ht
  ·exact World.ownsRow.kept (h.2.1 t ht) hg (ownH_apart h.1 (h.2.1 t ht))
  ·obtain rfl := List.mem_singleton.1 ht
   exact World.ownsRow.kept (hu.base hb) hg (ownH_apart h.1 hu)
 ·rw [List.pairwise_append]
  refine ⟨h.2.2, List.pairwise_singleton _ _, fun t ht x hx => ?_⟩
  obtain rfl := List.mem_singleton.1 hx
  intro g h1 h2
  have q1 := hlt t ht g h1
  have q2 := (World.ownsRow.lt hu g h2).1
  omega
theorem OwnH.lt (h : OwnH w b0 v c) : ∀ t ∈ c, ∀ g, t.v.ownBlock = some g → g < w.heap.size := fun t ht g hg => (World.ownsRow.lt (h.2.1 t ht) g hg).2
end
section
variable {w w' : World} {gv b0 k : Nat} {D : List TxnV}
end
theorem txE_mem {c h : List TxnV} (e : c.map txE = h.map txE) {t : TxnV} (ht : t ∈ c) : ∃ u ∈ h, txE u = txE t := by
 have : txE t ∈ h.map txE := by rw [← e]; exact List.mem_map.2 ⟨t, ht, rfl⟩
 obtain ⟨u, hu, h2⟩ := List.mem_map.1 this
 exact ⟨u, hu, h2⟩
theorem ok_txE {c h : List TxnV} (e : c.map txE = h.map txE) (hok : ∀ t ∈ h, t.ok) : ∀ t ∈ c, t.ok := fun t ht => by
 obtain ⟨u, hu, h2⟩ := txE_mem e ht
 have h3 := hok u hu
 unfold txE at h2
 simp only [Prod.mk.injEq] at h2
 obtain ⟨q1, q2, q3, q4⟩ := h2
 unfold TxnV.ok at *
 rw [← q1, ← q2, ← q3, ← q4]; exact h3
end

section
open Go.RowKit
theorem perm_lift {α β : Type} (f : α → β) {L M : List β} (p : L.Perm M) : ∀ h : List α, h.map f = M → ∃ s : List α, s.Perm h ∧ s.map f = L := by
 induction p with
 | nil => intro h e; exact ⟨[], by rw [List.map_eq_nil_iff.1 e], rfl⟩
 | cons x _ ih =>
  intro h e
  obtain ⟨a, t, rfl, e1, e2⟩ := List.map_eq_cons_iff.1 e
  obtain ⟨s, p, e3⟩ := ih t e2
  exact ⟨a :: s, p.cons a, by rw [List.map_cons, e1, e3]⟩
 | swap x y l =>
  intro h e
  obtain ⟨a, t, rfl, e1, e2⟩ := List.map_eq_cons_iff.1 e
  obtain ⟨b, t, rfl, e3, e4⟩ := List.map_eq_cons_iff.1 e2
  exact ⟨b :: a :: t, List.Perm.swap a b t, by rw [List.map_cons, List.map_cons, e1, e3, e4]⟩
 | trans _ _ ih1 ih2 =>
  intro h e
  obtain ⟨s, p, e1⟩ := ih2 h e
  obtain ⟨u, q, e2⟩ := ih1 s e1
  exact ⟨u, q.trans p, e2⟩
theorem srt_lift {h c s : List TxnV} (hce : c.map txE = h.map txE) (hs : IsSrt c s) : ∃ s', IsSrt h s' ∧ s'.map txE = s.map txE := by
 have p := hs.1.map txE
 rw [hce] at p
 obtain ⟨s', q, e⟩ := perm_lift txE p h rfl
 refine ⟨s', ⟨q, ?_⟩, e⟩
 have h1 : (s.map txE).Pairwise fun x y => x.2.1 < y.2.1 := by rw [List.pairwise_map]; exact hs.2
 rw [← e, List.pairwise_map] at h1
 exact h1
theorem stL_perm {s c : List TxnV} (h : s.Perm c) : (stL s).Perm (stL c) := by
 unfold stL
 induction h with
 | nil => exact List.Perm.refl _
 | cons x _ ih => rw [List.flatMap_cons, List.flatMap_cons]; exact ih.append_left _
 | swap x y l =>
  simp only [List.flatMap_cons, ← List.append_assoc]
  exact List.Perm.append_right _ List.perm_append_comm
 | trans _ _ h1 h2 => exact h1.trans h2
theorem opsN_perm {s c : List TxnV} (h : s.Perm c) : opsN s = opsN c := by
 induction h with
 | nil => rfl
 | cons x _ ih => unfold opsN at *; simp only [List.map_cons, List.sum_cons] at *; omega
 | swap x y l => unfold opsN; simp only [List.map_cons, List.sum_cons]; omega
 | trans _ _ h1 h2 => exact h1.trans h2
theorem putI_run {α : Type} {e : α → Value} {P : Program} {k el t : TypeId} {b n c : Nat} {f : Int → Option α} {w : World} (hk : P.underlying k = some (.int .i64)) (ht : P.underlying t = some (.map k el)) (hown : MapI e P k w b n f c) (hn : n < maxLen) {key : Int} (hkey : InI key) (val : α) :
  ∃ w', (Instr.mapUpdate t (.map (some b)) (.int .i64 key) (e val)).run P w = .ok () w' ∧ MapI e P k w' b (n + 1) (putF f key val) (if (f key).isSome then c else c + 1) ∧ w.grownBy w' (some b) := by
 obtain ⟨D, hD, hs, ht2⟩ := hown
 obtain ⟨w', hrun, h1, h2⟩ := hD.update (Maps.int_keyed hk) ht hn (keyOf_I hk hkey) (rdE_mk e val)
 refine ⟨w', hrun, ⟨_, h1, ?_, fun y hy => ?_⟩, h2⟩
 ·rw [Maps.size_put (hD.tidy (Maps.int_keyed hk)), (ht2 key hkey).1, hs]
 ·by_cases he : y = key
  ·subst he
   rw [putF_same]
   exact ⟨Maps.has_put_same hD.isMap (isKey_I y) _, fun u hu z => by cases hu; exact Maps.atKey_put_same hD.isMap (isKey_I y) _ _⟩
  ·have hne : Lit.int .i64 y ≠ .int .i64 key := fun h => he (by cases h; rfl)
   rw [putF_other f val he]
   exact ⟨(Maps.has_put_other hne _).trans (ht2 y hy).1, fun u hu z => (Maps.atKey_put_other hne _ _).trans ((ht2 y hy).2 u hu z)⟩
theorem owns_at {w : World} {base : Nat} {e : TypeId} {size g cap n : Nat} {xs : List Value} (h : w.ownsRow base e size (.slice (some ⟨g, 0, none⟩) n cap) n xs) {j : Nat} (hj : j < n * size) : w.cell? ⟨g, j, none⟩ = xs[j]? ∧ w.frozen? ⟨g, j, none⟩ = false := by
 have hr := Row.of_owns h
 constructor
 ·obtain ⟨_, ao, cap', e1, _, _, hc⟩ := hr
  cases e1
  by_cases hn : 0 < n
  ·obtain ⟨b, off, e2, hcell⟩ := hc hn
   cases e2
   have := hcell j hj
   simpa using this
  ·have : n = 0 := by omega
   subst this; simp at hj
 ·obtain ⟨h1, h2⟩ := h
  rcases h2 with ⟨h2, _⟩ | ⟨g', cap', cur, e1, e2, hb, _⟩
  ·cases h2
  ·cases e1
   simp [World.frozen?, hb]
section
variable {s : List TxnV} {g cap base base2 bM bS bK bV nM cM : Nat} {i k iO iS kK kV : Nat} {W : World}
theorem CanI.cells3 (q : CanI s g cap base base2 bM bS bK bV nM cM i k i iS kK kV W) (hi : i < s.length) (x y : Int) :
  (W.cell? ⟨g, i * 4, none⟩ = some (.int .i64 s[i].s) ∧ W.frozen? ⟨g, i * 4, none⟩ = false) ∧
  ((W.setCell ⟨g, i * 4, none⟩ (.int .i64 x)).cell? ⟨g, i * 4 + 1, none⟩ = some (.int .i64 s[i].b) ∧ (W.setCell ⟨g, i * 4, none⟩ (.int .i64 x)).frozen? ⟨g, i * 4 + 1, none⟩ = false) ∧
  (((W.setCell ⟨g, i * 4, none⟩ (.int .i64 x)).setCell ⟨g, i * 4 + 1, none⟩ (.int .i64 y)).cell? ⟨g, i * 4 + 2, none⟩ = some (.int .i64 s[i].c) ∧ ((W.setCell ⟨g, i * 4, none⟩ (.int .i64 x)).setCell ⟨g, i * 4 + 1, none⟩ (.int .i64 y)).frozen? ⟨g, i * 4 + 2, none⟩ = false) := by
 have hl := outTo_len (s := s) (i := i) (by omega)
 have hi2 : i < (outTo s i).length := by omega
 have ho := q.own
 unfold OwnT at ho
 rw [hl] at ho
 obtain ⟨q0, q1, q2, q3⟩ := txV_at (outTo s i) i hi2
 rw [outTo_at hi hi2] at q0 q1 q2
 have o1 := owns_set ho (i * 4) (.int .i64 x)
 have o2 := owns_set o1 (i * 4 + 1) (.int .i64 y)
 have a0 := owns_at ho (j := i * 4) (by omega)
 have a1 := owns_at o1 (j := i * 4 + 1) (by omega)
 have a2 := owns_at o2 (j := i * 4 + 2) (by omega)
 rw [q0] at a0
 rw [List.getElem?_set_ne (by omega), q1] at a1
 rw [List.getElem?_set_ne (by omega), List.getElem?_set_ne (by omega), q2] at a2
 exact ⟨a0, a1, a2⟩
theorem CanI.vcell (q : CanI s g cap base base2 bM bS bK bV nM cM i k (i + 1) iS kK kV W) (hi : i < s.length) : W.cell? ⟨g, i * 4 + 3, none⟩ = some s[i].v := by
 have hl := outTo_len (s := s) (i := i + 1) (by omega)
 have hi2 : i < (outTo s (i + 1)).length := by omega
 have ho := q.own
 unfold OwnT at ho
 rw [hl] at ho
 obtain ⟨_, _, _, q3⟩ := txV_at (outTo s (i + 1)) i hi2
 have a := (owns_at ho (j := i * 4 + 3) (by omega)).1
 rw [q3] at a
 rw [a]
 have hl0 := outTo_len (s := s) (i := i) (by omega)
 simp only [outTo_succ hi, List.getElem_set_self]
 rfl
end
theorem cnamed_any (va : Value) (h : List TxnV) (w : World) (hT : Txns w va h) (hok : ∀ t ∈ h, t.ok) (hc : checkI h = 0) :
  Calls Tryz.prog 79 #[va] w fun e w' => (∃ v c s, e = .returned v ∧ CopyOf w' w.heap.size v c ∧ IsSrt h s ∧ c.map txE = canE (s.map txE)) ∧ Below w.heap.size w w' := by
 have h64 := (check_zero hc).1
 have hops := (check_zero hc).2.1
 have HN : Hid (∀ t ∈ h, t.l.length ≤ 1200) := hid (fun t ht => by
  obtain ⟨k, hk, rfl⟩ := List.mem_iff_getElem.1 ht
  have := opsN_at h k hk
  omega)
 have HC := hid hc
 have HOK := hid hok
 have CC := hid (hcopy_any va h w hT (by omega) (fun t ht => Nat.le_trans (HN.out t ht) (by omega)))
 have HOP := hid hops
 clear hT hok hc hops
 go_enter Tryz.func79, Tryz.ntmps79
 go_wp2_with fail
 refine CC.out.mono ?_
 rintro e w1 ⟨v1, c, rfl, hce, hC, hb1⟩
 have hcl : c.length = h.length := by have := congrArg List.length hce; simpa using this
 have hcc : checkI c = 0 := by rw [checkI_txE hce]; exact HC.out
 obtain ⟨base2, ⟨hb2a, hb2b⟩, hO, hvb, hown, hap⟩ := hC
 have hsv : ∀ t ∈ c, ∃ ao n cp, t.v = .slice ao n cp := fun t ht => by
  obtain ⟨_, ao, cap, e, _⟩ := (hown t ht).ops
  exact ⟨ao, _, cap, e⟩
 have hnb : (c.map (·.b)).Nodup := begins_nodup (check_rightB hcc).2.2.1
 have CS := hid (tsort_own w.heap.size v1 c w1 hO hsv hnb (by omega))
 have HF : Hid (∀ s w2, IsSrt c s → OwnT w2 w.heap.size v1 s → w1.grownBy w2 v1.ownBlock → (∀ t ∈ s, Own w2 base2 t.v t.l) ∧ s.Pairwise ApartT ∧ Below w.heap.size w w2 ∧ base2 ≤ w2.heap.size ∧ (∀ t ∈ s, t.ok) ∧ (stL s).Nodup ∧ s.length = h.length ∧ opsN s ≤ 1024 ∧ ∃ s', IsSrt h s' ∧ s'.map txE = s.map txE) := hid (fun s w2 hs hO2 hg => by
  have hp : s.Perm c := hs.1
  have hok2 : ∀ t ∈ c, t.ok := ok_txE hce HOK.out
  refine ⟨fun t ht => ?_, ?_, ?_, ?_, fun t ht => hok2 t (hp.mem_iff.1 ht), ?_, by rw [hp.length_eq, hcl], ?_, srt_lift hce hs⟩
  ·exact World.ownsRow.kept (hown t (hp.mem_iff.1 ht)) hg (by
    cases hvo : v1.ownBlock with
    | none =>
     cases hto : t.v.ownBlock with
     | none => exact .inl rfl
     | some b => exact .inr (fun e => by cases e)
    | some b => exact .inr (fun e => by have h1 := World.ownsRow.lt (hown t (hp.mem_iff.1 ht)) b e; have h2 := hvb b hvo; omega))
  ·exact (hp.pairwise_iff (fun {a b} h q e f => h q f e)).2 hap
  ·exact hb1.grown hg hb1.size (fun j hj => (World.ownsRow.lt hO j hj).1)
  ·exact Nat.le_trans hb2b hg.size
  ·have h1 := (check_rightB hcc).2.2.1
   unfold stampsB at h1
   exact (stL_perm hp).nodup_iff.2 (of_decide_eq_true h1)
  ·rw [opsN_perm hp]
   exact (check_zero hcc).2.1)
 have HVB := hid hvb
 have HB2 := hid hb2a
 clear CC hb1 hce hcl hcc hO hvb hown hap hsv hnb hb2b
 go_wp2_with fail
 refine CS.out.mono ?_
 rintro e w2 ⟨rfl, s, hs, hO2, hg2⟩
 obtain ⟨hP, hap, hb2, hsz2, hok2, hst, hsl, hop, s', hs', hse⟩ := HF.out s w2 hs hO2 hg2
 have HSR := hid (And.intro hs' hse)
 have hTs : Txns w2 v1 s := ⟨Row.of_owns hO2, fun t ht => (hP t ht).ops⟩
 have CR := hid (cranks_any v1 s w2 hTs hok2 hst (by omega))
 have hHc : Hid (checkI c = checkI c) := hid rfl
 clear CS HF hg2 hs hs' hse hHc
 rcases hO2.split with ⟨rfl, rfl⟩ | ⟨g, cap, rfl, hgb⟩
 ·clear hO2 hop hap hP hst hok2 hTs hsl
  go_wp2_with fail
  refine CR.out.mono ?_
  rintro e w3 ⟨⟨bM, nM, cM, rfl, hnM, hbM, hM⟩, h3⟩
  have hmm := @run_makeMap Tryz.prog
  have hb3 := below_then hb2 h3
  have hs4 : ((w3.alloc (.map #[] 0)).alloc (.map #[] 0)).heap.size = w3.heap.size + 1 + 1 := by simp
  have hs5 : (w3.alloc (.map #[] 0)).heap.size = w3.heap.size + 1 := by simp
  have hm2 := MapI.made eI Tryz.prog 3 ((w3.alloc (.map #[] 0)).alloc (.map #[] 0))
  rw [hs4] at hm2
  have hx5 : Below w3.heap.size w3 (((w3.alloc (.map #[] 0)).alloc (.map #[] 0)).alloc (.map #[] 0)) := (((Below.refl _ _).alloc (Nat.le_refl _) _).alloc (by rw [hs5]; omega) _).alloc (by rw [hs4]; omega) _
  obtain ⟨w5, hrun, _, hg5⟩ := putI_run keyI mapNames hm2 (by unfold maxLen; omega) (inI_of (x := 0) (by unfold IntOk; omega)) (0 : Int)
  have hrun : Sem.run Tryz.prog (Instr.mapUpdate 190 (.map (some (w3.heap.size + 1 + 1))) (.int .i64 0) (.int .i64 0)) (((w3.alloc (.map #[] 0)).alloc (.map #[] 0)).alloc (.map #[] 0)) = .ok () w5 := hrun
  have HB5 : Hid (Below w.heap.size w w5) := hid (by
   have h1 := below_then hb3 hx5
   have h2 := hb3.size
   exact h1.grown hg5 h1.size (fun j hj => by cases hj; omega))
  clear hM h3 CR hm2 hx5 hs4 hs5 hg5 hb2 hb3
  go_wp2_with fail
  clear hrun hmm
  go_loopw [24] (fun i wr => i = .int .i64 0 ∧ Hid (Below w.heap.size w wr)) (fun _ _ => 0)
  case atStart => exact ⟨rfl, HB5⟩
  case round =>
   obtain ⟨rfl, HB⟩ := hrel
   have HCP : Hid (CopyOf wr w.heap.size (.slice none 0 0) []) := hid ⟨w.heap.size, ⟨Nat.le_refl _, HB.out.size⟩, World.ownsRow_nil _ _ _ _, fun b hb => (by cases hb), fun t ht => (by cases ht), List.Pairwise.nil⟩
   go_wp2_with fail
   go_ret
   first | exact ⟨⟨_, HCP.out, s', HSR.out.1, by rw [HSR.out.2]; rfl⟩, HB.out⟩ | exact ⟨⟨_, rfl, _, HCP.out, s', HSR.out.1, by rw [HSR.out.2]; rfl⟩, HB.out⟩ | exact ⟨⟨_, _, s', rfl, HCP.out, HSR.out.1, by rw [HSR.out.2]; rfl⟩, HB.out⟩
 ·have HP := hid hP
  have HAP := hid hap
  have HO2 := hid hO2
  have hg2 : g < base2 := HVB.out g rfl
  have HST := hid hst
  have HOK2 := hid hok2
  have HSL := hid hsl
  clear hP hap hO2 hTs hst hok2 hsl
  go_wp2_with fail
  refine CR.out.mono ?_
  rintro e w3 ⟨⟨bM, nM, cM, rfl, hnM, hbM, hM⟩, h3⟩
  have hmm := @run_makeMap Tryz.prog
  have hlM := hM.lt
  have HM := hid (fun wx (hx : Below w3.heap.size w3 wx) => hM.below hx)
  have HO3 := hid (fun wx (hx : Below w3.heap.size w3 wx) => OwnT.below (OwnT.below HO2.out h3) hx)
  have HP3 := hid (fun wx (hx : Below w3.heap.size w3 wx) t ht => ((HP.out t ht).below h3).below hx)
  have HB3 := hid (below_then hb2 h3)
  have hz3 := h3.size
  have HO2K := HO2
  have HPK := HP
  clear hM h3 CR HO2 HP hb2
  obtain ⟨hbg, hgz⟩ : w.heap.size ≤ g ∧ g < w2.heap.size := World.ownsRow.lt HO2K.out g rfl
  have hF : CanF s g w.heap.size base2 bM w3.heap.size (w3.heap.size + 1) (w3.heap.size + 1 + 1) := ⟨hg2, hbg, fun t ht b hb => by have := World.ownsRow.lt (HPK.out t ht) b hb; omega, HAP.out, by omega, hlM, by omega, by omega⟩
  have hs4 : ((w3.alloc (.map #[] 0)).alloc (.map #[] 0)).heap.size = w3.heap.size + 1 + 1 := by simp
  have hs5 : (w3.alloc (.map #[] 0)).heap.size = w3.heap.size + 1 := by simp
  have hm0 := ((MapI.made eI Tryz.prog 3 w3).alloc (.map #[] 0)).alloc (.map #[] 0)
  have hm1 := (MapI.made eI Tryz.prog 3 (w3.alloc (.map #[] 0))).alloc (.map #[] 0)
  have hm2 := MapI.made eI Tryz.prog 3 ((w3.alloc (.map #[] 0)).alloc (.map #[] 0))
  rw [hs5] at hm1
  rw [hs4] at hm2
  have hx5 : Below w3.heap.size w3 (((w3.alloc (.map #[] 0)).alloc (.map #[] 0)).alloc (.map #[] 0)) := (((Below.refl _ _).alloc (Nat.le_refl _) _).alloc (by rw [hs5]; omega) _).alloc (by rw [hs4]; omega) _
  obtain ⟨w5, hrun, hm3, hg5⟩ := putI_run keyI mapNames hm2 (by unfold maxLen; omega) (inI_of (x := 0) (by unfold IntOk; omega)) (0 : Int)
  have hrun : Sem.run Tryz.prog (Instr.mapUpdate 190 (.map (some (w3.heap.size + 1 + 1))) (.int .i64 0) (.int .i64 0)) (((w3.alloc (.map #[] 0)).alloc (.map #[] 0)).alloc (.map #[] 0)) = .ok () w5 := hrun
  have HQ0 : Hid (CanI s g cap w.heap.size base2 bM w3.heap.size (w3.heap.size + 1) (w3.heap.size + 1 + 1) nM cM 0 0 0 0 0 0 w5) := hid (CanI.start
   (World.ownsRow.kept (HO3.out _ hx5) hg5 (.inr (fun e => by simp [Value.ownBlock] at e; omega)))
   (fun t ht => World.ownsRow.kept (HP3.out _ hx5 t ht) hg5 (.inr (fun e => by have := World.ownsRow.lt (HPK.out t ht) _ e; omega)))
   ((HM.out _ hx5).kept hg5 (fun e => by injection e with e; omega)) (hm0.kept hg5 (fun e => by injection e with e; omega)) (hm1.kept hg5 (fun e => by injection e with e; omega)) (by simpa using hm3))
  have HB5 : Hid (Below w.heap.size w w5) := hid (by
   have h1 := below_then HB3.out hx5
   exact h1.grown hg5 h1.size (fun j hj => by cases hj; omega))
  have HFF := hid hF
  clear hm0 hm1 hm2 hm3 hx5 hs4 hs5 hg5 HM HO3 HP3 HO2K HPK hF
  go_wp2_with fail
  clear hrun hmm
  generalize w3.heap.size + 1 + 1 = bV at *
  generalize w3.heap.size + 1 = bK at *
  generalize w3.heap.size = bS at *
  go_loopw [24] (fun i wr => ∃ i' : Nat, i' ≤ s.length ∧ i = .int .i64 (i' : Int) ∧ Hid (CanI s g cap w.heap.size base2 bM bS bK bV nM cM i' 0 i' i' 0 0 wr) ∧ Hid (Below w.heap.size w wr)) (fun i _ => s.length - (intOf i).toNat)
  case atStart => exact ⟨0, by omega, rfl, HQ0, HB5⟩
  case round =>
   obtain ⟨i, hi, rfl, HQ, HB⟩ := hrel
   by_cases hlt : i < s.length
   ·have hki : (i : Int) < (s.length : Int) := by omega
    have hi9 := hlt
    have hq := HQ.out
    have hpV := hq.mV.lt
    have hMS := HFF.out.MS
    have hSK := HFF.out.SK
    have hKV := HFF.out.KV
    have hgM := HFF.out.gM
    obtain ⟨⟨a0, _⟩, ⟨a1, _⟩, ⟨a2, _⟩, a3⟩ := hq.cells hlt
    have hOi := hq.ops i hlt
    rw [opsTo_now, List.take_zero, List.map_nil, List.nil_append, List.drop_zero] at hOi
    obtain ⟨ua, uc, hu, _⟩ := hOi.ops.form
    have htb := HOK2.out s[i] (List.getElem_mem hlt)
    have hsl7 : s.length ≤ 64 := by have := HSL.out; omega
    have LK : ∀ x, x ∈ stL s → InI x → ∀ wx, MapI eI Tryz.prog 3 wx bM nM (rankF (stL s) (stL s)) cM → Sem.run Tryz.prog (Instr.lookup 32 (.map (some bM)) (.int .i64 x) false) wx = .ok (.int .i64 (rankI (stL s) x)) wx := fun x hx hi wx hM => by
     have := lookI_run false keyI mapII 0 (zeroI wx) hM hi
     rw [show rankF (stL s) (stL s) x = some (rankI (stL s) x) from if_pos hx] at this
     exact this
    have HLB := hid (LK s[i].b (stL_mem.2 ⟨_, List.getElem_mem hlt, .inl rfl⟩) (inI_of htb.1.2.1))
    have HLC := hid (LK s[i].c (stL_mem.2 ⟨_, List.getElem_mem hlt, .inr rfl⟩) (inI_of htb.1.2.2))
    have HXO : Hid (∀ o ∈ opsAt s i, InI o.key ∧ InI o.val) := hid (fun o ho => by
     rw [opsAt_eq hi9] at ho
     exact ⟨inI_of (htb.2 o ho).1, inI_of (htb.2 o ho).2⟩)
    have CO8 := hid (fun wx (q : CanI s g cap w.heap.size base2 bM bS bK bV nM cM i 0 i i 0 0 wx) => cof_any bS i (firsts (sTo s i)) s[i].s wx q.mS (by omega) (inI_of htb.1.1))
    have HSS := hid (fun wa wb (q : CanI s g cap w.heap.size base2 bM bS bK bV nM cM i 0 i i 0 0 wa) hM hg => CanI.ses (W1 := wb) HFF.out q hi9 hM hg)
    have HC3 := hid (fun wx (q : CanI s g cap w.heap.size base2 bM bS bK bV nM cM i 0 i (i + 1) 0 0 wx) x y => q.cells3 hi9 x y)
    have HCE := hid (fun wx (q : CanI s g cap w.heap.size base2 bM bS bK bV nM cM i 0 i (i + 1) 0 0 wx) => q.cell HFF.out hi9 _ _ _ (ses_now hi9) (rank_now s[i].b) (rank_now s[i].c))
    have HVC := hid (fun wx k kK kV (q : CanI s g cap w.heap.size base2 bM bS bK bV nM cM i k (i + 1) (i + 1) kK kV wx) => q.vcell hi9)
    have HOW := hid (fun wx k kK kV (q : CanI s g cap w.heap.size base2 bM bS bK bV nM cM i k (i + 1) (i + 1) kK kV wx) => q.ops i hi9)
    have HU2 := hid hu
    rw [hu] at a3
    rw [hu] at HVC
    rw [hu] at HOW
    clear LK hOi htb hu
    generalize s[i].s = sx at *
    generalize s[i].b = bx at *
    generalize s[i].c = cx at *
    generalize rankI (stL s) bx = py at *
    generalize rankI (stL s) cx = pz at *
    generalize ((posL (firsts (sTo s i)) sx : Nat) : Int) = px at *
    obtain ⟨b0, b1, b2, b3⟩ := txnBlock wr (.int .i64 sx) (.int .i64 bx) (.int .i64 cx) (.slice ua (opsAt s i).length uc) 83
    have hq8 := hq.below (box_below wr (.cells #[.int .i64 sx, .int .i64 bx, .int .i64 cx, .slice ua (opsAt s i).length uc] 83))
    have hb8 := HB.out.alloc HB.out.size (.cells #[.int .i64 sx, .int .i64 bx, .int .i64 cx, .slice ua (opsAt s i).length uc] 83)
    clear hq HQ HB
    go_upto_region 8 with fail
    generalize wr.alloc (.cells #[.int .i64 sx, .int .i64 bx, .int .i64 cx, .slice ua (opsAt s i).length uc] 83) = w8 at *
    generalize wr.heap.size = p9 at *
    have kd := (Below.refl w8.heap.size w8).drew
    have HQ8 := hid (hq8.below kd)
    have HB8 := hid hb8.drew
    have b0 := (kd.cell (p := ⟨p9, 0, none⟩) (block_lt b0)).trans b0
    have b1 := (kd.cell (p := ⟨p9, 1, none⟩) (block_lt b1)).trans b1
    have b2 := (kd.cell (p := ⟨p9, 2, none⟩) (block_lt b2)).trans b2
    have b3 := (kd.cell (p := ⟨p9, 3, none⟩) (block_lt b3)).trans b3
    have hd0 : decide ((i : Int) < 0) = false := decide_eq_false (by omega)
    have hd1 : decide ((s.length : Int) ≤ (i : Int)) = false := decide_eq_false (by omega)
    have hd2 : decide (s.length ≤ i) = false := decide_eq_false (by omega)
    have hbgS : w.heap.size ≤ bS := by have := HFF.out.bg; omega
    clear kd hq8 hb8 a0 a1 a2 a3
    refine wp_region_held_drew (S := fun wx => ((wx.cell? ⟨p9, 0, none⟩ = some (.int .i64 sx) ∧ wx.cell? ⟨p9, 1, none⟩ = some (.int .i64 bx) ∧ wx.cell? ⟨p9, 2, none⟩ = some (.int .i64 cx) ∧ wx.cell? ⟨p9, 3, none⟩ = some (.slice ua (opsAt s i).length uc)) ∧ MapI eI Tryz.prog 3 wx bM nM (rankF (stL s) (stL s)) cM)) (by kernel_rfl) ⟨⟨b0, b1, b2, b3⟩, HQ8.out.mM⟩ (fun hS0 => ?_)
    generalize w8.drew = wd at *
    refine tG (some 29) 0 ?vca0x1 rfl rfl (Or.inl ⟨by rfl, ?hca0x1⟩) hS0 ?rca0x1
    case hca0x1 => (intro w hw; obtain ⟨⟨m0, m1, m2, m3⟩, m4⟩ := hw; have l1 := HLB.out w m4; have l2 := HLC.out w m4; go_simp; try (with_reducible rfl))
    try simp only [Act.put, zA, zB, zC]
    refine tG (some 30) 1 ?vca1x2 rfl rfl (Or.inl ⟨by rfl, ?hca1x2⟩) hS0 ?rca1x2
    case hca1x2 => (intro w hw; obtain ⟨⟨m0, m1, m2, m3⟩, m4⟩ := hw; have l1 := HLB.out w m4; have l2 := HLC.out w m4; go_simp; try (with_reducible rfl))
    try simp only [Act.put, zA, zB, zC]
    refine tG (some 31) 2 ?vca2x3 rfl rfl (Or.inl ⟨by rfl, ?hca2x3⟩) hS0 ?rca2x3
    case hca2x3 => (intro w hw; obtain ⟨⟨m0, m1, m2, m3⟩, m4⟩ := hw; have l1 := HLB.out w m4; have l2 := HLC.out w m4; go_simp; try (with_reducible rfl))
    try simp only [Act.put, zA, zB, zC]
    refine tG (some 32) 3 ?vca3x4 rfl rfl (Or.inl ⟨by rfl, ?hca3x4⟩) hS0 ?rca3x4
    case hca3x4 => (intro w hw; obtain ⟨⟨m0, m1, m2, m3⟩, m4⟩ := hw; have l1 := HLB.out w m4; have l2 := HLC.out w m4; go_simp; try (with_reducible rfl))
    try simp only [Act.put, zA, zB, zC]
    refine tG (some 33) 4 ?vca4x5 rfl rfl (Or.inl ⟨by rfl, ?hca4x5⟩) hS0 ?rca4x5
    case hca4x5 => (intro w hw; obtain ⟨⟨m0, m1, m2, m3⟩, m4⟩ := hw; have l1 := HLB.out w m4; have l2 := HLC.out w m4; go_simp; try (with_reducible rfl))
    try simp only [Act.put, zA, zB, zC]
    refine tG (some 34) 5 ?vca5x6 rfl rfl (Or.inl ⟨by rfl, ?hca5x6⟩) hS0 ?rca5x6
    case hca5x6 => (intro w hw; obtain ⟨⟨m0, m1, m2, m3⟩, m4⟩ := hw; have l1 := HLB.out w m4; have l2 := HLC.out w m4; go_simp; try (with_reducible rfl))
    try simp only [Act.put, zA, zB, zC]
    refine tG (some 35) 6 ?vca6x7 rfl rfl (Or.inl ⟨by rfl, ?hca6x7⟩) hS0 ?rca6x7
    case hca6x7 => (intro w hw; obtain ⟨⟨m0, m1, m2, m3⟩, m4⟩ := hw; have l1 := HLB.out w m4; have l2 := HLC.out w m4; go_simp; try (with_reducible rfl))
    try simp only [Act.put, zA, zB, zC]
    refine tG (some 36) 7 ?vca7x8 rfl rfl (Or.inl ⟨by rfl, ?hca7x8⟩) hS0 ?rca7x8
    case hca7x8 => (intro w hw; obtain ⟨⟨m0, m1, m2, m3⟩, m4⟩ := hw; have l1 := HLB.out w m4; have l2 := HLC.out w m4; go_simp; try (with_reducible rfl))
    try simp only [Act.put, zA, zB, zC]
    refine tG (some 37) 8 ?vca8x9 rfl rfl (Or.inl ⟨by rfl, ?hca8x9⟩) hS0 ?rca8x9
    case hca8x9 => (intro w hw; obtain ⟨⟨m0, m1, m2, m3⟩, m4⟩ := hw; have l1 := HLB.out w m4; have l2 := HLC.out w m4; go_simp; try (with_reducible rfl))
    try simp only [Act.put, zA, zB, zC]
    refine tG (some 39) 10 ?vca10x10 rfl rfl (Or.inl ⟨by rfl, ?hca10x10⟩) hS0 ?rca10x10
    case hca10x10 => (intro w hw; obtain ⟨⟨m0, m1, m2, m3⟩, m4⟩ := hw; have l1 := HLB.out w m4; have l2 := HLC.out w m4; go_simp; try (with_reducible rfl))
    try simp only [Act.put, zA, zB, zC]
    refine tG (some 40) 11 ?vca11x11 rfl rfl (Or.inl ⟨by rfl, ?hca11x11⟩) hS0 ?rca11x11
    case hca11x11 => (intro w hw; obtain ⟨⟨m0, m1, m2, m3⟩, m4⟩ := hw; have l1 := HLB.out w m4; have l2 := HLC.out w m4; go_simp; try (with_reducible rfl))
    try simp only [Act.put, zA, zB, zC]
    refine tG (some 41) 12 ?vca12x12 rfl rfl (Or.inl ⟨by rfl, ?hca12x12⟩) hS0 ?rca12x12
    case hca12x12 => (intro w hw; obtain ⟨⟨m0, m1, m2, m3⟩, m4⟩ := hw; have l1 := HLB.out w m4; have l2 := HLC.out w m4; go_simp; try (with_reducible rfl))
    try simp only [Act.put, zA, zB, zC]
    refine tG (some 42) 13 ?vca13x13 rfl rfl (Or.inl ⟨by rfl, ?hca13x13⟩) hS0 ?rca13x13
    case hca13x13 => (intro w hw; obtain ⟨⟨m0, m1, m2, m3⟩, m4⟩ := hw; have l1 := HLB.out w m4; have l2 := HLC.out w m4; go_simp; try (with_reducible rfl))
    try simp only [Act.put, zA, zB, zC]
    refine tG (some 43) 14 ?vca14x14 rfl rfl (Or.inl ⟨by rfl, ?hca14x14⟩) hS0 ?rca14x14
    case hca14x14 => (intro w hw; obtain ⟨⟨m0, m1, m2, m3⟩, m4⟩ := hw; have l1 := HLB.out w m4; have l2 := HLC.out w m4; go_simp; try (with_reducible rfl))
    try simp only [Act.put, zA, zB, zC]
    refine tG (some 44) 15 ?vca15x15 rfl rfl (Or.inl ⟨by rfl, ?hca15x15⟩) hS0 ?rca15x15
    case hca15x15 => (intro w hw; obtain ⟨⟨m0, m1, m2, m3⟩, m4⟩ := hw; have l1 := HLB.out w m4; have l2 := HLC.out w m4; go_simp; try (with_reducible rfl))
    try simp only [Act.put, zA, zB, zC]
    refine tG (some 45) 16 ?vca16x16 rfl rfl (Or.inl ⟨by rfl, ?hca16x16⟩) hS0 ?rca16x16
    case hca16x16 => (intro w hw; obtain ⟨⟨m0, m1, m2, m3⟩, m4⟩ := hw; have l1 := HLB.out w m4; have l2 := HLC.out w m4; go_simp; try (with_reducible rfl))
    try simp only [Act.put, zA, zB, zC]
    refine tG (some 46) 17 ?vca17x17 rfl rfl (Or.inl ⟨by rfl, ?hca17x17⟩) hS0 ?rca17x17
    case hca17x17 => (intro w hw; obtain ⟨⟨m0, m1, m2, m3⟩, m4⟩ := hw; have l1 := HLB.out w m4; have l2 := HLC.out w m4; go_simp; try (with_reducible rfl))
    try simp only [Act.put, zA, zB, zC]
    refine rD 9 rfl (fun K hK => ?_)
    go_simp
    refine (CO8.out _ HQ8.out).mono ?_
    rintro e wA ⟨rfl, hMA, hgA⟩
    have HQA := hid (HSS.out _ _ HQ8.out hMA hgA)
    have sA : ((wA.cell? ⟨p9, 0, none⟩ = some (.int .i64 sx) ∧ wA.cell? ⟨p9, 1, none⟩ = some (.int .i64 bx) ∧ wA.cell? ⟨p9, 2, none⟩ = some (.int .i64 cx) ∧ wA.cell? ⟨p9, 3, none⟩ = some (.slice ua (opsAt s i).length uc)) ∧ MapI eI Tryz.prog 3 wA bM nM (rankF (stL s) (stL s)) cM) := ⟨⟨hgA.cell hS0.1.1 (fun e => absurd (Option.some.inj e) (by show p9 ≠ bS; omega)), hgA.cell hS0.1.2.1 (fun e => absurd (Option.some.inj e) (by show p9 ≠ bS; omega)), hgA.cell hS0.1.2.2.1 (fun e => absurd (Option.some.inj e) (by show p9 ≠ bS; omega)), hgA.cell hS0.1.2.2.2 (fun e => absurd (Option.some.inj e) (by show p9 ≠ bS; omega))⟩, HQA.out.mM⟩
    have HBA := hid (HB8.out.grown hgA HB8.out.size (fun j hj => by cases hj; omega))
    show K _ _
    refine hK.out _ _ sA (fun _ => ?_)
    clear hK K hMA hgA
    refine tG (some 47) 18 ?vca18x19 rfl rfl (Or.inl ⟨by rfl, ?hca18x19⟩) sA ?rca18x19
    case hca18x19 => (intro w hw; obtain ⟨⟨m0, m1, m2, m3⟩, m4⟩ := hw; have l1 := HLB.out w m4; have l2 := HLC.out w m4; go_simp; try (with_reducible rfl))
    try simp only [Act.put, zA, zB, zC]
    refine tG (some 48) 19 ?vca19x20 rfl rfl (Or.inl ⟨by rfl, ?hca19x20⟩) sA ?rca19x20
    case hca19x20 => (intro w hw; obtain ⟨⟨m0, m1, m2, m3⟩, m4⟩ := hw; have l1 := HLB.out w m4; have l2 := HLC.out w m4; go_simp; try (with_reducible rfl))
    try simp only [Act.put, zA, zB, zC]
    refine rD 20 rfl (fun K hK => ?_)
    have hc3 := HC3.out _ HQA.out px py
    have hc0 := hc3.1.1
    have hf0 := hc3.1.2
    go_simp
    have sB : (((wA.setCell ⟨g, i * 4, none⟩ (.int .i64 px)).cell? ⟨p9, 0, none⟩ = some (.int .i64 sx) ∧ (wA.setCell ⟨g, i * 4, none⟩ (.int .i64 px)).cell? ⟨p9, 1, none⟩ = some (.int .i64 bx) ∧ (wA.setCell ⟨g, i * 4, none⟩ (.int .i64 px)).cell? ⟨p9, 2, none⟩ = some (.int .i64 cx) ∧ (wA.setCell ⟨g, i * 4, none⟩ (.int .i64 px)).cell? ⟨p9, 3, none⟩ = some (.slice ua (opsAt s i).length uc)) ∧ MapI eI Tryz.prog 3 (wA.setCell ⟨g, i * 4, none⟩ (.int .i64 px)) bM nM (rankF (stL s) (stL s)) cM) := ⟨⟨(World.cell?_setCell_other _ _ _ _ (fun e => by injection e with e; omega)).trans sA.1.1, (World.cell?_setCell_other _ _ _ _ (fun e => by injection e with e; omega)).trans sA.1.2.1, (World.cell?_setCell_other _ _ _ _ (fun e => by injection e with e; omega)).trans sA.1.2.2.1, (World.cell?_setCell_other _ _ _ _ (fun e => by injection e with e; omega)).trans sA.1.2.2.2⟩, sA.2.cell (by show bM ≠ g; omega) _⟩
    refine hK.out _ _ sB (fun _ => ?_)
    clear hK K hc0 hf0 hc3
    refine tG (some 49) 21 ?vca21x22 rfl rfl (Or.inl ⟨by rfl, ?hca21x22⟩) sB ?rca21x22
    case hca21x22 => (intro w hw; obtain ⟨⟨m0, m1, m2, m3⟩, m4⟩ := hw; have l1 := HLB.out w m4; have l2 := HLC.out w m4; go_simp; try (with_reducible rfl))
    try simp only [Act.put, zA, zB, zC]
    refine tG (some 50) 22 ?vca22x23 rfl rfl (Or.inl ⟨by rfl, ?hca22x23⟩) sB ?rca22x23
    case hca22x23 => (intro w hw; obtain ⟨⟨m0, m1, m2, m3⟩, m4⟩ := hw; have l1 := HLB.out w m4; have l2 := HLC.out w m4; go_simp; try (with_reducible rfl))
    try simp only [Act.put, zA, zB, zC]
    refine rD 23 rfl (fun K hK => ?_)
    have hc3 := HC3.out _ HQA.out px py
    have hc0 := hc3.2.1.1
    have hf0 := hc3.2.1.2
    go_simp
    have sC : ((((wA.setCell ⟨g, i * 4, none⟩ (.int .i64 px)).setCell ⟨g, i * 4 + 1, none⟩ (.int .i64 py)).cell? ⟨p9, 0, none⟩ = some (.int .i64 sx) ∧ ((wA.setCell ⟨g, i * 4, none⟩ (.int .i64 px)).setCell ⟨g, i * 4 + 1, none⟩ (.int .i64 py)).cell? ⟨p9, 1, none⟩ = some (.int .i64 bx) ∧ ((wA.setCell ⟨g, i * 4, none⟩ (.int .i64 px)).setCell ⟨g, i * 4 + 1, none⟩ (.int .i64 py)).cell? ⟨p9, 2, none⟩ = some (.int .i64 cx) ∧ ((wA.setCell ⟨g, i * 4, none⟩ (.int .i64 px)).setCell ⟨g, i * 4 + 1, none⟩ (.int .i64 py)).cell? ⟨p9, 3, none⟩ = some (.slice ua (opsAt s i).length uc)) ∧ MapI eI Tryz.prog 3 ((wA.setCell ⟨g, i * 4, none⟩ (.int .i64 px)).setCell ⟨g, i * 4 + 1, none⟩ (.int .i64 py)) bM nM (rankF (stL s) (stL s)) cM) := ⟨⟨(World.cell?_setCell_other _ _ _ _ (fun e => by injection e with e; omega)).trans sB.1.1, (World.cell?_setCell_other _ _ _ _ (fun e => by injection e with e; omega)).trans sB.1.2.1, (World.cell?_setCell_other _ _ _ _ (fun e => by injection e with e; omega)).trans sB.1.2.2.1, (World.cell?_setCell_other _ _ _ _ (fun e => by injection e with e; omega)).trans sB.1.2.2.2⟩, sB.2.cell (by show bM ≠ g; omega) _⟩
    refine hK.out _ _ sC (fun _ => ?_)
    clear hK K hc0 hf0 hc3
    refine tG (some 51) 24 ?vca24x25 rfl rfl (Or.inl ⟨by rfl, ?hca24x25⟩) sC ?rca24x25
    case hca24x25 => (intro w hw; obtain ⟨⟨m0, m1, m2, m3⟩, m4⟩ := hw; have l1 := HLB.out w m4; have l2 := HLC.out w m4; go_simp; try (with_reducible rfl))
    try simp only [Act.put, zA, zB, zC]
    refine tG (some 52) 25 ?vca25x26 rfl rfl (Or.inl ⟨by rfl, ?hca25x26⟩) sC ?rca25x26
    case hca25x26 => (intro w hw; obtain ⟨⟨m0, m1, m2, m3⟩, m4⟩ := hw; have l1 := HLB.out w m4; have l2 := HLC.out w m4; go_simp; try (with_reducible rfl))
    try simp only [Act.put, zA, zB, zC]
    refine rD 26 rfl (fun K hK => ?_)
    have hc3 := HC3.out _ HQA.out px py
    have hc0 := hc3.2.2.1
    have hf0 := hc3.2.2.2
    go_simp
    have sD : (((((wA.setCell ⟨g, i * 4, none⟩ (.int .i64 px)).setCell ⟨g, i * 4 + 1, none⟩ (.int .i64 py)).setCell ⟨g, i * 4 + 2, none⟩ (.int .i64 pz)).cell? ⟨p9, 0, none⟩ = some (.int .i64 sx) ∧ (((wA.setCell ⟨g, i * 4, none⟩ (.int .i64 px)).setCell ⟨g, i * 4 + 1, none⟩ (.int .i64 py)).setCell ⟨g, i * 4 + 2, none⟩ (.int .i64 pz)).cell? ⟨p9, 1, none⟩ = some (.int .i64 bx) ∧ (((wA.setCell ⟨g, i * 4, none⟩ (.int .i64 px)).setCell ⟨g, i * 4 + 1, none⟩ (.int .i64 py)).setCell ⟨g, i * 4 + 2, none⟩ (.int .i64 pz)).cell? ⟨p9, 2, none⟩ = some (.int .i64 cx) ∧ (((wA.setCell ⟨g, i * 4, none⟩ (.int .i64 px)).setCell ⟨g, i * 4 + 1, none⟩ (.int .i64 py)).setCell ⟨g, i * 4 + 2, none⟩ (.int .i64 pz)).cell? ⟨p9, 3, none⟩ = some (.slice ua (opsAt s i).length uc)) ∧ MapI eI Tryz.prog 3 (((wA.setCell ⟨g, i * 4, none⟩ (.int .i64 px)).setCell ⟨g, i * 4 + 1, none⟩ (.int .i64 py)).setCell ⟨g, i * 4 + 2, none⟩ (.int .i64 pz)) bM nM (rankF (stL s) (stL s)) cM) := ⟨⟨(World.cell?_setCell_other _ _ _ _ (fun e => by injection e with e; omega)).trans sC.1.1, (World.cell?_setCell_other _ _ _ _ (fun e => by injection e with e; omega)).trans sC.1.2.1, (World.cell?_setCell_other _ _ _ _ (fun e => by injection e with e; omega)).trans sC.1.2.2.1, (World.cell?_setCell_other _ _ _ _ (fun e => by injection e with e; omega)).trans sC.1.2.2.2⟩, sC.2.cell (by show bM ≠ g; omega) _⟩
    refine hK.out _ _ sD (fun _ => ?_)
    clear hK K hc0 hf0 hc3
    refine wpAnyH_done (by kernel_rfl) ?_ _
    have HQC := hid (HCE.out _ HQA.out)
    have hbg2 := HFF.out.bg
    have HBC := hid (((HBA.out.setCell (p := ⟨g, i * 4, none⟩) hbg2 (.int .i64 px)).setCell (p := ⟨g, i * 4 + 1, none⟩) hbg2 (.int .i64 py)).setCell (p := ⟨g, i * 4 + 2, none⟩) hbg2 (.int .i64 pz))
    have hv9 := sD.1.2.2.2
    clear sA sB sC sD hS0 HQA HBA b0 b1 b2 b3
    generalize (((wA.setCell ⟨g, i * 4, none⟩ (.int .i64 px)).setCell ⟨g, i * 4 + 1, none⟩ (.int .i64 py)).setCell ⟨g, i * 4 + 2, none⟩ (.int .i64 pz)) = wB at *
    go_wp2_with fail
    go_loopw [56] (fun k wr => ∃ k' : Nat, k' ≤ (opsAt s i).length ∧ k = .int .i64 (k' : Int) ∧ Hid (CanI s g cap w.heap.size base2 bM bS bK bV nM cM i k' (i + 1) (i + 1) k' k' wr) ∧ Hid (Below w.heap.size w wr)) (fun k _ => (opsAt s i).length - (intOf k).toNat)
    case atStart => exact ⟨0, by omega, rfl, HQC, HBC⟩
    case round =>
     obtain ⟨k, hk, rfl, HQk, HBk⟩ := hrel
     clear hv9 HQC HBC HQ8 HB8
     by_cases hlk : k < (opsAt s i).length
     ·have hkk : (k : Int) < ((opsAt s i).length : Int) := by omega
      have hqk := HQk.out
      have hpk := hqk.mV.lt
      have hOk := HOW.out _ _ _ _ hqk
      have hkl : k < (opsTo s i k i).length := by rw [opsTo_len]; exact hlk
      obtain ⟨g2, cp2, e2, hg2b⟩ := own_first hOk (by omega)
      obtain ⟨rfl, rfl⟩ : ua = some ⟨g2, 0, none⟩ ∧ uc = cp2 := ⟨(Value.slice.inj e2).1, (Value.slice.inj e2).2.2⟩
      obtain ⟨gr, orr, hor, e0, e1, e3⟩ := hOk.ops.at hkl
      cases hor
      rw [opsTo_at hlk hkl] at e0 e1 e3
      simp only [Nat.zero_add] at e0 e1 e3
      have hg2M : g2 < bM := (HFF.out.op hi9 (by rw [HU2.out]; rfl)).2
      have hg2w : w.heap.size ≤ g2 := by have h1 := (HFF.out.op hi9 (b := g2) (by rw [HU2.out]; rfl)).1; have h2 := HB2.out; omega
      have hgg : g ≠ g2 := by have h1 := (HFF.out.op hi9 (b := g2) (by rw [HU2.out]; rfl)).1; have h2 := HFF.out.g2; omega
      have hopn : opsN (s.take i) ≤ 1024 := Nat.le_trans (opsN_le s i) hop
      have hokn : (opsAt s i).length ≤ 1024 := by have h1 := opsN_take s i hi9; have h2 := opsN_le s (i + 1); rw [opsAt_eq hi9]; omega
      have hxo := HXO.out _ (List.getElem_mem hlk)
      have COK := hid (fun wx (q : CanI s g cap w.heap.size base2 bM bS bK bV nM cM i k (i + 1) (i + 1) k k wx) => cof_any bK (opsN (s.take i) + k) (firsts (kTo s i k)) (opsAt s i)[k].key wx q.mK (by omega) hxo.1)
      have COV := hid (fun wx (q : CanI s g cap w.heap.size base2 bM bS bK bV nM cM i k (i + 1) (i + 1) (k + 1) k wx) => cof_any bV (opsN (s.take i) + k + 1) (0 :: firsts (valP (vTo s i k))) (opsAt s i)[k].val wx q.mV (by omega) hxo.2)
      have HSK := hid (fun wa wb (q : CanI s g cap w.heap.size base2 bM bS bK bV nM cM i k (i + 1) (i + 1) k k wa) hM hg => CanI.key (W1 := wb) HFF.out q hlk hM hg)
      have HSV := hid (fun wa wb (q : CanI s g cap w.heap.size base2 bM bS bK bV nM cM i k (i + 1) (i + 1) (k + 1) k wa) hM hg => CanI.val (W1 := wb) HFF.out q hlk hM hg)
      have HSO := hid (fun wx (q : CanI s g cap w.heap.size base2 bM bS bK bV nM cM i k (i + 1) (i + 1) (k + 1) (k + 1) wx) => q.op HFF.out hi9 hlk HU2.out _ (cOp_now hi9 hlk))
      have HTH : Hid (∀ wx, CanI s g cap w.heap.size base2 bM bS bK bV nM cM i k (i + 1) (i + 1) (k + 1) (k + 1) wx → wx.there g2 (k * 3) 3) := hid (fun wx q j hj => by
       have h1 := HOW.out _ _ _ _ q
       have hl3 : (opsTo s i k i).length = (opsAt s i).length := opsTo_len i
       unfold Own at h1
       rw [hl3] at h1
       have h2 := owns_at (j := k * 3 + j) h1 (by omega)
       refine ⟨?_, h2.2⟩
       rw [h2.1]
       have : k * 3 + j < (opV (opsTo s i k i)).length := by rw [opV_len]; omega
       rw [List.getElem?_eq_getElem this]; rfl)
      have hv3 := HVC.out _ _ _ _ hqk
      generalize (opsAt s i)[k] = x at *
      obtain ⟨xw, xk, xv⟩ := x
      simp only at e0 e1 e3 COK COV HSK HSV HSO
      generalize ((posL (firsts (kTo s i k)) xk : Nat) : Int) = pk at *
      generalize ((posL (0 :: firsts (valP (vTo s i k))) xv : Nat) : Int) = pv at *
      obtain ⟨z0, z1, z2⟩ := opBlock wr (.bool xw) (.int .i64 xk) (.int .i64 xv) 79
      have hbx := box_below wr (.cells #[.bool xw, .int .i64 xk, .int .i64 xv] 79)
      have hv3 := (hbx.cell (p := ⟨g, i * 4 + 3, none⟩) (block_lt hv3)).trans hv3
      have hqk8 := hqk.below hbx
      have hbk8 := HBk.out.alloc HBk.out.size (.cells #[.bool xw, .int .i64 xk, .int .i64 xv] 79)
      clear hqk hOk hkl e2 hbx HQk HBk hxo
      go_upto_region 12 with fail
      generalize wr.alloc (.cells #[.bool xw, .int .i64 xk, .int .i64 xv] 79) = w11 at *
      generalize wr.heap.size = p11 at *
      have kd := (Below.refl w11.heap.size w11).drew
      have HQ8 := hid (hqk8.below kd)
      have HB8 := hid hbk8.drew
      have z0 := (kd.cell (p := ⟨p11, 0, none⟩) (block_lt z0)).trans z0
      have z1 := (kd.cell (p := ⟨p11, 1, none⟩) (block_lt z1)).trans z1
      have z2 := (kd.cell (p := ⟨p11, 2, none⟩) (block_lt z2)).trans z2
      have hv3 := (kd.cell (p := ⟨g, i * 4 + 3, none⟩) (block_lt hv3)).trans hv3
      have hd3 : decide ((k : Int) < 0) = false := decide_eq_false (by omega)
      have hd4 : decide (((opsAt s i).length : Int) ≤ (k : Int)) = false := decide_eq_false (by omega)
      have hd5 : decide ((opsAt s i).length ≤ k) = false := decide_eq_false (by omega)
      clear kd hqk8 hbk8 e0 e1 e3
      refine wp_region_held_drew (S := fun wx => ((wx.cell? ⟨p11, 0, none⟩ = some (.bool xw) ∧ wx.cell? ⟨p11, 1, none⟩ = some (.int .i64 xk) ∧ wx.cell? ⟨p11, 2, none⟩ = some (.int .i64 xv)) ∧ wx.cell? ⟨g, i * 4 + 3, none⟩ = some (.slice (some ⟨g2, 0, none⟩) (opsAt s i).length uc))) (by kernel_rfl) ⟨⟨z0, z1, z2⟩, hv3⟩ (fun hS0 => ?_)
      generalize w11.drew = wd at *
      refine tG (some 61) 0 ?vcb0x1 rfl rfl (Or.inl ⟨by rfl, ?hcb0x1⟩) hS0 ?rcb0x1
      case hcb0x1 => (intro w hw; obtain ⟨⟨m0, m1, m2⟩, m3⟩ := hw; go_simp; try (with_reducible rfl))
      try simp only [Act.put, zA, zB, zC]
      refine tG (some 62) 1 ?vcb1x2 rfl rfl (Or.inl ⟨by rfl, ?hcb1x2⟩) hS0 ?rcb1x2
      case hcb1x2 => (intro w hw; obtain ⟨⟨m0, m1, m2⟩, m3⟩ := hw; go_simp; try (with_reducible rfl))
      try simp only [Act.put, zA, zB, zC]
      refine tG (some 63) 2 ?vcb2x3 rfl rfl (Or.inl ⟨by rfl, ?hcb2x3⟩) hS0 ?rcb2x3
      case hcb2x3 => (intro w hw; obtain ⟨⟨m0, m1, m2⟩, m3⟩ := hw; go_simp; try (with_reducible rfl))
      try simp only [Act.put, zA, zB, zC]
      refine tG (some 64) 3 ?vcb3x4 rfl rfl (Or.inl ⟨by rfl, ?hcb3x4⟩) hS0 ?rcb3x4
      case hcb3x4 => (intro w hw; obtain ⟨⟨m0, m1, m2⟩, m3⟩ := hw; go_simp; try (with_reducible rfl))
      try simp only [Act.put, zA, zB, zC]
      refine tG (some 65) 4 ?vcb4x5 rfl rfl (Or.inl ⟨by rfl, ?hcb4x5⟩) hS0 ?rcb4x5
      case hcb4x5 => (intro w hw; obtain ⟨⟨m0, m1, m2⟩, m3⟩ := hw; go_simp; try (with_reducible rfl))
      try simp only [Act.put, zA, zB, zC]
      refine tG (some 66) 5 ?vcb5x6 rfl rfl (Or.inl ⟨by rfl, ?hcb5x6⟩) hS0 ?rcb5x6
      case hcb5x6 => (intro w hw; obtain ⟨⟨m0, m1, m2⟩, m3⟩ := hw; go_simp; try (with_reducible rfl))
      try simp only [Act.put, zA, zB, zC]
      refine tG (some 67) 6 ?vcb6x7 rfl rfl (Or.inl ⟨by rfl, ?hcb6x7⟩) hS0 ?rcb6x7
      case hcb6x7 => (intro w hw; obtain ⟨⟨m0, m1, m2⟩, m3⟩ := hw; go_simp; try (with_reducible rfl))
      try simp only [Act.put, zA, zB, zC]
      refine tG (some 68) 7 ?vcb7x8 rfl rfl (Or.inl ⟨by rfl, ?hcb7x8⟩) hS0 ?rcb7x8
      case hcb7x8 => (intro w hw; obtain ⟨⟨m0, m1, m2⟩, m3⟩ := hw; go_simp; try (with_reducible rfl))
      try simp only [Act.put, zA, zB, zC]
      refine tG (some 69) 8 ?vcb8x9 rfl rfl (Or.inl ⟨by rfl, ?hcb8x9⟩) hS0 ?rcb8x9
      case hcb8x9 => (intro w hw; obtain ⟨⟨m0, m1, m2⟩, m3⟩ := hw; go_simp; try (with_reducible rfl))
      try simp only [Act.put, zA, zB, zC]
      refine tG (some 70) 9 ?vcb9x10 rfl rfl (Or.inl ⟨by rfl, ?hcb9x10⟩) hS0 ?rcb9x10
      case hcb9x10 => (intro w hw; obtain ⟨⟨m0, m1, m2⟩, m3⟩ := hw; go_simp; try (with_reducible rfl))
      try simp only [Act.put, zA, zB, zC]
      refine tG (some 71) 10 ?vcb10x11 rfl rfl (Or.inl ⟨by rfl, ?hcb10x11⟩) hS0 ?rcb10x11
      case hcb10x11 => (intro w hw; obtain ⟨⟨m0, m1, m2⟩, m3⟩ := hw; go_simp; try (with_reducible rfl))
      try simp only [Act.put, zA, zB, zC]
      refine tG (some 73) 12 ?vcb12x12 rfl rfl (Or.inl ⟨by rfl, ?hcb12x12⟩) hS0 ?rcb12x12
      case hcb12x12 => (intro w hw; obtain ⟨⟨m0, m1, m2⟩, m3⟩ := hw; go_simp; try (with_reducible rfl))
      try simp only [Act.put, zA, zB, zC]
      refine tG (some 74) 13 ?vcb13x13 rfl rfl (Or.inl ⟨by rfl, ?hcb13x13⟩) hS0 ?rcb13x13
      case hcb13x13 => (intro w hw; obtain ⟨⟨m0, m1, m2⟩, m3⟩ := hw; go_simp; try (with_reducible rfl))
      try simp only [Act.put, zA, zB, zC]
      refine tG (some 75) 14 ?vcb14x14 rfl rfl (Or.inl ⟨by rfl, ?hcb14x14⟩) hS0 ?rcb14x14
      case hcb14x14 => (intro w hw; obtain ⟨⟨m0, m1, m2⟩, m3⟩ := hw; go_simp; try (with_reducible rfl))
      try simp only [Act.put, zA, zB, zC]
      refine rD 11 rfl (fun K hK => ?_)
      go_simp
      refine (COK.out _ HQ8.out).mono ?_
      rintro e wK ⟨rfl, hMwK, hgwK⟩
      have HQK := hid (HSK.out _ _ HQ8.out hMwK hgwK)
      have swK : ((wK.cell? ⟨p11, 0, none⟩ = some (.bool xw) ∧ wK.cell? ⟨p11, 1, none⟩ = some (.int .i64 xk) ∧ wK.cell? ⟨p11, 2, none⟩ = some (.int .i64 xv)) ∧ wK.cell? ⟨g, i * 4 + 3, none⟩ = some (.slice (some ⟨g2, 0, none⟩) (opsAt s i).length uc)) := ⟨⟨hgwK.cell hS0.1.1 (fun e => absurd (Option.some.inj e) (by show p11 ≠ bK; omega)), hgwK.cell hS0.1.2.1 (fun e => absurd (Option.some.inj e) (by show p11 ≠ bK; omega)), hgwK.cell hS0.1.2.2 (fun e => absurd (Option.some.inj e) (by show p11 ≠ bK; omega))⟩, hgwK.cell hS0.2 (fun e => absurd (Option.some.inj e) (by show g ≠ bK; omega))⟩
      have HBK := hid (HB8.out.grown hgwK HB8.out.size (fun j hj => by cases hj; omega))
      show K _ _
      refine hK.out _ _ swK (fun _ => ?_)
      clear hK K hMwK hgwK
      refine rD 15 rfl (fun K hK => ?_)
      go_simp
      refine (COV.out _ HQK.out).mono ?_
      rintro e wV ⟨rfl, hMwV, hgwV⟩
      have HQV := hid (HSV.out _ _ HQK.out hMwV hgwV)
      have swV : ((wV.cell? ⟨p11, 0, none⟩ = some (.bool xw) ∧ wV.cell? ⟨p11, 1, none⟩ = some (.int .i64 xk) ∧ wV.cell? ⟨p11, 2, none⟩ = some (.int .i64 xv)) ∧ wV.cell? ⟨g, i * 4 + 3, none⟩ = some (.slice (some ⟨g2, 0, none⟩) (opsAt s i).length uc)) := ⟨⟨hgwV.cell swK.1.1 (fun e => absurd (Option.some.inj e) (by show p11 ≠ bV; omega)), hgwV.cell swK.1.2.1 (fun e => absurd (Option.some.inj e) (by show p11 ≠ bV; omega)), hgwV.cell swK.1.2.2 (fun e => absurd (Option.some.inj e) (by show p11 ≠ bV; omega))⟩, hgwV.cell swK.2 (fun e => absurd (Option.some.inj e) (by show g ≠ bV; omega))⟩
      have HBV := hid (HBK.out.grown hgwV HBK.out.size (fun j hj => by cases hj; omega))
      show K _ _
      refine hK.out _ _ swV (fun _ => ?_)
      clear hK K hMwV hgwV
      refine tG (some 77) 16 ?vcb16x17 rfl rfl (Or.inl ⟨by rfl, ?hcb16x17⟩) swV ?rcb16x17
      case hcb16x17 => (intro w hw; obtain ⟨⟨m0, m1, m2⟩, m3⟩ := hw; go_simp; try (with_reducible rfl))
      try simp only [Act.put, zA, zB, zC]
      refine tG (some 78) 17 ?vcb17x18 rfl rfl (Or.inl ⟨by rfl, ?hcb17x18⟩) swV ?rcb17x18
      case hcb17x18 => (intro w hw; obtain ⟨⟨m0, m1, m2⟩, m3⟩ := hw; go_simp; try (with_reducible rfl))
      try simp only [Act.put, zA, zB, zC]
      refine rD 18 rfl (fun K hK => ?_)
      have hth := HTH.out _ HQV.out
      refine wp_store_mid 79 _ _ rfl g2 (k * 3) #[.bool xw, .int .i64 pk, .int .i64 pv] rfl rfl hth (by kernel_rfl) (by simp [Value.oneCell']) ?_
      have sZ : (((wV.setCells g2 (k * 3) [.bool xw, .int .i64 pk, .int .i64 pv]).cell? ⟨p11, 0, none⟩ = some (.bool xw) ∧ (wV.setCells g2 (k * 3) [.bool xw, .int .i64 pk, .int .i64 pv]).cell? ⟨p11, 1, none⟩ = some (.int .i64 xk) ∧ (wV.setCells g2 (k * 3) [.bool xw, .int .i64 pk, .int .i64 pv]).cell? ⟨p11, 2, none⟩ = some (.int .i64 xv)) ∧ (wV.setCells g2 (k * 3) [.bool xw, .int .i64 pk, .int .i64 pv]).cell? ⟨g, i * 4 + 3, none⟩ = some (.slice (some ⟨g2, 0, none⟩) (opsAt s i).length uc)) := ⟨⟨(cell_put (by first | (show g ≠ g2; exact hgg) | (show p11 ≠ g2; omega)) _ _ _).trans swV.1.1, (cell_put (by first | (show g ≠ g2; exact hgg) | (show p11 ≠ g2; omega)) _ _ _).trans swV.1.2.1, (cell_put (by first | (show g ≠ g2; exact hgg) | (show p11 ≠ g2; omega)) _ _ _).trans swV.1.2.2⟩, (cell_put (by first | (show g ≠ g2; exact hgg) | (show p11 ≠ g2; omega)) _ _ _).trans swV.2⟩
      refine hK.out _ _ sZ (fun _ => ?_)
      clear hK K hth
      refine wpAnyH_done (by kernel_rfl) ?_ _
      have HQn := hid (HSO.out _ HQV.out)
      have HBn : Hid (Below w.heap.size w (wV.setCells g2 (k * 3) [.bool xw, .int .i64 pk, .int .i64 pv])) := hid (below_putC (by omega) _ _ _ HBV.out)
      clear hS0 swK swV sZ
      generalize (wV.setCells g2 (k * 3) [.bool xw, .int .i64 pk, .int .i64 pv]) = wZ at *
      go_wp2_with fail
      go_roundw
      case rel => exact ⟨k + 1, by omega, by go_num, HQn, HBn⟩
      case measure => simp [intOf]; omega
     ·obtain rfl : k = (opsAt s i).length := by omega
      have hkk : ¬ ((opsAt s i).length : Int) < ((opsAt s i).length : Int) := by omega
      have HQd := hid (CanI.done HQk.out hi9)
      clear HQk
      go_wp2_with fail
      go_roundw
      case rel => exact ⟨i + 1, by omega, by go_num, HQd, HBk⟩
      case measure => simp [intOf]; omega
   ·obtain rfl : i = s.length := by omega
    have hki : ¬ (s.length : Int) < (s.length : Int) := by omega
    have HCP := hid (HQ.out.copy HFF.out HB2.out (by have := HQ.out.mM.lt; omega))
    clear HQ
    go_wp2_with fail
    go_ret
    exact ⟨⟨_, rfl, _, HCP.out, s', HSR.out.1, by rw [HSR.out.2]; exact cTx_canE s⟩, HB.out⟩
end

section
open Go.RowKit
def NmI (w : World) (v : Value) (F : Int → Option Int) : Prop := (v = .map none ∧ F = fun _ => none) ∨ ∃ b n c, v = .map (some b) ∧ MapI eI Tryz.prog 3 w b n F c
theorem NmI.below {w w' : World} {v : Value} {F : Int → Option Int} (h : NmI w v F) (hb : Below w.heap.size w w') : NmI w' v F := by
 rcases h with ⟨rfl, rfl⟩ | ⟨b, n, c, rfl, hM⟩
 ·exact .inl ⟨rfl, rfl⟩
 ·exact .inr ⟨b, n, c, rfl, hM.below hb⟩
def nmF (F : Int → Option Int) (x : Int) : Int := (F x).getD x
theorem nil_look (x : Int) (w : World) : Sem.run Tryz.prog (Instr.lookup 32 (.map none) (.int .i64 x) true) w = .ok (.tuple #[.int .i64 0, .bool false]) w := by kernel_rfl
theorem rname_any (v : Value) (F : Int → Option Int) (x : Int) (w : World) (hN : NmI w v F) (hx : InI x) :
  Calls Tryz.prog 135 #[v, .int .i64 x] w fun e w' => e = .returned (.int .i64 (nmF F x)) ∧ w = w' := by
 rcases hN with ⟨rfl, rfl⟩ | ⟨b, n, c, rfl, hM⟩
 ·have HV : Hid (nmF (fun _ => none) x = x) := hid rfl
  rw [HV.out]
  have hlk := nil_look x
  go_enter Tryz.func135, Tryz.ntmps135
  go_wp2_with fail
  go_ret
  exact ⟨rfl, rfl⟩
 ·cases hv : F x with
  | none =>
   have HV : Hid (nmF F x = x) := hid (by unfold nmF; rw [hv]; rfl)
   rw [HV.out]
   go_enter Tryz.func135, Tryz.ntmps135
   go_wp2_with (first | (at_lookup; refine wpList_lookI_ok _ rfl _ _ 32 rfl 3 3 keyI mapII 0 (zeroI _) _ _ _ _ rfl hM _ rfl hx ?_; rw [hv]; simp only [Option.getD_none, Option.isSome_none, eI]) | go_in)
   go_ret
   exact ⟨rfl, rfl⟩
  | some y =>
   have HV : Hid (nmF F x = y) := hid (by unfold nmF; rw [hv]; rfl)
   rw [HV.out]
   go_enter Tryz.func135, Tryz.ntmps135
   go_wp2_with (first | (at_lookup; refine wpList_lookI_ok _ rfl _ _ 32 rfl 3 3 keyI mapII 0 (zeroI _) _ _ _ _ rfl hM _ rfl hx ?_; rw [hv]; simp only [Option.getD_some, Option.isSome_some, eI]) | go_in)
   go_ret
   exact ⟨rfl, rfl⟩
def apartP (F : Int → Option Int) (l : List Int) : Prop := ∀ a ∈ l, ∀ b ∈ l, nmF F a = nmF F b → a = b
instance (F : Int → Option Int) (l : List Int) : Decidable (apartP F l) := by unfold apartP; infer_instance
def whoF (F : Int → Option Int) : List Int → Int → Option Int
 | [], _ => none
 | a :: l, y => if nmF F a = y then some a else whoF F l y
theorem whoF_put (F : Int → Option Int) (l : List Int) (x : Int) : putF (whoF F l) (nmF F x) x = whoF F (x :: l) := by
 funext y
 unfold putF
 rw [whoF]
 by_cases e : y = nmF F x
 ·rw [if_pos e, if_pos e.symm]
 ·rw [if_neg e, if_neg (fun q => e q.symm)]
theorem whoF_some {F : Int → Option Int} : ∀ {l : List Int} {y a : Int}, whoF F l y = some a → a ∈ l ∧ nmF F a = y
 | b :: l, y, a, h => by
  rw [whoF] at h
  by_cases e : nmF F b = y
  ·rw [if_pos e] at h; cases h; exact ⟨List.mem_cons_self .., e⟩
  ·rw [if_neg e] at h; exact ⟨List.mem_cons_of_mem _ (whoF_some h).1, (whoF_some h).2⟩
theorem whoF_none {F : Int → Option Int} : ∀ {l : List Int} {y : Int}, whoF F l y = none → ∀ a ∈ l, nmF F a ≠ y
 | b :: l, y, h, a, ha => by
  rw [whoF] at h
  by_cases e : nmF F b = y
  ·rw [if_pos e] at h; cases h
  ·rw [if_neg e] at h
   rcases List.mem_cons.1 ha with rfl | ha
   ·exact e
   ·exact whoF_none h a ha
theorem apart_more {F : Int → Option Int} {l : List Int} {x : Int} (h : apartP F l) (hw : whoF F l (nmF F x) = none ∨ whoF F l (nmF F x) = some x) : apartP F (x :: l) := by
 have key : ∀ a ∈ l, nmF F a = nmF F x → a = x := fun a ha e => by
  rcases hw with hw | hw
  ·exact absurd e (whoF_none hw a ha)
  ·obtain ⟨h1, _⟩ := whoF_some hw
   exact h a ha x h1 e
 intro a ha b hb e
 rcases List.mem_cons.1 ha with ea | ha2
 ·rcases List.mem_cons.1 hb with eb | hb2
  ·rw [ea, eb]
  ·rw [ea] at e ⊢
   exact (key b hb2 e.symm).symm
 ·rcases List.mem_cons.1 hb with eb | hb2
  ·rw [eb] at e ⊢
   exact key a ha2 e
  ·exact h a ha2 b hb2 e
theorem apart_not {F : Int → Option Int} {l m : List Int} {x a : Int} (hm : ∀ b, b ∈ l → b ∈ m) (hx : x ∈ m) (hw : whoF F l (nmF F x) = some a) (hne : a ≠ x) : ¬ apartP F m := fun h => by
 obtain ⟨h1, h2⟩ := whoF_some hw
 exact hne (h a (hm a h1) x hx h2)
end

section
open Go.RowKit
theorem apart_perm {F : Int → Option Int} {l m : List Int} (h : ∀ b, b ∈ l ↔ b ∈ m) (q : apartP F l) : apartP F m := fun a ha b hb e => q a ((h a).2 ha) b ((h b).2 hb) e
theorem rapart_any (v va : Value) (F : Int → Option Int) (l : List Int) (w : World) (hN : NmI w v F) (hI : Ints w va l) (hl : ∀ x ∈ l, InI x ∧ InI (nmF F x)) (hn : l.length ≤ 100000) :
  Calls Tryz.prog 91 #[v, va] w fun e w' => e = .returned (.bool (decide (apartP F l))) ∧ Below w.heap.size w w' := by
 obtain ⟨ao, cap, rfl, hal⟩ := hI.form
 have HI := hid (fun wx (hx : Below w.heap.size w wx) => hI.below hx)
 have CN := hid (fun x wx (hx : Below w.heap.size w wx) (hi : InI x) => rname_any v F x wx (hN.below hx) hi)
 have HL := hid hl
 have hm0 := MapI.made eI Tryz.prog 3 w
 have hb1 := hid (box_below w (.map #[] 0))
 have hmm := @run_makeMap Tryz.prog
 clear hI hN hl
 go_enter Tryz.func91, Tryz.ntmps91
 go_wp2_with fail
 clear hmm
 go_loopw [14] (fun i wr => ∃ (k n c : Nat), k ≤ l.length ∧ i = .int .i64 (k : Int) ∧ n ≤ k ∧ Hid (apartP F (l.take k).reverse) ∧ MapI eI Tryz.prog 3 wr w.heap.size n (whoF F (l.take k).reverse) c ∧ Hid (Below w.heap.size w wr)) (fun i _ => l.length - (intOf i).toNat)
 case atStart => exact ⟨0, 0, 0, by omega, rfl, by omega, hid (fun a ha => by cases ha), hm0, hb1⟩
 case round =>
  obtain ⟨k, n, c, hk, rfl, hnk, HA, hM, HB⟩ := hrel
  clear hm0
  by_cases hlt : k < l.length
  ·have hki : (k : Int) < (l.length : Int) := by omega
   obtain ⟨g, o, hao, hc⟩ := (HI.out _ HB.out).at hlt
   cases hao
   have hxl := HL.out l[k] (List.getElem_mem hlt)
   have CN1 := hid (CN.out l[k] wr HB.out hxl.1)
   have HS : Hid ((l.take (k + 1)).reverse = l[k] :: (l.take k).reverse) := hid (by rw [List.take_succ_eq_append_getElem hlt]; simp)
   have HIN : Hid (∀ b, b ∈ (l.take k).reverse → b ∈ l) := hid (fun b hb => List.mem_of_mem_take (List.mem_reverse.1 hb))
   have HXM := hid (List.getElem_mem hlt)
   have hsz := HB.out.size
   have hxn := hxl.2
   clear hxl
   generalize l[k] = x at *
   have HW := hid (whoF_put F (l.take k).reverse x)
   have HMO := hid (fun h hw => apart_more (x := x) (F := F) (l := (l.take k).reverse) h hw)
   have HNO := hid (fun a hw hne => apart_not (F := F) (a := a) HIN.out HXM.out hw hne)
   generalize (l.take k).reverse = R at *
   obtain ⟨y, hy⟩ : ∃ y, nmF F x = y := ⟨_, rfl⟩
   rw [hy] at CN1 hxn HW HMO HNO
   clear hy
   cases hv : whoF F R y with
   | none =>
    have HA2 := hid (HMO.out HA.out (.inl hv))
    clear HNO HMO
    go_wp2_with fail
    refine CN1.out.mono ?_
    rintro e wq ⟨rfl, rfl⟩
    go_wp2_with (first | (at_lookup; refine wpList_lookI_ok _ rfl _ _ 32 rfl 3 3 keyI mapII 0 (zeroI _) _ _ _ _ rfl hM _ rfl hxn ?_; rw [hv]; simp only [Option.getD_none, Option.isSome_none, eI]) | (at_mapUpdate; refine wpList_putI _ rfl _ _ _ 32 rfl 3 3 keyI mapII _ _ _ _ rfl hM (by unfold maxLen; omega) _ rfl hxn x rfl ?_; intro w1 hM4 hgm; go_frame) | go_in)
    have HB8 := hid (HB.out.grown hgm HB.out.size (fun j hj => by cases hj; omega))
    rw [HW.out] at hM4
    go_wp2_with fail
    go_roundw
    case rel => exact ⟨k + 1, n + 1, _, by omega, by go_num, by omega, by rw [HS.out]; exact HA2, by rw [HS.out]; exact hM4, HB8⟩
    case measure => simp [intOf]; omega
   | some a =>
    by_cases hax : a = x
    ·subst hax
     have HA2 := hid (HMO.out HA.out (.inr hv))
     have hqq : (a != a) = false := by simp
     clear HNO HMO
     go_wp2_with fail
     refine CN1.out.mono ?_
     rintro e wq ⟨rfl, rfl⟩
     go_wp2_with (first | (at_lookup; refine wpList_lookI_ok _ rfl _ _ 32 rfl 3 3 keyI mapII 0 (zeroI _) _ _ _ _ rfl hM _ rfl hxn ?_; rw [hv]; simp only [Option.getD_some, Option.isSome_some, eI]) | (at_mapUpdate; refine wpList_putI _ rfl _ _ _ 32 rfl 3 3 keyI mapII _ _ _ _ rfl hM (by unfold maxLen; omega) _ rfl hxn a rfl ?_; intro w1 hM4 hgm; go_frame) | go_in)
     have HB8 := hid (HB.out.grown hgm HB.out.size (fun j hj => by cases hj; omega))
     rw [HW.out] at hM4
     go_wp2_with fail
     go_roundw
     case rel => exact ⟨k + 1, n + 1, _, by omega, by go_num, by omega, by rw [HS.out]; exact HA2, by rw [HS.out]; exact hM4, HB8⟩
     case measure => simp [intOf]; omega
    ·have hqq : (a != x) = true := by simpa using hax
     have HF : Hid (false = decide (apartP F l)) := hid (by rw [decide_eq_false (HNO.out a hv hax)])
     clear HNO HMO
     go_wp2_with fail
     refine CN1.out.mono ?_
     rintro e wq ⟨rfl, rfl⟩
     go_wp2_with (first | (at_lookup; refine wpList_lookI_ok _ rfl _ _ 32 rfl 3 3 keyI mapII 0 (zeroI _) _ _ _ _ rfl hM _ rfl hxn ?_; rw [hv]; simp only [Option.getD_some, Option.isSome_some, eI]) | go_in)
     go_ret
     exact ⟨ret_b HF.out, HB.out⟩
  ·obtain rfl : k = l.length := by omega
   have hki : ¬ (l.length : Int) < (l.length : Int) := by omega
   have HT : Hid (true = decide (apartP F l)) := hid (by
    have h1 := HA.out
    rw [List.take_length] at h1
    rw [decide_eq_true (apart_perm (fun b => List.mem_reverse) h1)])
   go_wp2_with fail
   go_ret
   exact ⟨ret_b HT.out, HB.out⟩
end

end Go.Proofs.YtnhkjehfmbfmmaaGreatDoor
