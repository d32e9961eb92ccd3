/- Walks and plain facts that the proof of the statement RenameBack uses, joined: RenR RenS0 RenL RenN RenO RenP OkN. Conditions: each theorem's own. -/
import Derived.Test.YtipmfhgdeghmjaaPRenameBack0
import Derived.Test.YtipmfhgdeghmjaaPRenameBack1
import Derived.Test.YtipmfhgdeghmjaaPRenameBack2
namespace Go.Proofs.Ytipmfhgdeghmjaa
set_option maxHeartbeats 32000000
set_option maxRecDepth 100000
set_option linter.unusedSimpArgs false
set_option linter.unusedVariables false
open Lib (hid)
section
open Go.RowKit
theorem ofF_at {l : List (Int × Int)} (h : ∀ p ∈ l, ∀ q ∈ l, p.1 = q.1 → p.2 = q.2) : ∀ p ∈ l, ofF l p.1 = some p.2 := by
 have key : ∀ (r : List (Int × Int)), (∀ p ∈ r, ∀ q ∈ r, p.1 = q.1 → p.2 = q.2) → ∀ p ∈ r, ofF r.reverse p.1 = some p.2 := by
  intro r
  induction r with
  | nil => intro _ p hp; cases hp
  | cons a r ih =>
   intro h p hp
   rw [List.reverse_cons, ofF_snoc]
   unfold putF
   by_cases e : p.1 = a.1
   ·rw [if_pos e, h p hp a List.mem_cons_self e]
   ·rw [if_neg e]
    rcases List.mem_cons.1 hp with q | hp
    ·subst q; exact absurd rfl e
    ·exact ih (fun x hx y hy => h x (List.mem_cons_of_mem _ hx) y (List.mem_cons_of_mem _ hy)) p hp
 intro p hp
 have q := key l.reverse (fun p hp q hq => h p (List.mem_reverse.1 hp) q (List.mem_reverse.1 hq)) p (List.mem_reverse.2 hp)
 rwa [List.reverse_reverse] at q
theorem back_at {f : Int → Int} {l : List (Int × Int)} {N : Int → Prop} (hl : ∀ p ∈ l, p.1 = f p.2 ∧ N p.2) (hf : ∀ a b, N a → N b → f a = f b → a = b) {x : Int} (hx : (f x, x) ∈ l) : nmF (ofF l) (f x) = x := by
 have q := ofF_at (fun p hp q hq e => hf _ _ (hl p hp).2 (hl q hq).2 (by rw [← (hl p hp).1, ← (hl q hq).1, e])) _ hx
 unfold nmF
 rw [q]
 rfl
def bkS (Z : List (TxnV × TxnV)) : List (Int × Int) := Z.map fun p => (p.1.s, p.2.s)
def bkT (Z : List (TxnV × TxnV)) : List (Int × Int) := Z.flatMap fun p => [(p.1.b, p.2.b), (p.1.c, p.2.c)]
def bkK (Z : List (TxnV × TxnV)) : List (Int × Int) := Z.flatMap fun p => (p.1.l.zip p.2.l).map fun q => (q.1.key, q.2.key)
def bkV (Z : List (TxnV × TxnV)) : List (Int × Int) := Z.flatMap fun p => (p.1.l.zip p.2.l).map fun q => (q.1.val, q.2.val)
def ixM (L : List Int) (n : Nat) : List Nat := (List.range n).map (ixO L)
def bkO (L : List Int) (n k : Nat) : List Int := (List.range n).map fun i => if (ixM L n).idxOf i < k then (((ixM L n).idxOf i : Nat) : Int) else 0
theorem bkO_len (L : List Int) (n k : Nat) : (bkO L n k).length = n := by simp [bkO]
theorem bkO_get {L : List Int} {n k i : Nat} (hi : i < n) (h : i < (bkO L n k).length) : (bkO L n k)[i] = if (ixM L n).idxOf i < k then (((ixM L n).idxOf i : Nat) : Int) else 0 := by
 rw [List.getElem_eq_iff]
 unfold bkO
 rw [List.getElem?_map, List.getElem?_range hi]
 rfl
theorem namL_get {f τ κ ν : Int → Int} {L : List Int} {h : List TxnV} {i : Nat} (hi : i < h.length) (h1 : i < (namL f τ κ ν L h).length) : (namL f τ κ ν L h)[i] = renE f τ κ ν ((h.map txE).getD (ixO L i) (0, 0, 0, [])) := by
 rw [List.getElem_eq_iff]
 unfold namL
 rw [List.getElem?_map, List.getElem?_range hi]
 rfl
theorem nodup_inj {α : Type} {l : List α} (h : l.Nodup) {i j : Nat} (hi : i < l.length) (hj : j < l.length) (e : l[i] = l[j]) : i = j := by
 rcases Nat.lt_trichotomy i j with q | q | q
 ·exact absurd e (List.pairwise_iff_getElem.1 h i j hi hj q)
 ·exact q
 ·exact absurd e.symm (List.pairwise_iff_getElem.1 h j i hj hi q)
section
variable {L : List Int} {n : Nat}
theorem ixM_nodup (hw : wholeP L n) : (ixM L n).Nodup := (ix_perm hw).nodup_iff.2 List.nodup_range
theorem ixM_idx (hw : wholeP L n) {k : Nat} (hk : k < n) : (ixM L n).idxOf (ixO L k) = k := by
 have hl : (ixM L n).length = n := by simp [ixM]
 have hm : ixO L k ∈ ixM L n := List.mem_map_of_mem (List.mem_range.2 hk)
 have h1 := List.idxOf_lt_length_of_mem hm
 have h2 : (ixM L n)[(ixM L n).idxOf (ixO L k)]'h1 = ixO L k := List.getElem_idxOf h1
 have h3 : (ixM L n)[k]'(by omega) = ixO L k := by simp [ixM]
 exact nodup_inj (ixM_nodup hw) _ _ (h2.trans h3.symm)
theorem ixO_lt (hw : wholeP L n) {k : Nat} (hk : k < n) : ixO L k < n := List.mem_range.1 ((ix_perm hw).mem_iff.1 (List.mem_map_of_mem (List.mem_range.2 hk)))
theorem ixO_of (hw : wholeP L n) {i : Nat} (hi : i < n) : ∃ k, k < n ∧ ixO L k = i := by
 obtain ⟨k, hk, e⟩ := List.mem_map.1 ((ix_perm hw).mem_iff.2 (List.mem_range.2 hi))
 exact ⟨k, List.mem_range.1 hk, e⟩
theorem bkO_zero : bkO L n 0 = List.replicate n 0 := by
 refine List.ext_getElem (by rw [bkO_len, List.length_replicate]) fun i h1 h2 => ?_
 simp [bkO]
theorem bkO_succ (hw : wholeP L n) {k : Nat} (hk : k < n) : bkO L n (k + 1) = (bkO L n k).set (ixO L k) (k : Int) := by
 refine List.ext_getElem (by rw [List.length_set, bkO_len, bkO_len]) fun i h1 h2 => ?_
 have hi : i < n := by rw [bkO_len] at h1; exact h1
 obtain ⟨j, hj, e⟩ := ixO_of hw hi
 rw [List.getElem_set, bkO_get hi, bkO_get hi]
 have hx : (ixM L n).idxOf i = j := by rw [← e]; exact ixM_idx hw hj
 rw [hx]
 by_cases q : ixO L k = i
 ·have : j = k := by rw [← hx, ← q]; exact ixM_idx hw hk
  rw [if_pos q, if_pos (by omega), this]
 ·have : j ≠ k := fun e2 => q (by rw [← e, e2])
  rw [if_neg q]
  by_cases q2 : j < k
  ·rw [if_pos q2, if_pos (by omega)]
  ·rw [if_neg q2, if_neg (by omega)]
theorem bkO_at (hw : wholeP L n) {k : Nat} (hk : k < n) : (bkO L n n)[ixO L k]'(by rw [bkO_len]; exact ixO_lt hw hk) = (k : Int) := by
 rw [bkO_get (ixO_lt hw hk), ixM_idx hw hk, if_pos hk]
theorem bkO_whole (hw : wholeP L n) : wholeP (bkO L n n) n := by
 refine .inr ⟨bkO_len .., ?_⟩
 have hp : (bkO L n n).Perm ((List.range n).map Int.ofNat) := by
  have h1 : (ixM L n).map (fun i => if (ixM L n).idxOf i < n then (((ixM L n).idxOf i : Nat) : Int) else 0) = (List.range n).map Int.ofNat := by
   unfold ixM
   rw [List.map_map]
   refine List.map_congr_left fun k hk => ?_
   have hk := List.mem_range.1 hk
   show (if (ixM L n).idxOf (ixO L k) < n then (((ixM L n).idxOf (ixO L k) : Nat) : Int) else 0) = Int.ofNat k
   rw [ixM_idx hw hk, if_pos hk]
   rfl
  rw [← h1]
  exact ((ix_perm hw).symm.map _)
 have h2 : srtI (bkO L n n) = (List.range n).map Int.ofNat := by
  refine List.Perm.eq_of_pairwise (le := fun x y : Int => decide (x ≤ y) = true) (fun a b _ _ h1 h2 => by simp at h1 h2; omega) (List.pairwise_mergeSort (le := fun x y : Int => decide (x ≤ y)) (fun a b c h1 h2 => by simp at h1 h2 ⊢; omega) (fun a b => by simp; omega) _) ?_ ((List.mergeSort_perm _ _).trans hp)
  rw [List.pairwise_map]
  exact List.pairwise_lt_range.imp fun h => by simp; omega
 intro k hk
 have hk2 : k < n := by rw [h2] at hk; simpa using hk
 simp only [h2]
 rw [List.getElem_map, List.getElem_range]
 rfl
end
section
variable {f τ κ ν : Int → Int} {c g : List TxnV}
theorem zip_ren (he : c.map txE = (g.map txE).map (renE f τ κ ν)) : ∀ p ∈ c.zip g, txE p.1 = renE f τ κ ν (txE p.2) ∧ p.2 ∈ g := by
 intro p hp
 obtain ⟨i, hi, rfl⟩ := List.getElem_of_mem hp
 rw [List.length_zip] at hi
 rw [List.getElem_zip]
 have q := List.getElem_of_eq he (i := i) (by rw [List.length_map]; omega)
 rw [List.getElem_map, List.getElem_map, List.getElem_map] at q
 exact ⟨q, List.getElem_mem _⟩
theorem ren_len (he : c.map txE = (g.map txE).map (renE f τ κ ν)) : c.length = g.length := by simpa using congrArg List.length he
theorem ren_s {t u : TxnV} (q : txE t = renE f τ κ ν (txE u)) : t.s = f u.s ∧ t.b = τ u.b ∧ t.c = τ u.c ∧ t.l = u.l.map (renO κ ν) := by
 simp only [txE, renE, Prod.mk.injEq] at q
 exact q
theorem zip_has (he : c.map txE = (g.map txE).map (renE f τ κ ν)) {u : TxnV} (hu : u ∈ g) : ∃ t, (t, u) ∈ c.zip g := by
 obtain ⟨i, hi, rfl⟩ := List.getElem_of_mem hu
 have hl := ren_len he
 refine ⟨c[i]'(by omega), ?_⟩
 have : (c.zip g)[i]'(by rw [List.length_zip]; omega) = (c[i]'(by omega), g[i]) := List.getElem_zip ..
 rw [← this]
 exact List.getElem_mem _
theorem zip_map {α β : Type} (F : α → β) : ∀ (l : List α), (l.map F).zip l = l.map fun o => (F o, o)
 | [] => rfl
 | a :: l => by rw [List.map_cons, List.zip_cons_cons, zip_map F l, List.map_cons]
theorem bkS_back (he : c.map txE = (g.map txE).map (renE f τ κ ν)) (hf : ∀ t ∈ g, ∀ u ∈ g, f t.s = f u.s → t.s = u.s) : ∀ u ∈ g, nmF (ofF (bkS (c.zip g))) (f u.s) = u.s := fun u hu => by
 obtain ⟨t, ht⟩ := zip_has he hu
 refine back_at (f := f) (N := fun x => ∃ u ∈ g, u.s = x) (fun p hp => ?_) (fun a b ⟨t, ht, e1⟩ ⟨u, hu, e2⟩ e => ?_) ?_
 ·obtain ⟨q, hq, rfl⟩ := List.mem_map.1 hp
  obtain ⟨h1, h2⟩ := zip_ren he q hq
  exact ⟨(ren_s h1).1, q.2, h2, rfl⟩
 ·subst e1; subst e2; exact hf t ht u hu e
 ·have h1 := (ren_s (zip_ren he _ ht).1).1
  have h2 : ((t, u).1.s, (t, u).2.s) ∈ bkS (c.zip g) := List.mem_map_of_mem ht
  rwa [h1] at h2
theorem bkT_back (he : c.map txE = (g.map txE).map (renE f τ κ ν)) (hτ : ∀ a ∈ stL g, ∀ b ∈ stL g, τ a = τ b → a = b) : ∀ a ∈ stL g, nmF (ofF (bkT (c.zip g))) (τ a) = a := fun a ha => by
 refine back_at (f := τ) (N := fun x => x ∈ stL g) (fun p hp => ?_) (fun a b h1 h2 e => hτ a h1 b h2 e) ?_
 ·obtain ⟨q, hq, hp⟩ := List.mem_flatMap.1 hp
  obtain ⟨h1, h2⟩ := zip_ren he q hq
  have h3 := ren_s h1
  simp only [List.mem_cons, List.not_mem_nil, or_false] at hp
  rcases hp with rfl | rfl
  ·exact ⟨h3.2.1, List.mem_flatMap.2 ⟨q.2, h2, by simp⟩⟩
  ·exact ⟨h3.2.2.1, List.mem_flatMap.2 ⟨q.2, h2, by simp⟩⟩
 ·obtain ⟨u, hu, hm⟩ := List.mem_flatMap.1 ha
  obtain ⟨t, ht⟩ := zip_has he hu
  have h3 := ren_s (zip_ren he _ ht).1
  refine List.mem_flatMap.2 ⟨(t, u), ht, ?_⟩
  simp only [List.mem_cons, List.not_mem_nil, or_false] at hm ⊢
  rcases hm with rfl | rfl
  ·exact .inl (by rw [h3.2.1])
  ·exact .inr (by rw [h3.2.2.1])
theorem bk_mem {F : OpV → Int} {φ : Int → Int} (hF : ∀ o, F (renO κ ν o) = φ (F o)) (he : c.map txE = (g.map txE).map (renE f τ κ ν)) (p : Int × Int) :
  p ∈ ((c.zip g).flatMap fun p => (p.1.l.zip p.2.l).map fun q => (F q.1, F q.2)) ↔ ∃ u ∈ g, ∃ o ∈ u.l, p = (φ (F o), F o) := by
 rw [List.mem_flatMap]
 constructor
 ·rintro ⟨q, hq, hp⟩
  obtain ⟨h1, h2⟩ := zip_ren he q hq
  rw [(ren_s h1).2.2.2, zip_map, List.map_map] at hp
  obtain ⟨o, ho, rfl⟩ := List.mem_map.1 hp
  exact ⟨q.2, h2, o, ho, by show (F (renO κ ν o), F o) = _; rw [hF]⟩
 ·rintro ⟨u, hu, o, ho, rfl⟩
  obtain ⟨t, ht⟩ := zip_has he hu
  refine ⟨(t, u), ht, ?_⟩
  have h3 : t.l = u.l.map (renO κ ν) := (ren_s (zip_ren he _ ht).1).2.2.2
  show _ ∈ (t.l.zip u.l).map _
  rw [h3, zip_map, List.map_map]
  exact List.mem_map.2 ⟨o, ho, by show (F (renO κ ν o), F o) = _; rw [hF]⟩
theorem bkK_back (he : c.map txE = (g.map txE).map (renE f τ κ ν)) (hκ : ∀ a b, KeyIn g a → KeyIn g b → κ a = κ b → a = b) : ∀ a, KeyIn g a → nmF (ofF (bkK (c.zip g))) (κ a) = a := fun a ⟨u, hu, o, ho, e⟩ => by
 have key := fun p => bk_mem (F := OpV.key) (φ := κ) (fun _ => rfl) he p
 refine back_at (f := κ) (N := KeyIn g) (fun p hp => ?_) hκ ((key _).2 ⟨u, hu, o, ho, by rw [e]⟩)
 obtain ⟨u, hu, o, ho, rfl⟩ := (key p).1 hp
 exact ⟨rfl, u, hu, o, ho, rfl⟩
theorem bkV_back (he : c.map txE = (g.map txE).map (renE f τ κ ν)) (hν : ∀ a b, ValIn g a → ValIn g b → ν a = ν b → a = b) (h0 : ν 0 = 0) : ∀ a, ValIn g a → nmF (delF (ofF (bkV (c.zip g))) 0) (ν a) = a := fun a ha => by
 by_cases e0 : ν a = 0
 ·have : a = 0 := hν a 0 ha (.inl rfl) (by rw [e0, h0])
  rw [this, h0, nmF_del0]
 have key := fun p => bk_mem (F := OpV.val) (φ := ν) (fun _ => rfl) he p
 have hd : nmF (delF (ofF (bkV (c.zip g))) 0) (ν a) = nmF (ofF (bkV (c.zip g))) (ν a) := by unfold nmF delF; rw [if_neg e0]
 rw [hd]
 rcases ha with rfl | ⟨u, hu, o, ho, e⟩
 ·exact absurd h0 e0
 refine back_at (f := ν) (N := ValIn g) (fun p hp => ?_) hν ((key _).2 ⟨u, hu, o, ho, by rw [e]⟩)
 obtain ⟨u, hu, o, ho, rfl⟩ := (key p).1 hp
 exact ⟨rfl, .inr ⟨u, hu, o, ho, rfl⟩⟩
end
section
variable {FK FS FV FT : Int → Option Int} {L : List Int} {h c : List TxnV}
theorem turnL_len (L : List Int) (h : List TxnV) : (turnL L h).length = h.length := by simp [turnL]
theorem turnL_at (hw : wholeP L h.length) {k : Nat} (hk : k < h.length) : (turnL L h)[k]'(by rw [turnL_len]; exact hk) = h[ixO L k]'(ixO_lt hw hk) := by
 unfold turnL
 rw [List.getElem_map, List.getElem_range, List.getD_eq_getElem?_getD, List.getElem?_eq_getElem (ixO_lt hw hk)]
 rfl
theorem back_app (ha : appP FK FS FV FT L h) (e : c.map txE = namL (nmF FS) (nmF FT) (nmF FK) (nmF (delF FV 0)) L h) (h0 : 0 < h.length) :
  appP (ofF (bkK (c.zip (turnL L h)))) (ofF (bkS (c.zip (turnL L h)))) (ofF (bkV (c.zip (turnL L h)))) (ofF (bkT (c.zip (turnL L h)))) (bkO L h.length h.length) c ∧
  namL (nmF (ofF (bkS (c.zip (turnL L h))))) (nmF (ofF (bkT (c.zip (turnL L h))))) (nmF (ofF (bkK (c.zip (turnL L h))))) (nmF (delF (ofF (bkV (c.zip (turnL L h)))) 0)) (bkO L h.length h.length) c = h.map txE := by
 have hw := ha.2.1
 have hp := turnL_perm hw
 have he : c.map txE = ((turnL L h).map txE).map (renE (nmF FS) (nmF FT) (nmF FK) (nmF (delF FV 0))) := e.trans (namL_turn _ _ _ _ _ _)
 have hcl : c.length = h.length := by rw [ren_len he, turnL_len]
 have hcc := app_check ha e
 have hst : ∀ a, a ∈ stL (turnL L h) ↔ a ∈ stL h := fun a => (hp.flatMap_right _).mem_iff
 have hlt := app_st ha
 have hiτ : ∀ a ∈ stL h, ∀ b ∈ stL h, nmF FT a = nmF FT b → a = b := fun a h1 b h2 q => by
  rcases Int.lt_trichotomy a b with r | r | r
  ·have := hlt a h1 b h2 r; omega
  ·exact r
  ·have := hlt b h2 a h1 r; omega
 have BS := bkS_back he (fun t ht u hu => app_ses ha t (hp.mem_iff.1 ht) u (hp.mem_iff.1 hu))
 have BT := bkT_back he (fun a h1 b h2 => hiτ a ((hst a).1 h1) b ((hst b).1 h2))
 have BK := bkK_back he (fun a b h1 h2 => app_key ha a b (h1.perm hp.symm) (h2.perm hp.symm))
 have BV := bkV_back he (fun a b h1 h2 => app_val ha a b (h1.perm hp.symm) (h2.perm hp.symm)) (nmF_del0 FV)
 generalize ofF (bkK (c.zip (turnL L h))) = GK at *
 generalize ofF (bkS (c.zip (turnL L h))) = GS at *
 generalize ofF (bkV (c.zip (turnL L h))) = GV at *
 generalize ofF (bkT (c.zip (turnL L h))) = GT at *
 have hne : bkO L h.length h.length ≠ [] := fun q => by have := bkO_len L h.length h.length; rw [q] at this; simp at this; omega
 have hnam : namL (nmF GS) (nmF GT) (nmF GK) (nmF (delF GV 0)) (bkO L h.length h.length) c = h.map txE := by
  refine List.ext_getElem (by rw [namL_len, List.length_map, hcl]) fun i h1 h2 => ?_
  have hi : i < h.length := by simpa using h2
  obtain ⟨k, hk, ek⟩ := ixO_of hw hi
  have hx : ixO (bkO L h.length h.length) i = k := by
   unfold ixO
   rw [if_neg hne, List.getD_eq_getElem?_getD, List.getElem?_eq_getElem (by rw [bkO_len]; exact hi)]
   have q := bkO_at hw hk
   simp only [ek] at q
   rw [q]
   rfl
  rw [namL_get (by omega), hx, List.getD_eq_getElem?_getD, List.getElem?_map, List.getElem?_eq_getElem (by omega), List.getElem_map]
  have q := List.getElem_of_eq he (i := k) (by rw [List.length_map]; omega)
  rw [List.getElem_map, List.getElem_map, List.getElem_map, turnL_at hw hk] at q
  show renE _ _ _ _ (txE c[k]) = _
  rw [q]
  simp only [ek]
  have hu : h[i] ∈ turnL L h := hp.mem_iff.2 (List.getElem_mem hi)
  generalize h[i] = u at *
  show (nmF GS (nmF FS u.s), nmF GT (nmF FT u.b), nmF GT (nmF FT u.c), (u.l.map (renO (nmF FK) (nmF (delF FV 0)))).map (renO (nmF GK) (nmF (delF GV 0)))) = (u.s, u.b, u.c, u.l)
  rw [BS u hu, BT u.b (List.mem_flatMap.2 ⟨u, hu, by simp⟩), BT u.c (List.mem_flatMap.2 ⟨u, hu, by simp⟩), List.map_map]
  congr 3
  conv => rhs; rw [← List.map_id u.l]
  refine List.map_congr_left fun o ho => ?_
  show (⟨o.wr, nmF GK (nmF FK o.key), nmF (delF GV 0) (nmF (delF FV 0) o.val)⟩ : OpV) = o
  rw [BK o.key ⟨u, hu, o, ho, rfl⟩, BV o.val (.inr ⟨u, hu, o, ho, rfl⟩)]
 refine ⟨⟨hcc, ?_, ⟨?_, ?_, ?_, ?_⟩, ?_⟩, hnam⟩
 ·rw [hcl]; exact bkO_whole hw
 ·intro a ha' b hb' q
  have key : ∀ a ∈ keyE (c.map txE), ∃ x, KeyIn (turnL L h) x ∧ a = nmF FK x := fun a ha => by
   rw [he] at ha
   obtain ⟨E, hE, hm⟩ := List.mem_flatMap.1 ha
   rw [List.map_map] at hE
   obtain ⟨u, hu, rfl⟩ := List.mem_map.1 hE
   obtain ⟨o, ho, rfl⟩ := List.mem_map.1 hm
   obtain ⟨o', ho', rfl⟩ := List.mem_map.1 ho
   exact ⟨o'.key, ⟨u, hu, o', ho', rfl⟩, rfl⟩
  obtain ⟨x, hx, rfl⟩ := key a ha'
  obtain ⟨y, hy, rfl⟩ := key b hb'
  rw [BK x hx, BK y hy] at q
  rw [q]
 ·intro a ha' b hb' q
  have key : ∀ a ∈ sesE (c.map txE), ∃ u ∈ turnL L h, a = nmF FS u.s := fun a ha => by
   rw [he] at ha
   obtain ⟨E, hE, rfl⟩ := List.mem_map.1 ha
   rw [List.map_map] at hE
   obtain ⟨u, hu, rfl⟩ := List.mem_map.1 hE
   exact ⟨u, hu, rfl⟩
  obtain ⟨x, hx, rfl⟩ := key a ha'
  obtain ⟨y, hy, rfl⟩ := key b hb'
  rw [BS x hx, BS y hy] at q
  rw [q]
 ·intro a ha' b hb' q
  have key : ∀ a ∈ valA (c.map txE), ∃ x, ValIn (turnL L h) x ∧ a = nmF (delF FV 0) x := fun a ha => by
   rw [he] at ha
   obtain ⟨E, hE, hm⟩ := List.mem_flatMap.1 ha
   rw [List.map_map] at hE
   obtain ⟨u, hu, rfl⟩ := List.mem_map.1 hE
   obtain ⟨o, ho, rfl⟩ := List.mem_map.1 hm
   obtain ⟨o', ho', rfl⟩ := List.mem_map.1 ho
   exact ⟨o'.val, .inr ⟨u, hu, o', ho', rfl⟩, rfl⟩
  obtain ⟨x, hx, rfl⟩ := key a ha'
  obtain ⟨y, hy, rfl⟩ := key b hb'
  rw [BV x hx, BV y hy] at q
  rw [q]
 ·have hnd : (stL c).Nodup := of_decide_eq_true (check_rightB hcc).2.2.1
  have hps : (srtI (stL c)).Perm (stL c) := List.mergeSort_perm _ _
  have hsrt : (srtI (stL c)).Pairwise fun x y => decide (x ≤ y) = true := List.pairwise_mergeSort (le := fun x y : Int => decide (x ≤ y)) (fun a b c h1 h2 => by simp at h1 h2 ⊢; omega) (fun a b => by simp; omega) _
  have hnd2 := hps.nodup_iff.2 hnd
  have key : ∀ a ∈ stL c, ∃ x ∈ stL h, a = nmF FT x := fun a ha => by
   rw [← stE_txE, he] at ha
   obtain ⟨E, hE, hm⟩ := List.mem_flatMap.1 ha
   rw [List.map_map] at hE
   obtain ⟨u, hu, rfl⟩ := List.mem_map.1 hE
   have hu := hp.mem_iff.1 hu
   simp only [List.mem_cons, List.not_mem_nil, or_false] at hm
   rcases hm with rfl | rfl
   ·exact ⟨u.b, List.mem_flatMap.2 ⟨u, hu, by simp⟩, rfl⟩
   ·exact ⟨u.c, List.mem_flatMap.2 ⟨u, hu, by simp⟩, rfl⟩
  intro m hm
  obtain ⟨x, hx, ex⟩ := key _ (hps.mem_iff.1 (List.getElem_mem (Nat.lt_of_succ_lt hm)))
  obtain ⟨y, hy, ey⟩ := key _ (hps.mem_iff.1 (List.getElem_mem hm))
  have h1 := (List.pairwise_iff_getElem.1 hsrt) m (m + 1) (Nat.lt_of_succ_lt hm) hm (Nat.lt_succ_self m)
  have h2 : (srtI (stL c))[m]'(Nat.lt_of_succ_lt hm) ≠ (srtI (stL c))[m + 1] := fun q => by
   have := nodup_inj hnd2 _ _ q
   omega
  simp only [decide_eq_true_eq] at h1
  rw [ex, ey] at h1 h2
  rw [ex, ey, BT x ((hst x).2 hx), BT y ((hst y).2 hy)]
  rcases Int.lt_trichotomy x y with r | r | r
  ·exact r
  ·exact absurd (by rw [r]) h2
  ·have := hlt y hy x hx r; omega
 ·rw [hnam]
  rw [checkI_txE (h := h) (by rw [tx0_txE])]
  exact ha.1
end
end

section
open Go.RowKit
def PrO (w : World) (b : Nat) (v : Value) (L : List (Int × Int)) : Prop := w.ownsRow b 40 2 v L.length (frV L)
theorem PrO.below {w w' : World} {b : Nat} {v : Value} {L : List (Int × Int)} (h : PrO w b v L) (hb : Below w.heap.size w w') : PrO w' b v L := owns_below h hb
theorem PrO.box {w w' : World} {b p : Nat} {v : Value} {L : List (Int × Int)} {t : TypeId} {cs : Array Value} (h : PrO w b v L) (k : BoxN w p t cs) (hne : 40 ≠ t) (hg : w.grownBy w' (some p)) : PrO w' b v L := World.ownsRow.kept h hg (owns_no_box h k hne)
theorem PrO.nil (w : World) (b : Nat) : PrO w b (.slice none 0 0) [] := ⟨rfl, .inl ⟨rfl, rfl⟩⟩
theorem PrO.prn {w : World} {b : Nat} {v : Value} {L : List (Int × Int)} (h : PrO w b v L) : PrN w v L := Row.of_owns h
structure R4P (w : World) (b : Nat) (v0 v1 v2 v3 : Value) (L0 L1 L2 L3 : List (Int × Int)) : Prop where
 o0 : PrO w b v0 L0
 o1 : PrO w b v1 L1
 o2 : PrO w b v2 L2
 o3 : PrO w b v3 L3
 a01 : Ap v0 v1
 a02 : Ap v0 v2
 a03 : Ap v0 v3
 a12 : Ap v1 v2
 a13 : Ap v1 v3
 a23 : Ap v2 v3
section
variable {w w' : World} {b : Nat} {v0 v1 v2 v3 : Value} {L0 L1 L2 L3 : List (Int × Int)}
theorem R4P.below (h : R4P w b v0 v1 v2 v3 L0 L1 L2 L3) (hb : Below w.heap.size w w') : R4P w' b v0 v1 v2 v3 L0 L1 L2 L3 := ⟨h.o0.below hb, h.o1.below hb, h.o2.below hb, h.o3.below hb, h.a01, h.a02, h.a03, h.a12, h.a13, h.a23⟩
theorem R4P.box {p : Nat} {t : TypeId} {cs : Array Value} (h : R4P w b v0 v1 v2 v3 L0 L1 L2 L3) (k : BoxN w p t cs) (hne : 40 ≠ t) (hg : w.grownBy w' (some p)) : R4P w' b v0 v1 v2 v3 L0 L1 L2 L3 := ⟨h.o0.box k hne hg, h.o1.box k hne hg, h.o2.box k hne hg, h.o3.box k hne hg, h.a01, h.a02, h.a03, h.a12, h.a13, h.a23⟩
theorem PrO.far {v u : Value} {L : List (Int × Int)} (h : PrO w b u L) (hg : w.grownBy w' v.ownBlock) (ha : Ap v u) : PrO w' b u L := World.ownsRow.kept h hg ha.no
theorem R4P.app0 {g n cap : Nat} {M : List (Int × Int)} (h : R4P w b v0 v1 v2 v3 L0 L1 L2 L3) (ho : PrO w' b (.slice (some ⟨g, 0, none⟩) n cap) M) (hg : w.grownBy w' v0.ownBlock) (hl : v0.ownBlock = some g ∨ g = w.heap.size) : R4P w' b (.slice (some ⟨g, 0, none⟩) n cap) v1 v2 v3 M L1 L2 L3 :=
 ⟨ho, h.o1.far hg h.a01, h.o2.far hg h.a02, h.o3.far hg h.a03, h.a01.new h.o1 hl, h.a02.new h.o2 hl, h.a03.new h.o3 hl, h.a12, h.a13, h.a23⟩
theorem R4P.app1 {g n cap : Nat} {M : List (Int × Int)} (h : R4P w b v0 v1 v2 v3 L0 L1 L2 L3) (ho : PrO w' b (.slice (some ⟨g, 0, none⟩) n cap) M) (hg : w.grownBy w' v1.ownBlock) (hl : v1.ownBlock = some g ∨ g = w.heap.size) : R4P w' b v0 (.slice (some ⟨g, 0, none⟩) n cap) v2 v3 L0 M L2 L3 :=
 ⟨h.o0.far hg h.a01.symm, ho, h.o2.far hg h.a12, h.o3.far hg h.a13, (h.a01.symm.new h.o0 hl).symm, h.a02, h.a03, h.a12.new h.o2 hl, h.a13.new h.o3 hl, h.a23⟩
theorem R4P.app2 {g n cap : Nat} {M : List (Int × Int)} (h : R4P w b v0 v1 v2 v3 L0 L1 L2 L3) (ho : PrO w' b (.slice (some ⟨g, 0, none⟩) n cap) M) (hg : w.grownBy w' v2.ownBlock) (hl : v2.ownBlock = some g ∨ g = w.heap.size) : R4P w' b v0 v1 (.slice (some ⟨g, 0, none⟩) n cap) v3 L0 L1 M L3 :=
 ⟨h.o0.far hg h.a02.symm, h.o1.far hg h.a12.symm, ho, h.o3.far hg h.a23, h.a01, (h.a02.symm.new h.o0 hl).symm, h.a03, (h.a12.symm.new h.o1 hl).symm, h.a13, h.a23.new h.o3 hl⟩
theorem R4P.app3 {g n cap : Nat} {M : List (Int × Int)} (h : R4P w b v0 v1 v2 v3 L0 L1 L2 L3) (ho : PrO w' b (.slice (some ⟨g, 0, none⟩) n cap) M) (hg : w.grownBy w' v3.ownBlock) (hl : v3.ownBlock = some g ∨ g = w.heap.size) : R4P w' b v0 v1 v2 (.slice (some ⟨g, 0, none⟩) n cap) L0 L1 L2 M :=
 ⟨h.o0.far hg h.a03.symm, h.o1.far hg h.a13.symm, h.o2.far hg h.a23.symm, ho, h.a01, h.a02, (h.a03.symm.new h.o0 hl).symm, h.a12, (h.a13.symm.new h.o1 hl).symm, (h.a23.symm.new h.o2 hl).symm⟩
theorem R4P.nil (w : World) (b : Nat) : R4P w b (.slice none 0 0) (.slice none 0 0) (.slice none 0 0) (.slice none 0 0) [] [] [] [] :=
 ⟨PrO.nil _ _, PrO.nil _ _, PrO.nil _ _, PrO.nil _ _, fun _ e => (by cases e), fun _ e => (by cases e), fun _ e => (by cases e), fun _ e => (by cases e), fun _ e => (by cases e), fun _ e => (by cases e)⟩
end
def kbO (F : OpV → Int) (p : TxnV × TxnV) : List (Int × Int) := (p.1.l.zip p.2.l).map fun q => (F q.1, F q.2)
def kbT (F : OpV → Int) (Z : List (TxnV × TxnV)) (k j : Nat) : List (Int × Int) := (Z.take k).flatMap (kbO F) ++ (((Z[k]?.map (kbO F)).getD []).take j)
theorem kbT_zero (F : OpV → Int) (Z : List (TxnV × TxnV)) : kbT F Z 0 0 = [] := by unfold kbT; simp
theorem kbT_all (F : OpV → Int) (Z : List (TxnV × TxnV)) : kbT F Z Z.length 0 = Z.flatMap (kbO F) := by unfold kbT; simp
theorem kbT_succ {F : OpV → Int} {Z : List (TxnV × TxnV)} {k j : Nat} (hk : k < Z.length) (h1 : j < Z[k].1.l.length) (h2 : j < Z[k].2.l.length) : kbT F Z k (j + 1) = kbT F Z k j ++ [(F Z[k].1.l[j], F Z[k].2.l[j])] := by
 unfold kbT
 rw [List.getElem?_eq_getElem hk, List.append_assoc]
 congr 1
 show ((kbO F Z[k]).take (j + 1)) = (kbO F Z[k]).take j ++ _
 have hl : j < (kbO F Z[k]).length := by unfold kbO; rw [List.length_map, List.length_zip]; omega
 rw [List.take_succ_eq_append_getElem hl]
 congr 2
 rw [List.getElem_eq_iff]
 unfold kbO
 rw [List.getElem?_map, List.getElem?_eq_getElem (by rw [List.length_zip]; omega), List.getElem_zip]
 rfl
theorem kbT_done {F : OpV → Int} {Z : List (TxnV × TxnV)} {k : Nat} (hk : k < Z.length) (h1 : Z[k].1.l.length = Z[k].2.l.length) : kbT F Z k Z[k].1.l.length = kbT F Z (k + 1) 0 := by
 unfold kbT
 rw [List.getElem?_eq_getElem hk, List.take_succ_eq_append_getElem hk, List.flatMap_append, List.take_zero, List.append_nil, List.flatMap_singleton]
 congr 1
 show (kbO F Z[k]).take _ = _
 refine List.take_of_length_le ?_
 unfold kbO
 rw [List.length_map, List.length_zip]
 omega
theorem kb_flat (F : OpV → Int) : ∀ (c g : List TxnV), ((c.zip g).flatMap (kbO F)).length ≤ opsN c
 | [], g => by simp
 | a :: c, [] => by simp
 | a :: c, b :: g => by
  have ih := kb_flat F c g
  rw [List.zip_cons_cons, List.flatMap_cons, List.length_append]
  have h1 : (kbO F (a, b)).length ≤ a.l.length := by unfold kbO; rw [List.length_map, List.length_zip]; exact Nat.min_le_left _ _
  have h2 : opsN (a :: c) = a.l.length + opsN c := by unfold opsN; simp
  omega
theorem kbT_pre (F : OpV → Int) (Z : List (TxnV × TxnV)) (k j : Nat) : kbT F Z k j <+: Z.flatMap (kbO F) := by
 unfold kbT
 conv => rhs; rw [← List.take_append_drop k Z]
 rw [List.flatMap_append]
 refine (List.prefix_append_right_inj _).2 ?_
 rcases Nat.lt_or_ge k Z.length with h | h
 ·rw [List.getElem?_eq_getElem h, List.drop_eq_getElem_cons h, List.flatMap_cons]
  exact (List.take_prefix _ _).trans (List.prefix_append _ _)
 ·rw [List.getElem?_eq_none h]
  simp
theorem kbT_len (F : OpV → Int) (c g : List TxnV) (k j : Nat) : (kbT F (c.zip g) k j).length ≤ opsN c := Nat.le_trans (kbT_pre F _ k j).length_le (kb_flat F c g)
theorem bkS_succ {Z : List (TxnV × TxnV)} {k : Nat} (hk : k < Z.length) : bkS (Z.take (k + 1)) = bkS (Z.take k) ++ [(Z[k].1.s, Z[k].2.s)] := by unfold bkS; rw [List.take_succ_eq_append_getElem hk, List.map_append]; rfl
theorem bkT_succ {Z : List (TxnV × TxnV)} {k : Nat} (hk : k < Z.length) : bkT (Z.take (k + 1)) = bkT (Z.take k) ++ [(Z[k].1.b, Z[k].2.b), (Z[k].1.c, Z[k].2.c)] := by unfold bkT; rw [List.take_succ_eq_append_getElem hk, List.flatMap_append, List.flatMap_singleton]
theorem bkS_len (Z : List (TxnV × TxnV)) (k : Nat) : (bkS (Z.take k)).length ≤ Z.length := by unfold bkS; rw [List.length_map, List.length_take]; omega
theorem bkT_len (Z : List (TxnV × TxnV)) (k : Nat) : (bkT (Z.take k)).length ≤ 2 * Z.length := by
 have h : ∀ (Y : List (TxnV × TxnV)), (bkT Y).length = 2 * Y.length := fun Y => by
  induction Y with
  | nil => rfl
  | cons a Y ih => unfold bkT at ih ⊢; rw [List.flatMap_cons, List.length_append, ih, List.length_cons]; simp; omega
 rw [h, List.length_take]; omega
theorem bk_ints {c g : List TxnV} (hc : ∀ t ∈ c, t.ok) (hg : ∀ t ∈ g, t.ok) : (∀ p ∈ bkK (c.zip g), IntOk p.1 ∧ IntOk p.2) ∧ (∀ p ∈ bkS (c.zip g), IntOk p.1 ∧ IntOk p.2) ∧ (∀ p ∈ bkV (c.zip g), IntOk p.1 ∧ IntOk p.2) ∧ (∀ p ∈ bkT (c.zip g), IntOk p.1 ∧ IntOk p.2) := by
 have key : ∀ z ∈ c.zip g, z.1.ok ∧ z.2.ok := fun z hz => ⟨hc _ (List.of_mem_zip hz).1, hg _ (List.of_mem_zip hz).2⟩
 refine ⟨fun p hp => ?_, fun p hp => ?_, fun p hp => ?_, fun p hp => ?_⟩
 ·obtain ⟨z, hz, hp⟩ := List.mem_flatMap.1 hp
  obtain ⟨q, hq, rfl⟩ := List.mem_map.1 hp
  obtain ⟨k1, k2⟩ := key z hz
  obtain ⟨m1, m2⟩ := List.of_mem_zip hq
  exact ⟨(k1.2 _ m1).1, (k2.2 _ m2).1⟩
 ·obtain ⟨z, hz, rfl⟩ := List.mem_map.1 hp
  obtain ⟨k1, k2⟩ := key z hz
  exact ⟨k1.1.1, k2.1.1⟩
 ·obtain ⟨z, hz, hp⟩ := List.mem_flatMap.1 hp
  obtain ⟨q, hq, rfl⟩ := List.mem_map.1 hp
  obtain ⟨k1, k2⟩ := key z hz
  obtain ⟨m1, m2⟩ := List.of_mem_zip hq
  exact ⟨(k1.2 _ m1).2, (k2.2 _ m2).2⟩
 ·obtain ⟨z, hz, hp⟩ := List.mem_flatMap.1 hp
  obtain ⟨k1, k2⟩ := key z hz
  simp only [List.mem_cons, List.not_mem_nil, or_false] at hp
  rcases hp with rfl | rfl
  ·exact ⟨k1.1.2.1, k2.1.2.1⟩
  ·exact ⟨k1.1.2.2, k2.1.2.2⟩
theorem lit_fourR (w : World) (x y z u : Value) (t : TypeId) : ∀ j q, [x, y, z, u][j]? = some q → (w.alloc (.cells #[x, y, z, u] t)).cell? ((⟨w.heap.size, 0, none⟩ : Addr).add j) = some q := fun j q hq => by
 exact World.news_of_block (World.alloc_heap_new w _) j q hq
end

section
open Go.RowKit
theorem ok_ofI {x : Int} (h : InI x) : IntOk x := by
 have q : (Lit.int .i64 x).wf = true := h
 simp [Lit.wf, IntKind.min, IntKind.max, IntKind.signed, IntKind.bits] at q
 unfold IntOk
 omega
theorem keyE_len (h : List TxnV) : (keyE (h.map txE)).length = opsN h := by
 induction h with
 | nil => rfl
 | cons t r ih => unfold keyE opsN at *; simp only [List.map_cons, List.flatMap_cons, List.length_append, List.length_map, List.sum_cons, txE] at *; omega
def OkN (F : Int → Option Int) : Prop := ∀ x, IntOk x → IntOk (nmF F x)
theorem OkN.inF {F : Int → Option Int} (h : OkN F) : InF F := fun x hx => inI_of (h x (ok_ofI hx))
theorem OkN.del {F : Int → Option Int} (h : OkN F) (k : Int) : OkN (delF F k) := fun x hx => by
 by_cases e : x = k
 ·have q : nmF (delF F k) x = x := by unfold nmF delF; rw [if_pos e]; rfl
  rw [q]; exact hx
 ·have q : nmF (delF F k) x = nmF F x := by unfold nmF delF; rw [if_neg e]
  rw [q]; exact h x hx
set_option linter.unusedSimpArgs false in
theorem rapply_any (hv vK vS vV vT vO : Value) (FK FS FV FT : Int → Option Int) (L : List Int) (h : List TxnV) (w : World) (hN : NmA w vK vS vV vT FK FS FV FT) (hO : Ints w vO L) (hLn : L.length ≤ 100000) (hT : Txns w hv h) (hok : ∀ t ∈ h, t.ok) (hsh : Short h)
  (fk : OkN FK) (fs : OkN FS) (fv : OkN FV) (ft : OkN FT) :
  Calls Try.prog 7 #[hv, .agg #[vK, vS, vV, vT, vO]] w fun e w' => ((appP FK FS FV FT L h ∧ ∃ v, e = .returned (.tuple #[v, .bool true]) ∧ ∃ c, OwnH w' w.heap.size v c ∧ c.map txE = namL (nmF FS) (nmF FT) (nmF FK) (nmF (delF FV 0)) L h) ∨ (¬ appP FK FS FV FT L h ∧ e = .returned (.tuple #[.slice none 0 0, .bool false]))) ∧ Below w.heap.size w w' := by
 have HT := hid (fun wx (hx : Below w.heap.size w wx) => hT.below hx)
 have HN := hid (fun wx (hx : Below w.heap.size w wx) => hN.below hx)
 have CC := hid (fun wx (hx : Below w.heap.size w wx) => hcheck_any hv h wx (hT.below hx) hok hsh)
 have CW := hid (fun wx (hx : Below w.heap.size w wx) => rwhole_any vO L h.length wx (hO.below hx) hLn)
 have CM := hid (fun wx (hx : Below w.heap.size w wx) => mclone_any vV FV wx (hN.v.below hx))
 have COF := hid (fun (hc : checkI h = 0) wx (hx : Below w.heap.size w wx) => rof21_any hv h wx (hT.below hx) (checkI_right hc).1 (checkI_right hc).2.1)
 have HK : Hid (∀ u', checkI h = 0 → ∀ pk ps pv pt wx wy, Below w.heap.size w wx → NmI wx u' (delF FV 0) → Below wx.heap.size wx wy → ∀ b, R4 wy b pk ps pv pt (keyE (h.map txE)) (sesE (h.map txE)) (valA (h.map txE)) (stL h) → Calls Try.prog 16 #[.agg #[vK, vS, u', vT, vO], .agg #[pk, ps, pv, pt]] wy fun e w' => e = .returned (.bool (decide (keepP FK FS (delF FV 0) FT (keyE (h.map txE)) (sesE (h.map txE)) (valA (h.map txE)) (stL h)))) ∧ Below wy.heap.size wy w') := hid (by
  intro u' hc pk ps pv pt wx wy hx hu hxy b hR
  have hy := below_then hx hxy
  obtain ⟨h64, hop, _⟩ := checkI_right hc
  have q := hN.below hy
  have hl1 := keyE_len h
  have hl2 := valA_len h
  have hl3 : (sesE (h.map txE)).length = h.length := by unfold sesE; simp
  have hl4 := stL_len h
  have hi : ∀ t ∈ h, t.ok := hok
  refine rnkeeps_any vK vS u' vT vO pk ps pv pt FK FS (delF FV 0) FT _ _ _ _ wy ⟨q.k, q.s, hu.below hxy, q.t⟩ (by obtain ⟨a, c, e, _⟩ := hO.form; exact ⟨a, _, c, e⟩) hR.o0.ints hR.o1.ints hR.o2.ints hR.o3.ints ?_ ?_ ?_ ?_ fk.inF fs.inF (fv.del 0).inF (by omega) (by omega) (by omega) (by omega)
  ·intro x hx
   unfold keyE at hx
   obtain ⟨e, he, hx⟩ := List.mem_flatMap.1 hx
   obtain ⟨t, ht, rfl⟩ := List.mem_map.1 he
   obtain ⟨o, ho, rfl⟩ := List.mem_map.1 hx
   exact inI_of ((hok t ht).2 o ho).1
  ·intro x hx
   unfold sesE at hx
   obtain ⟨e, he, rfl⟩ := List.mem_map.1 hx
   obtain ⟨t, ht, rfl⟩ := List.mem_map.1 he
   exact inI_of (hok t ht).1.1
  ·intro x hx
   unfold valA at hx
   obtain ⟨e, he, hx⟩ := List.mem_flatMap.1 hx
   obtain ⟨t, ht, rfl⟩ := List.mem_map.1 he
   obtain ⟨o, ho, rfl⟩ := List.mem_map.1 hx
   exact inI_of ((hok t ht).2 o ho).2
  ·intro x hx
   unfold stL at hx
   obtain ⟨t, ht, hx⟩ := List.mem_flatMap.1 hx
   rcases List.mem_cons.1 hx with rfl | hx
   ·exact inI_of (hok t ht).1.2.1
   ·rw [List.mem_singleton] at hx
    subst hx
    exact inI_of (hok t ht).1.2.2)
 have HNM : Hid (∀ u', checkI h = 0 → wholeP L h.length → ∀ wx wy, Below w.heap.size w wx → NmI wx u' (delF FV 0) → Below wx.heap.size wx wy → Calls Try.prog 18 #[hv, .agg #[vK, vS, u', vT, vO]] wy fun e w' => ∃ v c, e = .returned v ∧ OwnH w' wy.heap.size v c ∧ c.map txE = namL (nmF FS) (nmF FT) (nmF FK) (nmF (delF FV 0)) L h ∧ Below wy.heap.size wy w') := hid (by
  intro u' hc hw wx wy hx hu hxy
  have hy := below_then hx hxy
  obtain ⟨h64, hop, _⟩ := checkI_right hc
  have q := hN.below hy
  exact rnamed_any hv vK vS u' vT vO FK FS (delF FV 0) FT L h wy ⟨q.k, q.s, hu.below hxy, q.t⟩ (hO.below hy) (hT.below hy) (whole_ord hw) (by omega) (fun t ht => by
   obtain ⟨⟨o1, o2, o3⟩, o4⟩ := hok t ht
   refine ⟨inI_of o1, inI_of o2, inI_of o3, ?_, fun o ho => ⟨inI_of (o4 o ho).1, inI_of (o4 o ho).2⟩⟩
   obtain ⟨i, hi, rfl⟩ := List.getElem_of_mem ht
   have h1 := opsN_take h i hi
   have h2 := opsN_le h (i + 1)
   omega))
 have HNO : Hid (wholeP L h.length → ∀ c : List TxnV, c.map txE = namL (nmF FS) (nmF FT) (nmF FK) (nmF (delF FV 0)) L h → (∀ t ∈ c, t.ok) ∧ Short c) := hid (fun hw c hce => named_ok (whole_ord hw) hce fs ft fk (fv.del 0) hok hsh)
 obtain ⟨mK, rfl⟩ := hN.k.form
 obtain ⟨mS, rfl⟩ := hN.s.form
 obtain ⟨mV, rfl⟩ := hN.v.form
 obtain ⟨mT, rfl⟩ := hN.t.form
 obtain ⟨qa, qc, rfl, _⟩ := hO.form
 obtain ⟨ao, cap, rfl, _⟩ := hT.form
 have hbx := BoxN.new w 34 #[.map mK, .map mS, .map mV, .map mT, .slice qa L.length qc]
 have hb1 := box_below w (.cells #[.map mK, .map mS, .map mV, .map mT, .slice qa L.length qc] 34)
 have hsw : w.heap.size < (w.alloc (.cells #[.map mK, .map mS, .map mV, .map mT, .slice qa L.length qc] 34)).heap.size := by simp
 clear hN hO hT hok hsh fk fs fv ft hLn
 go_enter Try.func7, Try.ntmps7
 go_upto_region 1 with fail
 generalize w.alloc (.cells #[.map mK, .map mS, .map mV, .map mT, .slice qa L.length qc] 34) = w1 at *
 have HX1 := hid hbx
 have CC1 := hid (CC.out _ hb1)
 clear hbx CC
 by_cases hc : checkI h = 0
 ·rw [hc] at CC1
  have HCC := hid hc
  have COF1 := hid (COF.out hc)
  have HK' := hid (fun u' => HK.out u' hc)
  have HNM' := hid (fun u' => HNM.out u' hc)
  clear hc COF HK HNM
  go_wp2_with fail
  refine CC1.out.mono ?_
  rintro e w2 ⟨rfl, h2⟩
  have hb2 := below_then hb1 h2
  have HX2 := hid (HX1.out.below h2)
  have y4 := HX2.out.cell (i := 4) rfl
  have CW1 := hid (CW.out _ hb2)
  obtain ⟨q, hq⟩ : ∃ q, decide (wholeP L h.length) = q := ⟨_, rfl⟩
  rw [hq] at CW1
  have HQ := hid hq
  have h12 : w1.heap.size ≤ w2.heap.size := h2.size
  clear hq CC1 HX1 CW h2
  go_wp2_with fail
  refine CW1.out.mono ?_
  rintro e w3 ⟨rfl, h3⟩
  have hb3 := below_then hb2 h3
  cases q with
  | false =>
   have HF := hid (of_decide_eq_false HQ.out)
   clear HQ
   go_wp2_with fail
   go_ret2
   exact ⟨.inr ⟨fun a => HF.out a.2.1, rfl⟩, hb3⟩
  | true =>
   have HWP := hid (of_decide_eq_true HQ.out)
   have HNM2 := hid (fun u' => HNM'.out u' HWP.out)
   have HNO := hid (HNO.out HWP.out)
   have HX3 := hid (HX2.out.below h3)
   have h13 : w.heap.size < w3.heap.size := by have := h3.size; omega
   have y2 := HX3.out.cell (i := 2) rfl
   have CM1 := hid (CM.out _ hb3)
   clear HQ CW1 HX2 y4 CM h3 HNM'
   go_wp2_with fail
   refine CM1.out.mono ?_
   rintro e w4 ⟨hcl, h4⟩
   obtain ⟨o, rfl, HQ⟩ : ∃ o, e = .returned (.map o) ∧ Hid ((o = none ∧ FV = fun _ => none) ∨ ∃ n c, o = some w3.heap.size ∧ MapI eI Try.prog 3 w4 w3.heap.size n FV c) := by
    rcases hcl with ⟨rfl, q⟩ | ⟨n, c, rfl, q⟩
    ·exact ⟨_, rfl, hid (.inl ⟨rfl, q⟩)⟩
    ·exact ⟨_, rfl, hid (.inr ⟨n, c, rfl, q⟩)⟩
   have hb4 := below_then hb3 h4
   have HX4 := hid (HX3.out.below h4)
   have z2 := HX4.out.cell (i := 2) rfl
   have zf2 := HX4.out.free 2
   clear hcl CM1 HX3 y2 h4
   go_upto_region 4 with fail
   have HX5 : Hid (BoxN (w4.setCell ⟨w.heap.size, 2, none⟩ (.map o)) w.heap.size 34 #[.map mK, .map mS, .map o, .map mT, .slice qa L.length qc]) := hid (HX4.out.set 2 (.map o))
   have hb5 := hb4.setCell (p := ⟨w.heap.size, 2, none⟩) (Nat.le_refl _) (.map o)
   have HQ5 : Hid ((o = none ∧ FV = fun _ => none) ∨ ∃ n c, o = some w3.heap.size ∧ MapI eI Try.prog 3 (w4.setCell ⟨w.heap.size, 2, none⟩ (.map o)) w3.heap.size n FV c) := hid (HQ.out.imp id (fun ⟨n, c, q1, q2⟩ => ⟨n, c, q1, q2.kept (grown_set w4 ⟨w.heap.size, 2, none⟩ (.map o)) (fun e => by injection e with e; exact absurd e (by show w3.heap.size ≠ w.heap.size; omega))⟩))
   clear HQ HX4 z2 zf2 hb4
   generalize w4.setCell ⟨w.heap.size, 2, none⟩ (.map o) = w5 at *
   have z2 := HX5.out.cell (i := 2) rfl
   go_cut [23] from 22 to 23 (fun u wx => ∃ m2 : Option Nat, Hid (NmI wx (.map m2) (delF FV 0)) ∧ Hid (BoxN wx w.heap.size 34 #[.map mK, .map mS, .map m2, .map mT, .slice qa L.length qc]) ∧ Hid (Below w.heap.size w wx))
   case first =>
    rcases HQ5.out with ⟨rfl, q⟩ | ⟨n, c, rfl, q⟩
    ·have HD : Hid (delF FV 0 = fun _ => none) := hid (by rw [q]; funext y; unfold delF; split <;> rfl)
     clear q
     go_wp2_with (first | (at_delete; refine wpList_delN _ rfl _ _ 32 3 rfl 3 keyI mapII rfl 0 rfl rfl ?_) | go_in)
     go_meet
     case rel => exact ⟨none, hid (.inl ⟨rfl, HD.out⟩), HX5, hid hb5⟩
    ·go_wp2_with (first | (at_delete; refine wpList_delI _ rfl _ _ 32 3 rfl 3 keyI mapII _ _ _ _ rfl q 0 rfl rfl ?_; intro w6 c6 hM6 hg6) | go_in)
     go_meet
     case rel => exact ⟨_, hid (.inr ⟨_, _, _, rfl, hM6⟩), hid (HX5.out.kept hg6 (fun e => by injection e with e; omega)), hid (hb5.grown hg6 hb5.size (fun k hk => by injection hk with e; omega))⟩
   case rest =>
    obtain ⟨m2, HV2, HX5, HB5⟩ := hcut
    obtain ⟨q2, hq2⟩ : ∃ q, decide (keepP FK FS (delF FV 0) FT (keyE (h.map txE)) (sesE (h.map txE)) (valA (h.map txE)) (stL h)) = q := ⟨_, rfl⟩
    have CK := hid (fun pk ps pv pt wy (hx : Below w.heap.size w wy) (hxy : Below wc.heap.size wc wy) b hR => HK'.out (.map m2) pk ps pv pt wc wy HB5.out HV2.out hxy b hR)
    rw [hq2] at CK
    have HK1 := hid (fun (e : q2 = true) => of_decide_eq_true (hq2.trans e))
    have HK0 := hid (fun (e : q2 = false) => of_decide_eq_false (hq2.trans e))
    have CN := hid (fun wy (hx : Below w.heap.size w wy) (hxy : Below wc.heap.size wc wy) => HNM2.out (.map m2) wc wy HB5.out HV2.out hxy)
    clear hq2 HK' HNM2 HV2
    go_upto_region 5 with fail
    have kd := (Below.refl wc.heap.size wc).drew
    have hb5d := HB5.out.drew
    have HX5d := hid (HX5.out.below kd)
    clear HX5 HB5
    refine wp_region_held_drew (S := fun wx => BoxN wx w.heap.size 34 #[.map mK, .map mS, .map m2, .map mT, .slice qa L.length qc]) (by kernel_rfl) HX5d.out (fun hS0 => ?_)
    generalize wc.drew = w6 at *
    refine tG (some 24) 0 ?vha0x1 rfl rfl (Or.inl ⟨by rfl, ?hha0x1⟩) hS0 ?rha0x1
    case hha0x1 => (intro w hw; have y0 := hw.cell (i := 0) rfl; have y1 := hw.cell (i := 1) rfl; have y2 := hw.cell (i := 2) rfl; have y3 := hw.cell (i := 3) rfl; have y4 := hw.cell (i := 4) rfl; go_simp; try (with_reducible rfl))
    try simp only [Act.put, zA, zB, zC]
    refine tG (some 25) 1 ?vha1x2 rfl rfl (Or.inl ⟨by rfl, ?hha1x2⟩) hS0 ?rha1x2
    case hha1x2 => (intro w hw; have y0 := hw.cell (i := 0) rfl; have y1 := hw.cell (i := 1) rfl; have y2 := hw.cell (i := 2) rfl; have y3 := hw.cell (i := 3) rfl; have y4 := hw.cell (i := 4) rfl; go_simp; try (with_reducible rfl))
    try simp only [Act.put, zA, zB, zC]
    refine rD 2 rfl (fun K hK => ?_)
    go_simp
    refine (COF1.out _ hb5d).mono ?_
    rintro e w7 ⟨⟨vk, vs, vv, vt, rfl, hR⟩, h7⟩
    have hb7 := below_then hb5d h7
    have s7 := BoxN.below hS0 h7
    have CKP := hid (CK.out vk vs vv vt w7 hb7 (below_then kd h7) _ hR)
    clear hR
    show K _ _
    refine hK.out _ _ s7 (fun _ => ?_)
    clear hK K
    refine rD 3 rfl (fun K hK => ?_)
    go_simp
    refine CKP.out.mono ?_
    rintro e w8 ⟨rfl, h8⟩
    have hb8 := below_then hb7 h8
    have hb5w := below_then (below_then kd h7) h8
    have s8 := BoxN.below s7 h8
    show K _ _
    refine hK.out _ _ s8 (fun _ => ?_)
    clear hK K
    refine tG (some 28) 4 ?vha4x5 rfl rfl (Or.inl ⟨by rfl, ?hha4x5⟩) s8 ?rha4x5
    case hha4x5 => (intro w hw; have y0 := hw.cell (i := 0) rfl; have y1 := hw.cell (i := 1) rfl; have y2 := hw.cell (i := 2) rfl; have y3 := hw.cell (i := 3) rfl; have y4 := hw.cell (i := 4) rfl; go_simp; try (with_reducible rfl))
    try simp only [Act.put, zA, zB, zC]
    refine wpAnyH_done (by kernel_rfl) ?_ _
    try simp only [Act.put]
    cases q2 with
    | false =>
     have HKF := hid (HK0.out rfl)
     clear HK0 HK1
     go_wp2_with fail
     go_ret2
     exact ⟨.inr ⟨fun a => HKF.out a.2.2.1, rfl⟩, hb8⟩
    | true =>
     have HKY := hid (HK1.out rfl)
     have HX8 := hid s8
     have CN1 := hid (CN.out w8 hb8 hb5w)
     have y0 := HX8.out.cell (i := 0) rfl; have y1 := HX8.out.cell (i := 1) rfl; have y2 := HX8.out.cell (i := 2) rfl; have y3 := HX8.out.cell (i := 3) rfl; have y4 := HX8.out.cell (i := 4) rfl
     clear s7 s8 CKP h7 h8 hb7 hb5d COF1 CK HK0 HK1 CN
     go_wp2_with fail
     refine CN1.out.mono ?_
     rintro e w9 ⟨v, c, rfl, hM, hce, h9⟩
     have hb9 := below_then hb8 h9
     have HOK := hid (HNO.out c hce)
     have CX := hid (hcheck_any v c w9 hM.txns HOK.out.1 HOK.out.2)
     have HXE : Hid (checkI c = checkI ((namL (nmF FS) (nmF FT) (nmF FK) (nmF (delF FV 0)) L h).map tx0)) := hid (checkI_txE (by rw [tx0_txE, hce]))
     rw [HXE.out] at CX
     obtain ⟨av, cv, rfl⟩ : ∃ a cp, v = .slice a c.length cp := by
      obtain ⟨a, cp, e, _⟩ := hM.txns.form
      exact ⟨a, cp, e⟩
     have HM := hid (fun wx (hx : Below w9.heap.size w9 wx) => hM.below hx)
     have HS8 := hid hb8.size
     have HCE := hid hce
     clear hM hce HOK HXE CN1 h9 HX8 y0 y1 y2 y3 y4
     by_cases hz : checkI ((namL (nmF FS) (nmF FT) (nmF FK) (nmF (delF FV 0)) L h).map tx0) = 0
     ·rw [hz] at CX
      have HZ := hid hz
      clear hz
      go_wp2_with fail
      refine CX.out.mono ?_
      rintro e w10 ⟨rfl, h10⟩
      have hb10 := below_then hb9 h10
      have hM := HM.out _ h10
      go_wp2_with fail
      go_ret2
      exact ⟨.inl ⟨⟨HCC.out, HWP.out, HKY.out, HZ.out⟩, _, rfl, c, ⟨owns_weak hM.1 HS8.out, fun t ht => owns_weak (hM.2.1 t ht) HS8.out, hM.2.2⟩, HCE.out⟩, hb10⟩
     ·have HZ := hid hz
      obtain ⟨z, hzz⟩ : ∃ z, checkI ((namL (nmF FS) (nmF FT) (nmF FK) (nmF (delF FV 0)) L h).map tx0) = z := ⟨_, rfl⟩
      rw [hzz] at CX hz
      clear hzz
      have hz2 : (z == 0) = false := by rw [beq_eq_false_iff_ne]; exact hz
      go_wp2_with fail
      refine CX.out.mono ?_
      rintro e w10 ⟨rfl, h10⟩
      have hb10 := below_then hb9 h10
      go_wp2_with fail
      go_ret2
      exact ⟨.inr ⟨fun a => HZ.out a.2.2.2, rfl⟩, hb10⟩
 ·have HF := hid hc
  obtain ⟨z, hz⟩ : ∃ z, checkI h = z := ⟨_, rfl⟩
  rw [hz] at CC1 hc
  clear hz COF HK HNM
  have hz2 : (z == 0) = false := by rw [beq_eq_false_iff_ne]; exact hc
  go_wp2_with fail
  refine CC1.out.mono ?_
  rintro e w2 ⟨rfl, h2⟩
  have hb2 := below_then hb1 h2
  go_wp2_with fail
  go_ret2
  exact ⟨.inr ⟨fun a => HF.out a.1, rfl⟩, hb2⟩
end

section
open Go.RowKit
def sp21 (u : Value) : List TxnV := [⟨0, 1, 2, u, [⟨true, 0, 5⟩]⟩]
def nF : Int → Option Int := fun _ => none
theorem sp21_check (u : Value) : checkI (sp21 u) = 0 := by kernel_rfl
theorem sp21_ok (u : Value) : ∀ t ∈ sp21 u, t.ok := by
 intro t ht
 simp [sp21] at ht
 subst ht
 refine ⟨⟨?_, ?_, ?_⟩, ?_⟩
 iterate 3 (simp [IntOk])
 intro o ho; simp at ho; subst ho; simp [OpV.ok, IntOk]
theorem sp21_short (u : Value) : Short (sp21 u) := fun t ht => by simp [sp21] at ht; subst ht; simp
theorem okN_none : OkN nF := fun _ hx => hx
theorem okN_put {k v : Int} (hv : IntOk v) : OkN (putF nF k v) := fun x hx => by
 unfold nmF putF
 by_cases e : x = k
 ·rw [if_pos e]; exact hv
 ·rw [if_neg e]; exact hx
theorem sp21_nam (u : Value) : namL (nmF nF) (nmF nF) (nmF (putF nF 0 7)) (nmF (delF nF 0)) [] (sp21 u) = [(0, 1, 2, [⟨true, 7, 5⟩])] := by
 kernel_rfl
theorem srt12 : srtI [1, 2] = [1, 2] := by
 unfold srtI
 first | exact List.mergeSort_of_pairwise (by decide) | exact List.mergeSort_of_sorted (by decide) | simp [List.mergeSort, List.MergeSort.Internal.splitInTwo, List.merge]
theorem sp21_yes (u : Value) : appP (putF nF 0 7) nF nF nF [] (sp21 u) := by
 refine ⟨sp21_check u, .inl rfl, ?_, ?_⟩
 ·show keepP (putF nF 0 7) nF (delF nF 0) nF [0] [0] [5] [1, 2]
  refine ⟨by decide +kernel, by decide +kernel, by decide +kernel, ?_⟩
  unfold risP
  rw [srt12]
  decide +kernel
 ·rw [sp21_nam]; kernel_rfl
theorem sp21_no (u : Value) : ¬ appP nF nF nF (putF nF 1 3) [] (sp21 u) := by
 intro h
 have q : keepP nF nF (delF nF 0) (putF nF 1 3) [0] [0] [5] [1, 2] := h.2.2.1
 have r : risS (putF nF 1 3) [1, 2] := by
  have r := q.2.2.2
  unfold risP at r
  rwa [srt12] at r
 revert r
 decide +kernel
theorem ints_none21 (w : World) : Ints w (.slice none 0 0) [] := Ints.of_owns (base := 0) (e := 0) ⟨rfl, .inl ⟨rfl, rfl⟩⟩
end

section
open Go.RowKit
theorem eqlQ (a b c a' b' c') (w : World) : Sem.run Try.prog (binOp .eql 42 (.agg #[.bool a, .int .i64 b, .int .i64 c]) (.agg #[.bool a', .int .i64 b', .int .i64 c'])) w = .ok (.bool (decide ((⟨a, b, c⟩ : OpV) = ⟨a', b', c'⟩))) w := by
 have hS : Try.prog.underlying 42 = some (.struct (Try.prog.fieldsOf 42)) := by kernel_rfl
 have hp : Try.prog.stoodInHeld 42 = false := by kernel_rfl
 have u3 := Try.underlying3
 have u4 := Try.underlying4
 rw [run_eql_struct, show (10000 : Nat) = 9999 + 1 from rfl, run_equalIn_agg w 9999 42 _ _ hS hp]
 simp only [Program.fieldsOf, Try.underlying42]
 go_simp
 by_cases h1 : a = a' <;> by_cases h2 : b = b' <;> by_cases h3 : c = c' <;> simp [h1, h2, h3]
theorem one_of {c : List TxnV} {s b d : Int} {l : List OpV} (h : c.map txE = [(s, b, d, l)]) : ∃ v, c = [⟨s, b, d, v, l⟩] := by
 match c, h with
 | [t], h =>
  obtain ⟨s', b', d', v, l'⟩ := t
  simp only [List.map_cons, List.map_nil, txE, List.cons.injEq, Prod.mk.injEq, and_true] at h
  obtain ⟨rfl, rfl, rfl, rfl⟩ := h
  exact ⟨v, rfl⟩
 | [], h => cases h
 | _ :: _ :: _, h => have := congrArg List.length h; simp at this
set_option linter.unusedSimpArgs false in
theorem speaks21_any (w : World) :
  Calls Try.prog 4 #[] w fun e w' => e = .returned (.bool true) ∧ Below w.heap.size w w' := by
 have C1 := fun (wx : World) => hid (write_op 0 5 wx)
 have C2 := fun (wx : World) => hid (write_op 7 5 wx)
 go_enter Try.func4, Try.ntmps4
 go_wp2_with fail
 refine ((C1 w).out).mono ?_
 rintro e w1 ⟨rfl, hb1⟩
 have HT1 := hid (lit_txn w1 0 1 2 0 5)
 have hx1 := (box_below w1 (.cells #[.bool true, .int .i64 0, .int .i64 5] 42))
 have hx2 := below_then hx1 (box_below (w1.alloc (.cells #[.bool true, .int .i64 0, .int .i64 5] 42)) (.cells #[.int .i64 0, .int .i64 1, .int .i64 2, .slice (some ⟨w1.heap.size, 0, none⟩) 1 1] 38))
 have hb2 := below_then hb1 hx2
 clear hx1 hx2 hb1 C1
 go_upto_region 2 with fail
 generalize (w1.alloc (.cells #[.bool true, .int .i64 0, .int .i64 5] 42)).alloc (.cells #[.int .i64 0, .int .i64 1, .int .i64 2, .slice (some ⟨w1.heap.size, 0, none⟩) 1 1] 38) = w2 at *
 generalize w1.heap.size = a1 at *
 generalize hu1 : (Value.slice (some ⟨a1, 0, none⟩) 1 1) = u1 at HT1
 clear hu1
 have hm := MapI.made eI Try.prog 3 w2
 obtain ⟨w3, hrun, hm3, hg3⟩ := putI_run keyI mapII hm (by unfold maxLen; omega) (inI_of (x := 0) (by unfold IntOk; omega)) (7 : Int)
 have hrun : Sem.run Try.prog (Instr.mapUpdate 32 (.map (some w2.heap.size)) (.int .i64 0) (.int .i64 7)) (w2.alloc (.map #[] 0)) = .ok () w3 := hrun
 have hx2 := box_below w2 (.map #[] 0)
 have hx3 : Below w2.heap.size w2 w3 := hx2.grown hg3 hx2.size (fun j hj => by cases hj; exact Nat.le_refl _)
 have HW := hid (fun wx (hx : Below w2.heap.size w2 wx) => (show Txns wx _ (sp21 u1) from HT1.out.below hx))
 have HB3 := hid (below_then hb2 hx3)
 have CA := hid (rapply_any _ (.map (some w2.heap.size)) (.map none) (.map none) (.map none) (.slice none 0 0) (putF nF 0 7) nF nF nF [] (sp21 u1) w3 ⟨.inr ⟨_, _, _, rfl, hm3⟩, .inl ⟨rfl, rfl⟩, .inl ⟨rfl, rfl⟩, .inl ⟨rfl, rfl⟩⟩ (ints_none21 _) (by simp) (HW.out _ hx3) (sp21_ok _) (sp21_short _) (okN_put (by unfold IntOk; omega)) okN_none okN_none okN_none)
 have HX3 := hid hx3
 clear hm hm3 hg3 hx2 hx3 hb2 HT1
 have hmm := @run_makeMap Try.prog
 go_wp2_with fail
 refine CA.out.mono ?_
 rintro e w4 ⟨hq, h4⟩
 rcases hq with ⟨_, v, rfl, c, hM, hce⟩ | ⟨hn, _⟩
 case inr => exact absurd (sp21_yes u1) hn
 rw [sp21_nam] at hce
 obtain ⟨v', rfl⟩ := one_of hce
 have hT4 := hM.txns
 have HB4 := hid (below_then HB3.out h4)
 have HX4 := hid (below_then HX3.out h4)
 have HV := hid (fun wx (hx : Below w4.heap.size w4 wx) => hT4.below hx)
 obtain ⟨av, cv, rfl, _⟩ := hT4.form
 clear CA hM hce h4 hT4 HX3 HB3 hrun hmm
 go_upto_region 3 with fail
 have hm := MapI.made eI Try.prog 3 w4
 obtain ⟨w5, hrun, hm5, hg5⟩ := putI_run keyI mapII hm (by unfold maxLen; omega) (inI_of (x := 1) (by unfold IntOk; omega)) (3 : Int)
 have hrun : Sem.run Try.prog (Instr.mapUpdate 32 (.map (some w4.heap.size)) (.int .i64 1) (.int .i64 3)) (w4.alloc (.map #[] 0)) = .ok () w5 := hrun
 have hx2 := box_below w4 (.map #[] 0)
 have hx5 : Below w4.heap.size w4 w5 := hx2.grown hg5 hx2.size (fun j hj => by cases hj; exact Nat.le_refl _)
 have CA := hid (rapply_any _ (.map none) (.map none) (.map none) (.map (some w4.heap.size)) (.slice none 0 0) nF nF nF (putF nF 1 3) [] (sp21 u1) w5 ⟨.inl ⟨rfl, rfl⟩, .inl ⟨rfl, rfl⟩, .inl ⟨rfl, rfl⟩, .inr ⟨_, _, _, rfl, hm5⟩⟩ (ints_none21 _) (by simp) (HW.out _ (below_then HX4.out hx5)) (sp21_ok _) (sp21_short _) okN_none okN_none okN_none (okN_put (by unfold IntOk; omega)))
 have HX5 := hid hx5
 clear hm hm5 hg5 hx2 hx5 HW HX4
 have hmm := @run_makeMap Try.prog
 go_wp2_with fail
 refine CA.out.mono ?_
 rintro e w6 ⟨hq, h6⟩
 rcases hq with ⟨hy, _⟩ | ⟨_, rfl⟩
 case inl => exact absurd hy (sp21_no u1)
 have h46 := below_then HX5.out h6
 have HB6 := hid (below_then HB4.out h46)
 have HV6 := hid (fun wx (hx : Below w6.heap.size w6 wx) => HV.out wx (below_then h46 hx))
 clear CA HX5 h6 h46 HV HB4 hrun hmm
 obtain ⟨g, o, hgo, a0, a1', a2, a3⟩ := (HV6.out _ (Below.refl _ _)).at (k := 0) (by simp)
 cases hgo
 have hO := (HV6.out _ (Below.refl _ _)).ops (k := 0) (by simp)
 simp only [List.getElem_cons_zero] at a0 a1' a2 a3 hO
 obtain ⟨oo, oc, rfl, _⟩ := hO.form
 obtain ⟨g2, o2, hgo, b0, b1, b2⟩ := hO.at (k := 0) (by simp)
 cases hgo
 simp only [List.getElem_cons_zero] at b0 b1 b2
 have HCL : Hid (∀ wx, Below w6.heap.size w6 wx → wx.cell? ⟨g, o, none⟩ = some (.int .i64 0) ∧ wx.cell? ⟨g, o + 1, none⟩ = some (.int .i64 1) ∧ wx.cell? ⟨g, o + 2, none⟩ = some (.int .i64 2) ∧ wx.cell? ⟨g, o + 3, none⟩ = some (.slice (some ⟨g2, o2, none⟩) 1 oc) ∧ wx.cell? ⟨g2, o2, none⟩ = some (.bool true) ∧ wx.cell? ⟨g2, o2 + 1, none⟩ = some (.int .i64 7) ∧ wx.cell? ⟨g2, o2 + 2, none⟩ = some (.int .i64 5)) := hid (fun wx hx => by
  have q1 := fun (i : Nat) v (hc : w6.cell? ⟨g, i, none⟩ = some v) => (hx.cell (p := ⟨g, i, none⟩) (block_lt hc)).trans hc
  have q2 := fun (i : Nat) v (hc : w6.cell? ⟨g2, i, none⟩ = some v) => (hx.cell (p := ⟨g2, i, none⟩) (block_lt hc)).trans hc
  exact ⟨q1 _ _ (by simpa using a0), q1 _ _ (by simpa using a1'), q1 _ _ (by simpa using a2), q1 _ _ (by simpa using a3), q2 _ _ (by simpa using b0), q2 _ _ (by simpa using b1), q2 _ _ (by simpa using b2)⟩)
 clear hO a0 a1' a2 a3 b0 b1 b2
 go_upto_region 4 with fail
 refine wp_region_held_drew (S := fun wx => Below w6.heap.size w6 wx) (by kernel_rfl) (Below.refl w6.heap.size w6).drew (fun hS0 => ?_)
 generalize w6.drew = wd at *
 refine tG (some 26) 0 ?vha0x1 rfl rfl (Or.inl ⟨by rfl, ?hha0x1⟩) hS0 ?rha0x1
 case hha0x1 => (intro w hw; obtain ⟨a0, a1, a2, a3, b0, b1, b2⟩ := HCL.out _ hw; have heq := eqlQ; go_simp; try (with_reducible rfl))
 try simp only [Act.put, zA, zB, zC]
 refine tG (some 27) 1 ?vha1x2 rfl rfl (Or.inl ⟨by rfl, ?hha1x2⟩) hS0 ?rha1x2
 case hha1x2 => (intro w hw; obtain ⟨a0, a1, a2, a3, b0, b1, b2⟩ := HCL.out _ hw; have heq := eqlQ; go_simp; try (with_reducible rfl))
 try simp only [Act.put, zA, zB, zC]
 refine tG (some 28) 2 ?vha2x3 rfl rfl (Or.inl ⟨by rfl, ?hha2x3⟩) hS0 ?rha2x3
 case hha2x3 => (intro w hw; obtain ⟨a0, a1, a2, a3, b0, b1, b2⟩ := HCL.out _ hw; have heq := eqlQ; go_simp; try (with_reducible rfl))
 try simp only [Act.put, zA, zB, zC]
 refine tG (some 29) 3 ?vha3x4 rfl rfl (Or.inl ⟨by rfl, ?hha3x4⟩) hS0 ?rha3x4
 case hha3x4 => (intro w hw; obtain ⟨a0, a1, a2, a3, b0, b1, b2⟩ := HCL.out _ hw; have heq := eqlQ; go_simp; try (with_reducible rfl))
 try simp only [Act.put, zA, zB, zC]
 refine tG (some 30) 4 ?vha4x5 rfl rfl (Or.inl ⟨by rfl, ?hha4x5⟩) hS0 ?rha4x5
 case hha4x5 => (intro w hw; obtain ⟨a0, a1, a2, a3, b0, b1, b2⟩ := HCL.out _ hw; have heq := eqlQ; go_simp; try (with_reducible rfl))
 try simp only [Act.put, zA, zB, zC]
 refine tG (some 31) 5 ?vha5x6 rfl rfl (Or.inl ⟨by rfl, ?hha5x6⟩) hS0 ?rha5x6
 case hha5x6 => (intro w hw; obtain ⟨a0, a1, a2, a3, b0, b1, b2⟩ := HCL.out _ hw; have heq := eqlQ; go_simp; try (with_reducible rfl))
 try simp only [Act.put, zA, zB, zC]
 refine tG (some 32) 6 ?vha6x7 rfl rfl (Or.inl ⟨by rfl, ?hha6x7⟩) hS0 ?rha6x7
 case hha6x7 => (intro w hw; obtain ⟨a0, a1, a2, a3, b0, b1, b2⟩ := HCL.out _ hw; have heq := eqlQ; go_simp; try (with_reducible rfl))
 try simp only [Act.put, zA, zB, zC]
 refine tG (some 33) 7 ?vha7x8 rfl rfl (Or.inl ⟨by rfl, ?hha7x8⟩) hS0 ?rha7x8
 case hha7x8 => (intro w hw; obtain ⟨a0, a1, a2, a3, b0, b1, b2⟩ := HCL.out _ hw; have heq := eqlQ; go_simp; try (with_reducible rfl))
 try simp only [Act.put, zA, zB, zC]
 refine tG (some 34) 8 ?vha8x9 rfl rfl (Or.inl ⟨by rfl, ?hha8x9⟩) hS0 ?rha8x9
 case hha8x9 => (intro w hw; obtain ⟨a0, a1, a2, a3, b0, b1, b2⟩ := HCL.out _ hw; have heq := eqlQ; go_simp; try (with_reducible rfl))
 try simp only [Act.put, zA, zB, zC]
 refine tG (some 35) 9 ?vha9x10 rfl rfl (Or.inl ⟨by rfl, ?hha9x10⟩) hS0 ?rha9x10
 case hha9x10 => (intro w hw; obtain ⟨a0, a1, a2, a3, b0, b1, b2⟩ := HCL.out _ hw; have heq := eqlQ; go_simp; try (with_reducible rfl))
 try simp only [Act.put, zA, zB, zC]
 refine tG (some 36) 10 ?vha10x11 rfl rfl (Or.inl ⟨by rfl, ?hha10x11⟩) hS0 ?rha10x11
 case hha10x11 => (intro w hw; obtain ⟨a0, a1, a2, a3, b0, b1, b2⟩ := HCL.out _ hw; have heq := eqlQ; go_simp; try (with_reducible rfl))
 try simp only [Act.put, zA, zB, zC]
 refine tG (some 37) 11 ?vha11x12 rfl rfl (Or.inl ⟨by rfl, ?hha11x12⟩) hS0 ?rha11x12
 case hha11x12 => (intro w hw; obtain ⟨a0, a1, a2, a3, b0, b1, b2⟩ := HCL.out _ hw; have heq := eqlQ; go_simp; try (with_reducible rfl))
 try simp only [Act.put, zA, zB, zC]
 refine tG (some 38) 12 ?vha12x13 rfl rfl (Or.inl ⟨by rfl, ?hha12x13⟩) hS0 ?rha12x13
 case hha12x13 => (intro w hw; obtain ⟨a0, a1, a2, a3, b0, b1, b2⟩ := HCL.out _ hw; have heq := eqlQ; go_simp; try (with_reducible rfl))
 try simp only [Act.put, zA, zB, zC]
 refine tG (some 39) 13 ?vha13x14 rfl rfl (Or.inl ⟨by rfl, ?hha13x14⟩) hS0 ?rha13x14
 case hha13x14 => (intro w hw; obtain ⟨a0, a1, a2, a3, b0, b1, b2⟩ := HCL.out _ hw; have heq := eqlQ; go_simp; try (with_reducible rfl))
 try simp only [Act.put, zA, zB, zC]
 refine tG (some 40) 14 ?vha14x15 rfl rfl (Or.inl ⟨by rfl, ?hha14x15⟩) hS0 ?rha14x15
 case hha14x15 => (intro w hw; obtain ⟨a0, a1, a2, a3, b0, b1, b2⟩ := HCL.out _ hw; have heq := eqlQ; go_simp; try (with_reducible rfl))
 try simp only [Act.put, zA, zB, zC]
 refine tG (some 41) 15 ?vha15x16 rfl rfl (Or.inl ⟨by rfl, ?hha15x16⟩) hS0 ?rha15x16
 case hha15x16 => (intro w hw; obtain ⟨a0, a1, a2, a3, b0, b1, b2⟩ := HCL.out _ hw; have heq := eqlQ; go_simp; try (with_reducible rfl))
 try simp only [Act.put, zA, zB, zC]
 refine tG (some 42) 16 ?vha16x17 rfl rfl (Or.inl ⟨by rfl, ?hha16x17⟩) hS0 ?rha16x17
 case hha16x17 => (intro w hw; obtain ⟨a0, a1, a2, a3, b0, b1, b2⟩ := HCL.out _ hw; have heq := eqlQ; go_simp; try (with_reducible rfl))
 try simp only [Act.put, zA, zB, zC]
 refine tG (some 43) 17 ?vha17x18 rfl rfl (Or.inl ⟨by rfl, ?hha17x18⟩) hS0 ?rha17x18
 case hha17x18 => (intro w hw; obtain ⟨a0, a1, a2, a3, b0, b1, b2⟩ := HCL.out _ hw; have heq := eqlQ; go_simp; try (with_reducible rfl))
 try simp only [Act.put, zA, zB, zC]
 refine tG (some 44) 18 ?vha18x19 rfl rfl (Or.inl ⟨by rfl, ?hha18x19⟩) hS0 ?rha18x19
 case hha18x19 => (intro w hw; obtain ⟨a0, a1, a2, a3, b0, b1, b2⟩ := HCL.out _ hw; have heq := eqlQ; go_simp; try (with_reducible rfl))
 try simp only [Act.put, zA, zB, zC]
 refine tG (some 45) 19 ?vha19x20 rfl rfl (Or.inl ⟨by rfl, ?hha19x20⟩) hS0 ?rha19x20
 case hha19x20 => (intro w hw; obtain ⟨a0, a1, a2, a3, b0, b1, b2⟩ := HCL.out _ hw; have heq := eqlQ; go_simp; try (with_reducible rfl))
 try simp only [Act.put, zA, zB, zC]
 refine tG (some 46) 20 ?vha20x21 rfl rfl (Or.inl ⟨by rfl, ?hha20x21⟩) hS0 ?rha20x21
 case hha20x21 => (intro w hw; obtain ⟨a0, a1, a2, a3, b0, b1, b2⟩ := HCL.out _ hw; have heq := eqlQ; go_simp; try (with_reducible rfl))
 try simp only [Act.put, zA, zB, zC]
 refine tG (some 47) 21 ?vha21x22 rfl rfl (Or.inl ⟨by rfl, ?hha21x22⟩) hS0 ?rha21x22
 case hha21x22 => (intro w hw; obtain ⟨a0, a1, a2, a3, b0, b1, b2⟩ := HCL.out _ hw; have heq := eqlQ; go_simp; try (with_reducible rfl))
 try simp only [Act.put, zA, zB, zC]
 refine tG (some 48) 22 ?vha22x23 rfl rfl (Or.inl ⟨by rfl, ?hha22x23⟩) hS0 ?rha22x23
 case hha22x23 => (intro w hw; obtain ⟨a0, a1, a2, a3, b0, b1, b2⟩ := HCL.out _ hw; have heq := eqlQ; go_simp; try (with_reducible rfl))
 try simp only [Act.put, zA, zB, zC]
 refine tG (some 49) 23 ?vha23x24 rfl rfl (Or.inl ⟨by rfl, ?hha23x24⟩) hS0 ?rha23x24
 case hha23x24 => (intro w hw; obtain ⟨a0, a1, a2, a3, b0, b1, b2⟩ := HCL.out _ hw; have heq := eqlQ; go_simp; try (with_reducible rfl))
 try simp only [Act.put, zA, zB, zC]
 refine tG (some 50) 24 ?vha24x25 rfl rfl (Or.inl ⟨by rfl, ?hha24x25⟩) hS0 ?rha24x25
 case hha24x25 => (intro w hw; obtain ⟨a0, a1, a2, a3, b0, b1, b2⟩ := HCL.out _ hw; have heq := eqlQ; go_simp; try (with_reducible rfl))
 try simp only [Act.put, zA, zB, zC]
 refine rD 25 rfl (fun K hK => ?_)
 go_simp
 refine ((C2 _).out).mono ?_
 rintro e w7 ⟨rfl, h7⟩
 have s7 := below_then hS0 h7
 show K _ _
 refine hK.out _ _ s7 (fun _ => ?_)
 clear hK K
 refine tG (some 52) 26 ?vha26x27 rfl rfl (Or.inl ⟨by rfl, ?hha26x27⟩) s7 ?rha26x27
 case hha26x27 => (intro w hw; obtain ⟨a0, a1, a2, a3, b0, b1, b2⟩ := HCL.out _ hw; have heq := eqlQ; go_simp; try (with_reducible rfl))
 try simp only [Act.put, zA, zB, zC]
 refine tG (some 53) 27 ?vha27x28 rfl rfl (Or.inl ⟨by rfl, ?hha27x28⟩) s7 ?rha27x28
 case hha27x28 => (intro w hw; obtain ⟨a0, a1, a2, a3, b0, b1, b2⟩ := HCL.out _ hw; have heq := eqlQ; go_simp; try (with_reducible rfl))
 try simp only [Act.put, zA, zB, zC]
 refine tG (some 54) 28 ?vha28x29 rfl rfl (Or.inl ⟨by rfl, ?hha28x29⟩) s7 ?rha28x29
 case hha28x29 => (intro w hw; obtain ⟨a0, a1, a2, a3, b0, b1, b2⟩ := HCL.out _ hw; have heq := eqlQ; go_simp; try (with_reducible rfl))
 try simp only [Act.put, zA, zB, zC]
 refine tG (some 55) 29 ?vha29x30 rfl rfl (Or.inl ⟨by rfl, ?hha29x30⟩) s7 ?rha29x30
 case hha29x30 => (intro w hw; obtain ⟨a0, a1, a2, a3, b0, b1, b2⟩ := HCL.out _ hw; have heq := eqlQ; go_simp; try (with_reducible rfl))
 try simp only [Act.put, zA, zB, zC]
 refine tG (some 56) 30 ?vha30x31 rfl rfl (Or.inl ⟨by rfl, ?hha30x31⟩) s7 ?rha30x31
 case hha30x31 => (intro w hw; obtain ⟨a0, a1, a2, a3, b0, b1, b2⟩ := HCL.out _ hw; have heq := eqlQ; go_simp; try (with_reducible rfl))
 try simp only [Act.put, zA, zB, zC]
 refine tG (some 57) 31 ?vha31x32 rfl rfl (Or.inl ⟨by rfl, ?hha31x32⟩) s7 ?rha31x32
 case hha31x32 => (intro w hw; obtain ⟨a0, a1, a2, a3, b0, b1, b2⟩ := HCL.out _ hw; have heq := eqlQ; go_simp; try (with_reducible rfl))
 try simp only [Act.put, zA, zB, zC]
 refine tG (some 58) 32 ?vha32x33 rfl rfl (Or.inl ⟨by rfl, ?hha32x33⟩) s7 ?rha32x33
 case hha32x33 => (intro w hw; obtain ⟨a0, a1, a2, a3, b0, b1, b2⟩ := HCL.out _ hw; have heq := eqlQ; go_simp; try (with_reducible rfl))
 try simp only [Act.put, zA, zB, zC]
 refine tG (some 59) 33 ?vha33x34 rfl rfl (Or.inl ⟨by rfl, ?hha33x34⟩) s7 ?rha33x34
 case hha33x34 => (intro w hw; obtain ⟨a0, a1, a2, a3, b0, b1, b2⟩ := HCL.out _ hw; have heq := eqlQ; go_simp; try (with_reducible rfl))
 try simp only [Act.put, zA, zB, zC]
 refine tG (some 60) 34 ?vha34x35 rfl rfl (Or.inl ⟨by rfl, ?hha34x35⟩) s7 ?rha34x35
 case hha34x35 => (intro w hw; obtain ⟨a0, a1, a2, a3, b0, b1, b2⟩ := HCL.out _ hw; have heq := eqlQ; go_simp; try (with_reducible rfl))
 try simp only [Act.put, zA, zB, zC]
 refine tG (some 0) 35 ?vha35x36 rfl rfl (Or.inl ⟨by rfl, ?hha35x36⟩) s7 ?rha35x36
 case hha35x36 => (intro w hw; obtain ⟨a0, a1, a2, a3, b0, b1, b2⟩ := HCL.out _ hw; have heq := eqlQ; go_simp; try (with_reducible rfl))
 try simp only [Act.put, zA, zB, zC]
 refine wpAnyH_done (by kernel_rfl) ?_ _
 try simp only [Act.put]
 go_wp2_with fail
 go_ret
 exact ⟨rfl, below_then HB6.out s7⟩
end

section
open Go.RowKit
def bigN (lk ls lv lt : List (Int × Int)) (L : List Int) : Prop := 50 < lk.length ∨ 50 < ls.length ∨ 50 < lv.length ∨ 50 < lt.length ∨ 100 < L.length
instance (lk ls lv lt : List (Int × Int)) (L : List Int) : Decidable (bigN lk ls lv lt L) := by unfold bigN; infer_instance
theorem NmI.box {w w' : World} {v : Value} {F : Int → Option Int} {p : Nat} {t : TypeId} {cs : Array Value} (h : NmI w v F) (hp : BoxN w p t cs) (hg : w.grownBy w' (some p)) : NmI w' v F := by
 rcases h with ⟨rfl, rfl⟩ | ⟨b, n, c, rfl, hM⟩
 ·exact .inl ⟨rfl, rfl⟩
 ·refine .inr ⟨b, n, c, rfl, hM.kept hg (fun e => ?_)⟩
  injection e with e
  subst e
  obtain ⟨D, ⟨es, clock, hb, _⟩, _⟩ := hM
  unfold BoxN at hp
  rw [hp] at hb
  cases hb
theorem big21_any (vk vs vv vt vo : Value) (lk ls lv lt : List (Int × Int)) (L : List Int) (w : World) (hk : PrN w vk lk) (hs : PrN w vs ls) (hv : PrN w vv lv) (ht : PrN w vt lt) (ho : Ints w vo L) :
  Calls Try.prog 6 #[.agg #[vk, vs, vv, vt, vo]] w fun e w' => e = .returned (.bool (decide (bigN lk ls lv lt L))) ∧ Below w.heap.size w w' := by
 obtain ⟨ak, ck, rfl, _⟩ := hk.form
 obtain ⟨az, cs, rfl, _⟩ := hs.form
 obtain ⟨av, cv, rfl, _⟩ := hv.form
 obtain ⟨at_, ct, rfl, _⟩ := ht.form
 obtain ⟨ao, co, rfl, _⟩ := ho.form
 have hb1 := box_below w (.cells #[.slice ak lk.length ck, .slice az ls.length cs, .slice av lv.length cv, .slice at_ lt.length ct, .slice ao L.length co] 26)
 by_cases h0 : 50 < lk.length
 ·have HV : Hid (true = decide (bigN lk ls lv lt L)) := hid (decide_eq_true (show bigN lk ls lv lt L from .inl h0)).symm
  have z0 : (50 : Int) < (lk.length : Int) := by omega
  go_enter Try.func6, Try.ntmps6
  go_wp2_with fail
  go_ret
  exact ⟨ret_b HV.out, hb1⟩
 have z0 : ¬ (50 : Int) < (lk.length : Int) := by omega
 by_cases h1 : 50 < ls.length
 ·have HV : Hid (true = decide (bigN lk ls lv lt L)) := hid (decide_eq_true (show bigN lk ls lv lt L from .inr (.inl h1))).symm
  have z1 : (50 : Int) < (ls.length : Int) := by omega
  go_enter Try.func6, Try.ntmps6
  go_wp2_with fail
  go_ret
  exact ⟨ret_b HV.out, hb1⟩
 have z1 : ¬ (50 : Int) < (ls.length : Int) := by omega
 by_cases h2 : 50 < lv.length
 ·have HV : Hid (true = decide (bigN lk ls lv lt L)) := hid (decide_eq_true (show bigN lk ls lv lt L from .inr (.inr (.inl h2)))).symm
  have z2 : (50 : Int) < (lv.length : Int) := by omega
  go_enter Try.func6, Try.ntmps6
  go_wp2_with fail
  go_ret
  exact ⟨ret_b HV.out, hb1⟩
 have z2 : ¬ (50 : Int) < (lv.length : Int) := by omega
 by_cases h3 : 50 < lt.length
 ·have HV : Hid (true = decide (bigN lk ls lv lt L)) := hid (decide_eq_true (show bigN lk ls lv lt L from .inr (.inr (.inr (.inl h3))))).symm
  have z3 : (50 : Int) < (lt.length : Int) := by omega
  go_enter Try.func6, Try.ntmps6
  go_wp2_with fail
  go_ret
  exact ⟨ret_b HV.out, hb1⟩
 have z3 : ¬ (50 : Int) < (lt.length : Int) := by omega
 by_cases h4 : 100 < L.length
 ·have HV : Hid (true = decide (bigN lk ls lv lt L)) := hid (decide_eq_true (show bigN lk ls lv lt L from .inr (.inr (.inr (.inr (h4)))))).symm
  have z4 : (100 : Int) < (L.length : Int) := by omega
  go_enter Try.func6, Try.ntmps6
  go_wp2_with fail
  go_ret
  exact ⟨ret_b HV.out, hb1⟩
 have z4 : ¬ (100 : Int) < (L.length : Int) := by omega
 have HV : Hid (false = decide (bigN lk ls lv lt L)) := hid (decide_eq_false (fun q => by unfold bigN at q; omega)).symm
 go_enter Try.func6, Try.ntmps6
 go_wp2_with fail
 go_ret
 exact ⟨ret_b HV.out, hb1⟩
set_option linter.unusedSimpArgs false in
theorem map21_any (vk vs vv vt vo : Value) (lk ls lv lt : List (Int × Int)) (L : List Int) (w : World) (hk : PrN w vk lk) (hs : PrN w vs ls) (hv : PrN w vv lv) (ht : PrN w vt lt) (ho : Ints w vo L)
  (ik : ∀ p ∈ lk, InI p.1) (is : ∀ p ∈ ls, InI p.1) (iv : ∀ p ∈ lv, InI p.1) (it : ∀ p ∈ lt, InI p.1) (nk : lk.length ≤ 100000) (ns : ls.length ≤ 100000) (nv : lv.length ≤ 100000) (nt : lt.length ≤ 100000) :
  Calls Try.prog 8 #[.agg #[vk, vs, vv, vt, vo]] w fun e w' => (∃ uK uS uV uT, e = .returned (.agg #[uK, uS, uV, uT, vo]) ∧ NmA w' uK uS uV uT (ofF lk) (ofF ls) (ofF lv) (ofF lt)) ∧ Below w.heap.size w w' := by
 have Ck := hid (fun wx (hx : Below w.heap.size w wx) => lof21_any vk lk wx (hk.below hx) ik nk)
 have Cs := hid (fun wx (hx : Below w.heap.size w wx) => lof21_any vs ls wx (hs.below hx) is ns)
 have Cv := hid (fun wx (hx : Below w.heap.size w wx) => lof21_any vv lv wx (hv.below hx) iv nv)
 have Ct := hid (fun wx (hx : Below w.heap.size w wx) => lof21_any vt lt wx (ht.below hx) it nt)
 obtain ⟨ak, ck, rfl, _⟩ := hk.form
 obtain ⟨az, cs, rfl, _⟩ := hs.form
 obtain ⟨av, cv, rfl, _⟩ := hv.form
 obtain ⟨at_, ct, rfl, _⟩ := ht.form
 obtain ⟨ao, co, rfl, _⟩ := ho.form
 have hx1 := BoxN.new w 26 #[.slice ak lk.length ck, .slice az ls.length cs, .slice av lv.length cv, .slice at_ lt.length ct, .slice ao L.length co]
 have hz1 := BoxN.new (w.alloc (.cells #[.slice ak lk.length ck, .slice az ls.length cs, .slice av lv.length cv, .slice at_ lt.length ct, .slice ao L.length co] 26)) 34 #[.map none, .map none, .map none, .map none, .slice none 0 0]
 rw [show (w.alloc (.cells #[.slice ak lk.length ck, .slice az ls.length cs, .slice av lv.length cv, .slice at_ lt.length ct, .slice ao L.length co] 26)).heap.size = w.heap.size + 1 from by simp] at hz1
 have hb1 := box_below w (.cells #[.slice ak lk.length ck, .slice az ls.length cs, .slice av lv.length cv, .slice at_ lt.length ct, .slice ao L.length co] 26)
 have hb2 := hb1.alloc hb1.size (.cells #[.map none, .map none, .map none, .map none, .slice none 0 0] 34)
 have hx2 := hx1.below (box_below _ (.cells #[.map none, .map none, .map none, .map none, .slice none 0 0] 34))
 clear hk hs hv ht ho ik is iv it nk ns nv nt hx1 hb1
 obtain ⟨p2, hp2⟩ : ∃ p, w.heap.size + 1 = p := ⟨_, rfl⟩
 have HP2 := hid hp2
 rw [hp2] at hz1
 have hq2 : w.heap.size ≤ p2 := by omega
 have hq3 : w.heap.size < p2 := by omega
 clear hp2
 go_enter Try.func8, Try.ntmps8
 go_upto_region 1 with fail
 generalize (w.alloc (.cells #[.slice ak lk.length ck, .slice az ls.length cs, .slice av lv.length cv, .slice at_ lt.length ct, .slice ao L.length co] 26)).alloc (.cells #[.map none, .map none, .map none, .map none, .slice none 0 0] 34) = w2 at *
 rw [HP2.out]
 have HX := hid hx2
 have HZ := hid hz1
 clear hx2 hz1
 have kd := (Below.refl w2.heap.size w2).drew
 have HX := hid (HX.out.below kd)
 have HZ := hid (HZ.out.below kd)
 have hbd := hb2.drew
 clear kd hb2
 refine wp_region_held_drew (S := fun wx => BoxN wx w.heap.size 26 #[.slice ak lk.length ck, .slice az ls.length cs, .slice av lv.length cv, .slice at_ lt.length ct, .slice ao L.length co]) (by kernel_rfl) HX.out (fun hS0 => ?_)
 generalize w2.drew = wd at *
 refine tG (some 3) 0 ?vha0x1 rfl rfl (Or.inl ⟨by rfl, ?hha0x1⟩) hS0 ?rha0x1
 case hha0x1 => (intro w hw; have y0 := hw.cell (i := 0) rfl; have y1 := hw.cell (i := 1) rfl; have y2 := hw.cell (i := 2) rfl; have y3 := hw.cell (i := 3) rfl; have y4 := hw.cell (i := 4) rfl; go_simp; try (with_reducible rfl))
 try simp only [Act.put, zA, zB, zC]
 refine tG (some 4) 1 ?vha1x2 rfl rfl (Or.inl ⟨by rfl, ?hha1x2⟩) hS0 ?rha1x2
 case hha1x2 => (intro w hw; have y0 := hw.cell (i := 0) rfl; have y1 := hw.cell (i := 1) rfl; have y2 := hw.cell (i := 2) rfl; have y3 := hw.cell (i := 3) rfl; have y4 := hw.cell (i := 4) rfl; go_simp; try (with_reducible rfl))
 try simp only [Act.put, zA, zB, zC]
 refine tG (some 6) 3 ?vha3x3 rfl rfl (Or.inl ⟨by rfl, ?hha3x3⟩) hS0 ?rha3x3
 case hha3x3 => (intro w hw; have y0 := hw.cell (i := 0) rfl; have y1 := hw.cell (i := 1) rfl; have y2 := hw.cell (i := 2) rfl; have y3 := hw.cell (i := 3) rfl; have y4 := hw.cell (i := 4) rfl; go_simp; try (with_reducible rfl))
 try simp only [Act.put, zA, zB, zC]
 refine tG (some 7) 4 ?vha4x4 rfl rfl (Or.inl ⟨by rfl, ?hha4x4⟩) hS0 ?rha4x4
 case hha4x4 => (intro w hw; have y0 := hw.cell (i := 0) rfl; have y1 := hw.cell (i := 1) rfl; have y2 := hw.cell (i := 2) rfl; have y3 := hw.cell (i := 3) rfl; have y4 := hw.cell (i := 4) rfl; go_simp; try (with_reducible rfl))
 try simp only [Act.put, zA, zB, zC]
 refine tG (some 9) 6 ?vha6x5 rfl rfl (Or.inl ⟨by rfl, ?hha6x5⟩) hS0 ?rha6x5
 case hha6x5 => (intro w hw; have y0 := hw.cell (i := 0) rfl; have y1 := hw.cell (i := 1) rfl; have y2 := hw.cell (i := 2) rfl; have y3 := hw.cell (i := 3) rfl; have y4 := hw.cell (i := 4) rfl; go_simp; try (with_reducible rfl))
 try simp only [Act.put, zA, zB, zC]
 refine tG (some 10) 7 ?vha7x6 rfl rfl (Or.inl ⟨by rfl, ?hha7x6⟩) hS0 ?rha7x6
 case hha7x6 => (intro w hw; have y0 := hw.cell (i := 0) rfl; have y1 := hw.cell (i := 1) rfl; have y2 := hw.cell (i := 2) rfl; have y3 := hw.cell (i := 3) rfl; have y4 := hw.cell (i := 4) rfl; go_simp; try (with_reducible rfl))
 try simp only [Act.put, zA, zB, zC]
 refine tG (some 12) 9 ?vha9x7 rfl rfl (Or.inl ⟨by rfl, ?hha9x7⟩) hS0 ?rha9x7
 case hha9x7 => (intro w hw; have y0 := hw.cell (i := 0) rfl; have y1 := hw.cell (i := 1) rfl; have y2 := hw.cell (i := 2) rfl; have y3 := hw.cell (i := 3) rfl; have y4 := hw.cell (i := 4) rfl; go_simp; try (with_reducible rfl))
 try simp only [Act.put, zA, zB, zC]
 refine tG (some 13) 10 ?vha10x8 rfl rfl (Or.inl ⟨by rfl, ?hha10x8⟩) hS0 ?rha10x8
 case hha10x8 => (intro w hw; have y0 := hw.cell (i := 0) rfl; have y1 := hw.cell (i := 1) rfl; have y2 := hw.cell (i := 2) rfl; have y3 := hw.cell (i := 3) rfl; have y4 := hw.cell (i := 4) rfl; go_simp; try (with_reducible rfl))
 try simp only [Act.put, zA, zB, zC]
 refine tG (some 15) 12 ?vha12x9 rfl rfl (Or.inl ⟨by rfl, ?hha12x9⟩) hS0 ?rha12x9
 case hha12x9 => (intro w hw; have y0 := hw.cell (i := 0) rfl; have y1 := hw.cell (i := 1) rfl; have y2 := hw.cell (i := 2) rfl; have y3 := hw.cell (i := 3) rfl; have y4 := hw.cell (i := 4) rfl; go_simp; try (with_reducible rfl))
 try simp only [Act.put, zA, zB, zC]
 refine tG (some 16) 13 ?vha13x10 rfl rfl (Or.inl ⟨by rfl, ?hha13x10⟩) hS0 ?rha13x10
 case hha13x10 => (intro w hw; have y0 := hw.cell (i := 0) rfl; have y1 := hw.cell (i := 1) rfl; have y2 := hw.cell (i := 2) rfl; have y3 := hw.cell (i := 3) rfl; have y4 := hw.cell (i := 4) rfl; go_simp; try (with_reducible rfl))
 try simp only [Act.put, zA, zB, zC]
 refine rD 2 rfl (fun K hK => ?_)
 go_simp
 refine (Ck.out _ hbd).mono ?_
 rintro e w3 ⟨⟨b0, n0, c0, rfl, _, _, hm0⟩, h0⟩
 have hb3 := below_then hbd h0
 have HM0 := hid (show NmI w3 (.map (some b0)) (ofF lk) from .inr ⟨_, _, _, rfl, hm0⟩)
 have HZ := hid (HZ.out.below h0)
 have s0 := BoxN.below hS0 h0
 clear Ck hm0 h0
 show K _ _
 refine hK.out _ _ s0 (fun _ => ?_)
 clear hK K
 refine rD 5 rfl (fun K hK => ?_)
 go_simp
 refine (Cs.out _ hb3).mono ?_
 rintro e w4 ⟨⟨b1, n1, c1, rfl, _, _, hm1⟩, h1⟩
 have hb4 := below_then hb3 h1
 have HM1 := hid (show NmI w4 (.map (some b1)) (ofF ls) from .inr ⟨_, _, _, rfl, hm1⟩)
 have HM0 := hid (HM0.out.below h1)
 have HZ := hid (HZ.out.below h1)
 have s1 := BoxN.below s0 h1
 clear Cs hm1 h1
 show K _ _
 refine hK.out _ _ s1 (fun _ => ?_)
 clear hK K
 refine rD 8 rfl (fun K hK => ?_)
 go_simp
 refine (Cv.out _ hb4).mono ?_
 rintro e w5 ⟨⟨b2, n2, c2, rfl, _, _, hm2⟩, h2⟩
 have hb5 := below_then hb4 h2
 have HM2 := hid (show NmI w5 (.map (some b2)) (ofF lv) from .inr ⟨_, _, _, rfl, hm2⟩)
 have HM0 := hid (HM0.out.below h2)
 have HM1 := hid (HM1.out.below h2)
 have HZ := hid (HZ.out.below h2)
 have s2 := BoxN.below s1 h2
 clear Cv hm2 h2
 show K _ _
 refine hK.out _ _ s2 (fun _ => ?_)
 clear hK K
 refine rD 11 rfl (fun K hK => ?_)
 go_simp
 refine (Ct.out _ hb5).mono ?_
 rintro e w6 ⟨⟨b3, n3, c3, rfl, _, _, hm3⟩, h3⟩
 have hb6 := below_then hb5 h3
 have HM3 := hid (show NmI w6 (.map (some b3)) (ofF lt) from .inr ⟨_, _, _, rfl, hm3⟩)
 have HM0 := hid (HM0.out.below h3)
 have HM1 := hid (HM1.out.below h3)
 have HM2 := hid (HM2.out.below h3)
 have HZ := hid (HZ.out.below h3)
 have s3 := BoxN.below s2 h3
 clear Ct hm3 h3
 show K _ _
 refine hK.out _ _ s3 (fun _ => ?_)
 clear hK K
 refine tG (some 17) 14 ?vha14x15 rfl rfl (Or.inl ⟨by rfl, ?hha14x15⟩) s3 ?rha14x15
 case hha14x15 => (intro w hw; have y0 := hw.cell (i := 0) rfl; have y1 := hw.cell (i := 1) rfl; have y2 := hw.cell (i := 2) rfl; have y3 := hw.cell (i := 3) rfl; have y4 := hw.cell (i := 4) rfl; go_simp; try (with_reducible rfl))
 try simp only [Act.put, zA, zB, zC]
 refine rD 15 rfl (fun K hK => ?_)
 have hbP := hid (below_setRow hb6 hq2 #[.map (some b0), .map (some b1), .map (some b2), .map (some b3), .slice ao L.length co])
 have hgr := grown_setRow w6 p2 #[.map (some b0), .map (some b1), .map (some b2), .map (some b3), .slice ao L.length co]
 have hinf : (Try.prog.info? 34).map (·.size) = some (#[.map (some b0), .map (some b1), .map (some b2), .map (some b3), .slice ao L.length co] : Array Value).size := (show (Try.prog.info? 34).map (·.size) = some 5 by kernel_rfl)
 have HNA : Hid (NmA (w6.setRow p2 #[.map (some b0), .map (some b1), .map (some b2), .map (some b3), .slice ao L.length co]) (.map (some b0)) (.map (some b1)) (.map (some b2)) (.map (some b3)) (ofF lk) (ofF ls) (ofF lv) (ofF lt)) := hid ⟨HM0.out.box HZ.out hgr, HM1.out.box HZ.out hgr, HM2.out.box HZ.out hgr, HM3.out.box HZ.out hgr⟩
 have HPB := hid HZ.out
 rw [if_pos (by rfl)]
 refine wp_store_row 34 _ _ rfl p2 #[.map (some b0), .map (some b1), .map (some b2), .map (some b3), .slice ao L.length co] rfl rfl _ _ HZ.out hinf rfl (by simp [Value.oneCell']) ?_
 have s9 := (setRow_other w6 p2 w.heap.size #[.map (some b0), .map (some b1), .map (some b2), .map (some b3), .slice ao L.length co] (by omega)).trans s3
 refine hK.out _ _ s9 (fun _ => ?_)
 clear hK K hgr
 refine wpAnyH_done (by kernel_rfl) ?_ _
 try simp only [Act.put]
 go_wp2_with fail
 refine bodyPost_ret (v := .agg #[.map (some b0), .map (some b1), .map (some b2), .map (some b3), .slice ao L.length co]) (results_cell_row rfl _ _ p2 _ #[.map (some b0), .map (some b1), .map (some b2), .map (some b3), .slice ao L.length co] _ _ rfl (setRow_heap _ _ _ _ _ _ HPB.out) Try.underlying34 rfl hinf) rfl ?_
 exact ⟨⟨_, _, _, _, rfl, HNA.out⟩, hbP.out⟩
end

section
open Go.RowKit
theorem okN_putF {F : Int → Option Int} (hF : OkN F) {k v : Int} (hv : IntOk v) : OkN (putF F k v) := fun x hx => by
 have q := hF x hx
 unfold nmF putF at *
 by_cases e : x = k
 ·rw [if_pos e]; exact hv
 ·rw [if_neg e]; exact q
theorem okN_fold : ∀ (l : List (Int × Int)) (F : Int → Option Int), OkN F → (∀ p ∈ l, IntOk p.2) → OkN (l.foldl (fun f p => putF f p.1 p.2) F)
 | [], _, hF, _ => hF
 | p :: l, _, hF, h => okN_fold l _ (okN_putF hF (h p List.mem_cons_self)) (fun q hq => h q (List.mem_cons_of_mem _ hq))
theorem okN_of {l : List (Int × Int)} (h : ∀ p ∈ l, IntOk p.2) : OkN (ofF l) := okN_fold l _ okN_none h
end

end Go.Proofs.Ytipmfhgdeghmjaa
