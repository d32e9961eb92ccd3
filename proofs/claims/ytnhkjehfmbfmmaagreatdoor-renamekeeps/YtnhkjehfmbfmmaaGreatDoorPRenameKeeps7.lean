/- Walks and plain facts that the proof of the statement RenameKeeps uses, joined: IsoA IsoB CnoA SrtA CnoB CanA TblB TblC CanB CanC CanD CanE CanF CanG HisW HisY OrdAG CanH RenA RenB RenC ArgN SeqA BoxN RenD RenE RenG CroA CroB CroC CroD RenF0. Conditions: each theorem's own. -/
import Derived.Shelf.SortM.Plain
import Derived.Deep.SlicePairs
import Derived.Lib.SmallJoins
import Derived.Deep.AppendLies
import Derived.RangeFuncBox
import Derived.LoopNIn
import Derived.LoopIn
import Derived.TacticsInMore
import Derived.OwnWalkIn
import Derived.Maps.AppendAt
import Derived.Maps.OwnIn
import Derived.Deep.RegionLaw
import Derived.Test.YtnhkjehfmbfmmaaGreatDoorPRenameKeeps0
import Derived.Test.YtnhkjehfmbfmmaaGreatDoorPRenameKeeps1
import Derived.Test.YtnhkjehfmbfmmaaGreatDoorPRenameKeeps2
import Derived.Test.YtnhkjehfmbfmmaaGreatDoorPRenameKeeps3
import Derived.Test.YtnhkjehfmbfmmaaGreatDoorPRenameKeeps6
namespace Go.Proofs.YtnhkjehfmbfmmaaGreatDoor
set_option maxHeartbeats 32000000
set_option maxRecDepth 100000
set_option linter.unusedSimpArgs false
set_option linter.unusedVariables false
open Lib (hid)
section
open Go.RowKit
structure IsoT (n : Nat) (π ρ : Nat → Nat) : Prop where
 lt : ∀ j, j < n → π j < n
 tl : ∀ j, j < n → ρ j < n
 pr : ∀ j, j < n → π (ρ j) = j
 rp : ∀ j, j < n → ρ (π j) = j
def IsoS (n : Nat) (π : Nat → Nat) (s t : Nat) : Prop := (∀ j, s.testBit j = true → j < n) ∧ (∀ j, t.testBit j = true → j < n) ∧ ∀ j, j < n → s.testBit j = t.testBit (π j)
section
variable {n : Nat} {π ρ : Nat → Nat}
theorem IsoT.inj (q : IsoT n π ρ) {i j : Nat} (hi : i < n) (hj : j < n) (e : π i = π j) : i = j := by rw [← q.rp i hi, ← q.rp j hj, e]
theorem IsoT.symm (q : IsoT n π ρ) : IsoT n ρ π := ⟨q.tl, q.lt, q.rp, q.pr⟩
theorem IsoS.zero : IsoS n π 0 0 := ⟨fun j h => by simp at h, fun j h => by simp at h, fun j _ => by simp⟩
theorem IsoS.or {s t s' t' : Nat} (a : IsoS n π s t) (b : IsoS n π s' t') : IsoS n π (s ||| s') (t ||| t') := by
 refine ⟨fun j h => ?_, fun j h => ?_, fun j hj => ?_⟩
 ·rw [Nat.testBit_or, Bool.or_eq_true] at h; exact h.elim (a.1 j) (b.1 j)
 ·rw [Nat.testBit_or, Bool.or_eq_true] at h; exact h.elim (a.2.1 j) (b.2.1 j)
 ·rw [Nat.testBit_or, Nat.testBit_or, a.2.2 j hj, b.2.2 j hj]
theorem IsoS.and {s t s' t' : Nat} (a : IsoS n π s t) (b : IsoS n π s' t') : IsoS n π (s &&& s') (t &&& t') := by
 refine ⟨fun j h => ?_, fun j h => ?_, fun j hj => ?_⟩
 ·rw [Nat.testBit_and, Bool.and_eq_true] at h; exact a.1 j h.1
 ·rw [Nat.testBit_and, Bool.and_eq_true] at h; exact a.2.1 j h.1
 ·rw [Nat.testBit_and, Nat.testBit_and, a.2.2 j hj, b.2.2 j hj]
theorem IsoS.sub {s t s' t' : Nat} (q : IsoT n π ρ) (a : IsoS n π s t) (b : IsoS n π s' t') : (∀ k, s.testBit k = true → s'.testBit k = true) ↔ (∀ k, t.testBit k = true → t'.testBit k = true) := by
 constructor
 ·intro h k hk
  have hkn := a.2.1 k hk
  have := h (ρ k) (by rw [a.2.2 _ (q.tl k hkn), q.pr k hkn]; exact hk)
  rw [b.2.2 _ (q.tl k hkn), q.pr k hkn] at this; exact this
 ·intro h k hk
  have hkn := a.1 k hk
  rw [b.2.2 k hkn]
  exact h (π k) (by rw [← a.2.2 k hkn]; exact hk)
theorem IsoS.none {s t : Nat} (q : IsoT n π ρ) (a : IsoS n π s t) : s = 0 ↔ t = 0 := by
 have h := IsoS.sub q a (IsoS.zero (n := n) (π := π))
 have z : ∀ s : Nat, s = 0 ↔ ∀ k, s.testBit k = true → (0 : Nat).testBit k = true := fun s => by
  constructor
  ·rintro rfl k hk; exact hk
  ·intro hk
   apply Nat.eq_of_testBit_eq
   intro i
   cases e : s.testBit i with
   | false => simp
   | true => exact (hk i e).symm
 rw [z s, z t, h]
theorem IsoS.join {s t : Nat} {F G : Nat → Nat} (q : IsoT n π ρ) (hn : n ≤ 64) (a : IsoS n π s t) (hF : ∀ k, k < n → IsoS n π (F k) (G (π k))) : IsoS n π (joinN F s) (joinN G t) := by
 refine ⟨fun j h => ?_, fun j h => ?_, fun j hj => ?_⟩
 ·obtain ⟨k, _, h1, h2⟩ := joinN_iff.1 h
  exact (hF k (a.1 k h1)).1 j h2
 ·obtain ⟨k, _, h1, h2⟩ := joinN_iff.1 h
  have hk := a.2.1 k h1
  rw [← q.pr k hk] at h2
  exact (hF (ρ k) (q.tl k hk)).2.1 j h2
 ·rw [Bool.eq_iff_iff, joinN_iff, joinN_iff]
  constructor
  ·rintro ⟨k, _, h1, h2⟩
   have hk := a.1 k h1
   exact ⟨π k, by have := q.lt k hk; omega, by rw [← a.2.2 k hk]; exact h1, by rw [← (hF k hk).2.2 j hj]; exact h2⟩
  ·rintro ⟨k, _, h1, h2⟩
   have hk := a.2.1 k h1
   have hr := q.tl k hk
   refine ⟨ρ k, by omega, by rw [a.2.2 _ hr, q.pr k hk]; exact h1, ?_⟩
   rw [(hF (ρ k) hr).2.2 j hj, q.pr k hk]; exact h2
theorem IsoS.wld {C b pl rv b' pl' rv' : Nat} {sF aF sG aG : Nat → Nat} (q : IsoT n π ρ) (hn : n ≤ 64) (hb : IsoS n π b b') (hp : IsoS n π pl pl') (hr : IsoS n π rv rv') (hs : ∀ k, k < n → IsoS n π (sF k) (sG (π k))) (ha : ∀ k, k < n → IsoS n π (aF k) (aG (π k))) : IsoS n π (wld4 b pl rv C sF aF) (wld4 b' pl' rv' C sG aG) := by
 have h1 : IsoS n π (wld1 b pl C) (wld1 b' pl' C) := by
  unfold wld1; split
  ·exact hb.or hp
  ·exact hb
 have h2 : IsoS n π (wld2 b pl rv C) (wld2 b' pl' rv' C) := by
  unfold wld2; split
  ·exact h1.or (hr.and hp)
  ·exact h1
 have h3 : IsoS n π (wld3 b pl rv C sF) (wld3 b' pl' rv' C sG) := by
  unfold wld3; split
  ·exact h2.or (h2.join q hn hs)
  ·exact h2
 unfold wld4; split
 ·exact h3.or (h3.join q hn ha)
 ·exact h3
theorem IsoS.row (q : IsoT n π ρ) (hn : n ≤ 64) {r : List Nat} (hr : ∀ i ∈ r, i < n) : IsoS n π (plS r) (plS (r.map π)) := by
 have h1 : ∀ i ∈ r, i < 64 := fun i hi => by have := hr i hi; omega
 have h2 : ∀ i ∈ r.map π, i < 64 := fun i hi => by
  obtain ⟨k, hk, rfl⟩ := List.mem_map.1 hi
  have := q.lt k (hr k hk); omega
 refine ⟨fun j h => ?_, fun j h => ?_, fun j hj => ?_⟩
 ·rw [plS_bit j r h1, decide_eq_true_eq] at h; exact hr j h
 ·rw [plS_bit j _ h2, decide_eq_true_eq] at h
  obtain ⟨k, hk, rfl⟩ := List.mem_map.1 h
  exact q.lt k (hr k hk)
 ·rw [plS_bit j r h1, plS_bit _ _ h2, Bool.eq_iff_iff, decide_eq_true_eq, decide_eq_true_eq, List.mem_map]
  exact ⟨fun h => ⟨j, h, rfl⟩, fun ⟨k, hk, e⟩ => by rw [← q.inj (hr k hk) hj e]; exact hk⟩
theorem IsoS.ahead (q : IsoT n π ρ) (hn : n ≤ 64) : ∀ {r : List Nat}, (∀ i ∈ r, i < n) → ∀ k, k < n → IsoS n π (aheadL r k) (aheadL (r.map π) (π k))
 | [], _, _, _ => IsoS.zero
 | i :: r, hr, k, hk => by
  have hi := hr i (List.mem_cons_self ..)
  have hr' : ∀ a ∈ r, a < n := fun a ha => hr a (List.mem_cons_of_mem _ ha)
  rw [List.map_cons]
  unfold aheadL
  by_cases e : k = i
  ·rw [if_pos e, if_pos (by rw [e])]; exact IsoS.row q hn hr'
  ·rw [if_neg e, if_neg (fun e2 => e (q.inj hk hi e2))]
   exact IsoS.ahead q hn hr' k hk
theorem IsoS.put {s t : Nat} (q : IsoT n π ρ) (hn : n ≤ 64) (a : IsoS n π s t) {k : Nat} (hk : k < n) : IsoS n π (withS s (k : Int)) (withS t ((π k : Nat) : Int)) := by
 have hp := q.lt k hk
 have e : ∀ (s j m : Nat), m < 64 → ((withS s (m : Int)).testBit j = true ↔ s.testBit j = true ∨ m = j) := fun s j m hm => by
  rw [testBit_withS, Bool.or_eq_true, Bool.and_eq_true, decide_eq_true_eq, decide_eq_true_eq, Int.toNat_natCast]
  exact or_congr Iff.rfl ⟨fun h => h.2, fun h => ⟨⟨by omega, by omega⟩, h⟩⟩
 refine ⟨fun j h => ?_, fun j h => ?_, fun j hj => ?_⟩
 ·rw [e _ _ _ (by omega)] at h
  rcases h with h | rfl
  ·exact a.1 j h
  ·exact hk
 ·rw [e _ _ _ (by omega)] at h
  rcases h with h | rfl
  ·exact a.2.1 j h
  ·exact hp
 ·rw [Bool.eq_iff_iff, e _ _ _ (by omega), e _ _ _ (by omega), a.2.2 j hj]
  exact or_congr Iff.rfl ⟨fun h => by rw [h], fun h => q.inj hk hj h⟩
end
structure IsoH (h x : List TxnV) (C : Nat) (π ρ : Nat → Nat) : Prop where
 len : x.length = h.length
 turn : IsoT h.length π ρ
 base : ∀ j, j < h.length → IsoS h.length π (baseN x C j) (baseN h C (π j))
 riv : ∀ j, j < h.length → IsoS h.length π (rivN x j) (rivN h (π j))
 reads : ∀ (j : Nat) (aF aG : Nat → Nat) (s t : Nat), j < h.length → IsoS h.length π s t → (∀ k, k < h.length → IsoS h.length π (aF k) (aG (π k))) → readsP x aF s j = readsP h aG t (π j)
 snd : soundTo x x.length = soundTo h h.length
section
variable {h x : List TxnV} {C : Nat} {π ρ : Nat → Nat}
theorem IsoH.see (q : IsoH h x C π ρ) (hn : h.length ≤ 64) : ∀ {r : List Nat}, (∀ i ∈ r, i < h.length) → ∀ k, k < h.length → IsoS h.length π (plSee x C r k) (plSee h C (r.map π) (π k))
 | [], _, _, _ => IsoS.zero
 | i :: r, hr, k, hk => by
  have hi := hr i (List.mem_cons_self ..)
  have hr' : ∀ a ∈ r, a < h.length := fun a ha => hr a (List.mem_cons_of_mem _ ha)
  rw [List.map_cons]
  unfold plSee
  by_cases e : k = i
  ·rw [if_pos e, if_pos (by rw [e])]
   exact IsoS.wld q.turn hn (q.base i hi) (IsoS.row q.turn hn hr') (q.riv i hi) (fun k hk => q.see hn hr' k hk) (fun k hk => IsoS.ahead q.turn hn hr' k hk)
  ·rw [if_neg e, if_neg (fun e2 => e (q.turn.inj hk hi e2))]
   exact q.see hn hr' k hk
theorem IsoH.next (q : IsoH h x C π ρ) (hn : h.length ≤ 64) {r : List Nat} (hr : ∀ i ∈ r, i < h.length) {i : Nat} (hi : i < h.length) : IsoS h.length π (nextN x C r i) (nextN h C (r.map π) (π i)) :=
 IsoS.wld q.turn hn (q.base i hi) (IsoS.row q.turn hn hr) (q.riv i hi) (fun k hk => q.see hn hr k hk) (fun k hk => IsoS.ahead q.turn hn hr k hk)
theorem IsoH.try (q : IsoH h x C π ρ) (hn : h.length ≤ 64) {r : List Nat} (hr : ∀ i ∈ r, i < h.length) {i : Nat} (hi : i < h.length) : tryP x C r i = tryP h C (r.map π) (π i) := by
 unfold tryP
 have e1 : decide (i ∈ r) = decide (π i ∈ r.map π) := by
  rw [Bool.eq_iff_iff, decide_eq_true_eq, decide_eq_true_eq, List.mem_map]
  exact ⟨fun h => ⟨i, h, rfl⟩, fun ⟨k, hk, e⟩ => by rw [← q.turn.inj (hr k hk) hi e]; exact hk⟩
 have e2 : inB (baseN x C i) (plS r) = inB (baseN h C (π i)) (plS (r.map π)) := by
  rw [Bool.eq_iff_iff, inB_bits (baseN_set ..), inB_bits (baseN_set ..)]
  exact IsoS.sub q.turn (q.base i hi) (IsoS.row q.turn hn hr)
 rw [q.len, decide_eq_true hi, decide_eq_true (q.turn.lt i hi), e1, e2, q.reads i (aheadL r) (aheadL (r.map π)) _ _ hi (q.next hn hr hi) (fun k hk => IsoS.ahead q.turn hn hr k hk)]
theorem IsoH.all (q : IsoH h x C π ρ) (hn : h.length ≤ 64) : ∀ (l r : List Nat), (∀ i ∈ r, i < h.length) → (∀ i ∈ l, i < h.length) → allT x C r l = allT h C (r.map π) (l.map π)
 | [], r, _, _ => by rw [List.map_nil]; unfold allT; rfl
 | i :: l, r, hr, hl => by
  have hi := hl i (List.mem_cons_self ..)
  rw [List.map_cons]
  unfold allT
  rw [q.try hn hr hi, IsoH.all q hn l (i :: r) (fun a ha => (List.mem_cons.1 ha).elim (fun e => e ▸ hi) (hr a)) (fun a ha => hl a (List.mem_cons_of_mem _ ha)), List.map_cons]
end
theorem exts_has {many : Nat} {x : List Nat} (hnd : x.Nodup) (hlt : ∀ i ∈ x, i < many) : ∀ (k : Nat) (r : List Nat), r <+: x → x.length = r.length + k → x ∈ exts many k r
 | 0, r, hp, hl => by
  have : r = x := hp.eq_of_length (by omega)
  subst this
  unfold exts; exact List.mem_singleton.2 rfl
 | k + 1, r, hp, hl => by
  obtain ⟨t, rfl⟩ := hp
  cases t with
  | nil => simp at hl
  | cons a t =>
   unfold exts
   rw [List.mem_flatMap]
   refine ⟨a, List.mem_range.2 (hlt a (by simp)), ?_⟩
   have ha : a ∉ r := fun h => (List.nodup_append.1 hnd).2.2 a h a (by simp) rfl
   rw [if_neg ha]
   exact exts_has hnd hlt k (r ++ [a]) ⟨t, by simp⟩ (by simp at hl ⊢; omega)
theorem orders_has {n : Nat} {x : List Nat} (hp : x.Perm (List.range n)) : x ∈ ordersN n :=
 exts_has (hp.nodup_iff.2 List.nodup_range) (fun i hi => List.mem_range.1 (hp.mem_iff.1 hi)) n [] ⟨x, rfl⟩ (by rw [hp.length_eq]; simp)
theorem dec_ex {h : List TxnV} {lv : Int} (hc : checkI h = 0) : (decW h lv).2.2 = true ↔ ∃ r : List Nat, r.Perm (List.range h.length) ∧ keptL h lv r = true := by
 rw [decW_some hc, List.find?_isSome]
 exact ⟨fun ⟨r, h1, h2⟩ => ⟨r, orders_perm h1, h2⟩, fun ⟨r, h1, h2⟩ => ⟨r, orders_has h1, h2⟩⟩
theorem turn_perm {n : Nat} {π ρ : Nat → Nat} (q : IsoT n π ρ) {r : List Nat} (hp : r.Perm (List.range n)) : (r.map π).Perm (List.range n) := by
 have hnd := hp.nodup_iff.2 List.nodup_range
 have hlt : ∀ i ∈ r, i < n := fun i hi => List.mem_range.1 (hp.mem_iff.1 hi)
 refine perm_range ?_ ?_ (by rw [List.length_map, hp.length_eq]; simp)
 ·rw [List.nodup_iff_pairwise_ne, List.pairwise_map]
  exact (List.nodup_iff_pairwise_ne.1 hnd).imp_of_mem fun ha hb hne e => hne (q.inj (hlt _ ha) (hlt _ hb) e)
 ·intro i hi
  obtain ⟨k, hk, rfl⟩ := List.mem_map.1 hi
  exact q.lt k (hlt k hk)
theorem IsoH.kept {h x : List TxnV} {lv : Int} {π ρ : Nat → Nat} (q : IsoH h x (clI ((askN lv : Nat) : Int)) π ρ) (hn : h.length ≤ 64) {r : List Nat} (hr : ∀ i ∈ r, i < h.length) : keptL x lv r = keptL h lv (r.map π) := by
 unfold keptL
 rw [q.snd, q.all hn r [] (fun i hi => by cases hi) hr, List.map_nil]
theorem IsoH.dec {h x : List TxnV} {lv : Int} {π ρ : Nat → Nat} (q : IsoH h x (clI ((askN lv : Nat) : Int)) π ρ) (hc : checkI h = 0) (hx : checkI x = 0) : (decW x lv).2.2 = (decW h lv).2.2 := by
 have hn := (check_zero hc).1
 rw [Bool.eq_iff_iff, dec_ex hx, dec_ex hc, q.len]
 constructor
 ·rintro ⟨r, hp, hk⟩
  have hlt : ∀ i ∈ r, i < h.length := fun i hi => List.mem_range.1 (hp.mem_iff.1 hi)
  exact ⟨r.map π, turn_perm q.turn hp, by rw [← q.kept hn hlt]; exact hk⟩
 ·rintro ⟨r, hp, hk⟩
  have hlt : ∀ i ∈ r, i < h.length := fun i hi => List.mem_range.1 (hp.mem_iff.1 hi)
  refine ⟨r.map ρ, turn_perm q.turn.symm hp, ?_⟩
  rw [q.kept hn (fun i hi => by obtain ⟨k, hk, rfl⟩ := List.mem_map.1 hi; exact q.turn.tl k (hlt k hk)), List.map_map]
  have e : r.map (π ∘ ρ) = r := by
   have : r.map (π ∘ ρ) = r.map id := List.map_congr_left fun i hi => q.turn.pr i (hlt i hi)
   rw [this, List.map_id]
  rw [e]; exact hk
end

section
open Go.RowKit
def renO (κ ν : Int → Int) (o : OpV) : OpV := ⟨o.wr, κ o.key, ν o.val⟩
def KeyIn (h : List TxnV) (k : Int) : Prop := ∃ t ∈ h, ∃ o ∈ t.l, o.key = k
def ValIn (h : List TxnV) (v : Int) : Prop := v = 0 ∨ ∃ t ∈ h, ∃ o ∈ t.l, o.val = v
theorem find_alike {α : Type} {p q : α → Bool} : ∀ (l : List α), (∀ a ∈ l, p a = q a) → l.find? p = l.find? q
 | [], _ => rfl
 | a :: l, h => by
  have h1 := h a (List.mem_cons_self ..)
  have h2 := find_alike l fun b hb => h b (List.mem_cons_of_mem _ hb)
  rw [List.find?_cons, List.find?_cons, h1, h2]
section
variable {κ ν : Int → Int} {l : List OpV} {K V : Int → Prop}
theorem ren_first (hk : ∀ a b, K a → K b → κ a = κ b → a = b) (hl : ∀ o ∈ l, K o.key) {k : Int} (hK : K k) : firstO (l.map (renO κ ν)) (κ k) = (firstO l k).map (renO κ ν) := by
 unfold firstO
 rw [List.find?_map]
 congr 1
 refine find_alike _ fun o ho => ?_
 show (κ o.key == κ k) = (o.key == k)
 rw [Bool.eq_iff_iff, beq_iff_eq, beq_iff_eq]
 exact ⟨hk _ _ (hl o ho) hK, fun e => by rw [e]⟩
theorem ren_lastW (hk : ∀ a b, K a → K b → κ a = κ b → a = b) (hl : ∀ o ∈ l, K o.key) {k : Int} (hK : K k) : lastW (l.map (renO κ ν)) (κ k) = (lastW l k).map (renO κ ν) := by
 unfold lastW
 rw [List.filter_map, List.getLast?_map]
 congr 2
 refine List.filter_congr fun o ho => ?_
 show (o.wr && (κ o.key == κ k)) = (o.wr && (o.key == k))
 congr 1
 rw [Bool.eq_iff_iff, beq_iff_eq, beq_iff_eq]
 exact ⟨hk _ _ (hl o ho) hK, fun e => by rw [e]⟩
theorem ren_lastO (hk : ∀ a b, K a → K b → κ a = κ b → a = b) (hl : ∀ o ∈ l, K o.key) {k : Int} (hK : K k) : lastO (l.map (renO κ ν)) (κ k) = (lastO l k).map (renO κ ν) := by
 unfold lastO
 rw [List.filter_map, List.getLast?_map]
 congr 2
 refine List.filter_congr fun o ho => ?_
 show (κ o.key == κ k) = (o.key == k)
 rw [Bool.eq_iff_iff, beq_iff_eq, beq_iff_eq]
 exact ⟨hk _ _ (hl o ho) hK, fun e => by rw [e]⟩
theorem ren_steady (hk : ∀ a b, K a → K b → κ a = κ b → a = b) (hl : ∀ o ∈ l, K o.key) (hv : ∀ a b, V a → V b → ν a = ν b → a = b) (hlv : ∀ o ∈ l, V o.val) : steadyL (l.map (renO κ ν)) = steadyL l := by
 unfold steadyL
 rw [List.length_map]
 refine all_congr _ fun k hkr => ?_
 have hkl := List.mem_range.1 hkr
 have hm := List.getElem_mem hkl
 rw [stOk_at (by rw [List.length_map]; exact hkl), stOk_at hkl, List.getElem_map, ← List.map_take]
 have e : lastO ((l.take k).map (renO κ ν)) (renO κ ν l[k]).key = (lastO (l.take k) l[k].key).map (renO κ ν) := ren_lastO hk (fun o ho => hl o (List.mem_of_mem_take ho)) (hl _ hm)
 rw [e]
 cases hh : lastO (l.take k) l[k].key with
 | none => rfl
 | some p =>
  have hp := List.mem_of_mem_take (lastO_key hh).2
  show (l[k].wr || (ν l[k].val == ν p.val)) = (l[k].wr || (l[k].val == p.val))
  congr 1
  rw [Bool.eq_iff_iff, beq_iff_eq, beq_iff_eq]
  exact ⟨hv _ _ (hlv _ hm) (hlv p hp), fun e => by rw [e]⟩
theorem ren_reads (hk : ∀ a b, K a → K b → κ a = κ b → a = b) (hl : ∀ o ∈ l, K o.key) (hkl : keysIn l) (hkx : keysIn (l.map (renO κ ν))) {o : OpV} : o ∈ refReads (l.map (renO κ ν)) ↔ ∃ p ∈ refReads l, o = renO κ ν p := by
 rw [(refReads_rise hkx).2]
 constructor
 ·rintro ⟨h1, h2⟩
  obtain ⟨p, hp, rfl⟩ := List.mem_map.1 (firstO_key h1).2
  change firstO _ (κ p.key) = _ at h1
  rw [ren_first hk hl (hl p hp)] at h1
  cases hf : firstO l p.key with
  | none => rw [hf] at h1; cases h1
  | some q =>
   rw [hf] at h1
   have hq := firstO_key hf
   have e := Option.some.inj h1
   exact ⟨q, ((refReads_rise hkl).2 q).2 ⟨by rw [hq.1]; exact hf, (congrArg OpV.wr e).trans h2⟩, e.symm⟩
 ·rintro ⟨p, hp, rfl⟩
  obtain ⟨h1, h2⟩ := ((refReads_rise hkl).2 p).1 hp
  refine ⟨?_, h2⟩
  show firstO _ (κ p.key) = _
  rw [ren_first hk hl (hl p (firstO_key h1).2), h1]; rfl
theorem ren_writes (hk : ∀ a b, K a → K b → κ a = κ b → a = b) (hl : ∀ o ∈ l, K o.key) (hkl : keysIn l) (hkx : keysIn (l.map (renO κ ν))) {o : OpV} : o ∈ refWrites (l.map (renO κ ν)) ↔ ∃ p ∈ refWrites l, o = renO κ ν p := by
 rw [(refWrites_rise hkx).2]
 constructor
 ·rintro ⟨h1, h2⟩
  obtain ⟨p, hp, rfl⟩ := List.mem_map.1 (lastW_key h1).2.2
  change lastW _ (κ p.key) = _ at h1
  rw [ren_lastW hk hl (hl p hp)] at h1
  cases hf : lastW l p.key with
  | none => rw [hf] at h1; cases h1
  | some q =>
   rw [hf] at h1
   have hq := lastW_key hf
   have e := Option.some.inj h1
   exact ⟨q, ((refWrites_rise hkl).2 q).2 ⟨by rw [hq.1]; exact hf, hq.2.1⟩, e.symm⟩
 ·rintro ⟨p, hp, rfl⟩
  obtain ⟨h1, h2⟩ := ((refWrites_rise hkl).2 p).1 hp
  refine ⟨?_, h2⟩
  show lastW _ (κ p.key) = _
  rw [ren_lastW hk hl (hl p (lastW_key h1).2.2), h1]; rfl
theorem vOf_last (hkl : keysIn l) {o : OpV} (ho : o ∈ l) (wo : o.wr = true) : ∃ p ∈ l, lastW l o.key = some p ∧ vOf l o.key = p.val := by
 have h0 := lastW_some l wo l.length (Nat.le_refl _) (by rw [List.take_length]; exact ho)
 rw [List.take_length] at h0
 obtain ⟨p, hp⟩ := Option.isSome_iff_exists.1 h0
 have hpk := lastW_key hp
 refine ⟨p, hpk.2.2, hp, ?_⟩
 have hm : p ∈ refWrites l := ((refWrites_rise hkl).2 p).2 ⟨by rw [hpk.1]; exact hp, hpk.2.1⟩
 unfold vOf
 cases hf : (refWrites l).find? (fun q => q.key == o.key) with
 | none => have := List.find?_eq_none.1 hf p hm; simp [hpk.1] at this
 | some q =>
  have hq := List.mem_of_find?_eq_some hf
  have hqk : q.key = o.key := by simpa using List.find?_some hf
  have h2 := ((refWrites_rise hkl).2 q).1 hq
  rw [hqk, hp] at h2
  obtain rfl := Option.some.inj h2.1
  rfl
theorem ren_vOf (hk : ∀ a b, K a → K b → κ a = κ b → a = b) (hl : ∀ o ∈ l, K o.key) (hv : ∀ a b, V a → V b → ν a = ν b → a = b) (hlv : ∀ o ∈ l, V o.val) (hkl : keysIn l) (hkx : keysIn (l.map (renO κ ν))) {o : OpV} (ho : o ∈ l) (wo : o.wr = true) {v : Int} (hV : V v) : (vOf (l.map (renO κ ν)) (κ o.key) == ν v) = (vOf l o.key == v) := by
 obtain ⟨p, hp, h1, h2⟩ := vOf_last hkl ho wo
 obtain ⟨p2, hp2, h3, h4⟩ := vOf_last hkx (List.mem_map_of_mem ho) wo
 have e : lastW (l.map (renO κ ν)) (κ o.key) = some p2 := h3
 rw [ren_lastW hk hl (hl o ho), h1] at e
 obtain rfl := Option.some.inj e
 have h5 : vOf (l.map (renO κ ν)) (κ o.key) = ν p.val := h4
 rw [h5, h2, Bool.eq_iff_iff, beq_iff_eq, beq_iff_eq]
 exact ⟨hv _ _ (hlv p hp) hV, fun e => by rw [e]⟩
end
structure Ren (h x : List TxnV) (π ρ : Nat → Nat) (κ ν : Int → Int) : Prop where
 len : x.length = h.length
 turn : IsoT h.length π ρ
 ops : ∀ j, j < h.length → opsAt x j = (opsAt h (π j)).map (renO κ ν)
 key : ∀ a b, KeyIn h a → KeyIn h b → κ a = κ b → a = b
 val : ∀ a b, ValIn h a → ValIn h b → ν a = ν b → a = b
 zero : ν 0 = 0
def turnI (ρ : Nat → Nat) (i : Int) : Int := if 0 ≤ i then ((ρ i.toNat : Nat) : Int) else i
theorem turnI_nat (ρ : Nat → Nat) (i : Nat) : turnI ρ (i : Int) = ((ρ i : Nat) : Int) := by unfold turnI; rw [if_pos (by omega), Int.toNat_natCast]
theorem keyIn_at {h : List TxnV} {i : Nat} (hi : i < h.length) {o : OpV} (ho : o ∈ opsAt h i) : KeyIn h o.key := ⟨h[i], List.getElem_mem hi, o, by rw [← opsAt_eq hi]; exact ho, rfl⟩
theorem valIn_at {h : List TxnV} {i : Nat} (hi : i < h.length) {o : OpV} (ho : o ∈ opsAt h i) : ValIn h o.val := .inr ⟨h[i], List.getElem_mem hi, o, by rw [← opsAt_eq hi]; exact ho, rfl⟩
theorem wvH_at {h : List TxnV} {v : Int} : v ∈ wvH h ↔ ∃ i, i < h.length ∧ ∃ o ∈ opsAt h i, o.wr = true ∧ o.val = v := by
 unfold wvH
 rw [List.mem_flatMap]
 constructor
 ·rintro ⟨t, ht, hv⟩
  obtain ⟨i, hi, rfl⟩ := List.mem_iff_getElem.1 ht
  obtain ⟨o, ho, wo, e⟩ := wv_mem.1 hv
  exact ⟨i, hi, o, by rw [opsAt_eq hi]; exact ho, wo, e⟩
 ·rintro ⟨i, hi, o, ho, wo, e⟩
  rw [opsAt_eq hi] at ho
  exact ⟨h[i], List.getElem_mem hi, wv_mem.2 ⟨o, ho, wo, e⟩⟩
theorem keys_at0 {h : List TxnV} (hk : ∀ t ∈ h, keysIn t.l) {i : Nat} (hi : i < h.length) : keysIn (opsAt h i) := by rw [opsAt_eq hi]; exact hk _ (List.getElem_mem hi)
section
variable {h x : List TxnV} {π ρ : Nat → Nat} {κ ν : Int → Int}
theorem Ren.wr_at (q : Ren h x π ρ κ ν) (hkh : ∀ t ∈ h, keysIn t.l) (hkx : ∀ t ∈ x, keysIn t.l) (hoh : okW h = true) (hox : okW x = true) {i : Nat} (hi : i < h.length) {o : OpV} (ho : o ∈ opsAt h i) (wo : o.wr = true) :
  ∃ b, wrTo h h.length o.val = some ⟨i, o.key, b⟩ ∧ wrTo x x.length (ν o.val) = some ⟨((ρ i : Nat) : Int), κ o.key, b⟩ := by
 have hr := q.turn.tl i hi
 have e := q.ops (ρ i) hr
 rw [q.turn.pr i hi] at e
 have hrx : ρ i < x.length := by rw [q.len]; exact hr
 have a := wrTo_at hkh h.length (Nat.le_refl _) (by rw [List.take_length]; exact of_decide_eq_true hoh) i hi hi o (by rw [← opsAt_eq hi]; exact ho) wo
 have hmx : renO κ ν o ∈ opsAt x (ρ i) := by rw [e]; exact List.mem_map_of_mem ho
 have b := wrTo_at hkx x.length (Nat.le_refl _) (by rw [List.take_length]; exact of_decide_eq_true hox) (ρ i) hrx hrx (renO κ ν o) (by rw [← opsAt_eq hrx]; exact hmx) wo
 refine ⟨vOf h[i].l o.key == o.val, a, ?_⟩
 have hkx2 := keys_at0 hkx hrx
 rw [e] at hkx2
 have c := ren_vOf (K := KeyIn h) (V := ValIn h) q.key (fun p hp => keyIn_at hi hp) q.val (fun p hp => valIn_at hi hp) (keys_at0 hkh hi) hkx2 ho wo (valIn_at hi ho)
 rw [← opsAt_eq hrx, e] at b
 rw [← opsAt_eq hi, ← c]
 exact b
theorem Ren.wr_none (q : Ren h x π ρ κ ν) {v : Int} (hV : ValIn h v) (hn : wrTo h h.length v = none) : wrTo x x.length (ν v) = none := by
 have d1 := dom_wr h h.length (Nat.le_refl _) v
 have d2 := dom_wr x x.length (Nat.le_refl _) (ν v)
 rw [hn, List.take_length] at d1
 rw [List.take_length] at d2
 cases e : wrTo x x.length (ν v) with
 | none => rfl
 | some u =>
  rw [e] at d2
  obtain ⟨j, hj, o, ho, wo, ev⟩ := wvH_at.1 (of_decide_eq_true d2.symm)
  rw [q.len] at hj
  rw [q.ops j hj] at ho
  obtain ⟨p, hp, rfl⟩ := List.mem_map.1 ho
  have hpj := q.turn.lt j hj
  have := q.val _ _ (valIn_at hpj hp) hV ev
  exact absurd (wvH_at.2 ⟨π j, hpj, p, hp, wo, this⟩) (of_decide_eq_false d1.symm)
theorem Ren.wr_some (q : Ren h x π ρ κ ν) (hkh : ∀ t ∈ h, keysIn t.l) (hkx : ∀ t ∈ x, keysIn t.l) (hoh : okW h = true) (hox : okW x = true) {v : Int} {u : WV} (hs : wrTo h h.length v = some u) :
  ∃ i : Nat, i < h.length ∧ u.i = (i : Int) ∧ wrTo x x.length (ν v) = some ⟨((ρ i : Nat) : Int), κ u.key, u.last⟩ := by
 have d1 := dom_wr h h.length (Nat.le_refl _) v
 rw [hs, List.take_length] at d1
 obtain ⟨i, hi, o, ho, wo, rfl⟩ := wvH_at.1 (of_decide_eq_true d1.symm)
 obtain ⟨b, h1, h2⟩ := q.wr_at hkh hkx hoh hox hi ho wo
 rw [h1] at hs
 obtain rfl := Option.some.inj hs
 exact ⟨i, hi, rfl, h2⟩
theorem Ren.frm (q : Ren h x π ρ κ ν) (hkh : ∀ t ∈ h, keysIn t.l) (hkx : ∀ t ∈ x, keysIn t.l) (hoh : okW h = true) (hox : okW x = true) {v : Int} (hV : ValIn h v) :
  fromO (wrTo x x.length) (ν v) = turnI ρ (fromO (wrTo h h.length) v) ∧ (fromO (wrTo h h.length) v = -1 ∨ ∃ i : Nat, i < h.length ∧ fromO (wrTo h h.length) v = (i : Int)) := by
 unfold fromO
 cases e : wrTo h h.length v with
 | none => rw [q.wr_none hV e]; exact ⟨rfl, .inl rfl⟩
 | some u =>
  obtain ⟨i, hi, e1, e2⟩ := q.wr_some hkh hkx hoh hox e
  rw [e2]
  simp only [Option.map_some, Option.getD_some]
  rw [e1, turnI_nat]
  exact ⟨rfl, .inr ⟨i, hi, rfl⟩⟩
theorem Ren.bad (q : Ren h x π ρ κ ν) (hkh : ∀ t ∈ h, keysIn t.l) (hkx : ∀ t ∈ x, keysIn t.l) (hoh : okW h = true) (hox : okW x = true) {o : OpV} (hV : ValIn h o.val) {j : Nat} (hj : j < h.length) :
  badFr (wrTo x x.length) (j : Int) (renO κ ν o) = badFr (wrTo h h.length) ((π j : Nat) : Int) o := by
 unfold badFr
 show (match wrTo x x.length (ν o.val) with | none => false | some u => decide (u.i = (j : Int)) || !u.last) = _
 cases e : wrTo h h.length o.val with
 | none => rw [q.wr_none hV e]
 | some u =>
  obtain ⟨i, hi, e1, e2⟩ := q.wr_some hkh hkx hoh hox e
  rw [e2]
  simp only
  congr 1
  rw [Bool.eq_iff_iff, decide_eq_true_eq, decide_eq_true_eq, e1]
  constructor
  ·intro a
   have : ρ i = j := by omega
   rw [← this, q.turn.pr i hi]
  ·intro a
   have : i = π j := by omega
   rw [this, q.turn.rp j hj]
theorem Ren.reads_mem (hc : checkI h = 0) (hx : checkI x = 0) (q : Ren h x π ρ κ ν) {j : Nat} (hj : j < h.length) {p : Int × Int} : p ∈ readsOf x j ↔ ∃ r ∈ readsOf h (π j), p = (κ r.1, turnI ρ r.2) := by
 obtain ⟨h64, _, hoh, hkh⟩ := check_zero hc
 obtain ⟨_, _, hox, hkx⟩ := check_zero hx
 have hpj := q.turn.lt j hj
 have hjx : j < x.length := by rw [q.len]; exact hj
 have hk1 := keys_at0 hkh hpj
 have hk2 := keys_at0 hkx hjx
 rw [q.ops j hj] at hk2
 unfold readsOf rdFr
 rw [q.ops j hj]
 simp only [List.mem_map, List.mem_filter]
 constructor
 ·rintro ⟨o, ⟨ho, hne⟩, rfl⟩
  obtain ⟨p, hp, rfl⟩ := (ren_reads (K := KeyIn h) q.key (fun p hp => keyIn_at hpj hp) hk1 hk2).1 ho
  have hpl := (refReads_in hp).1
  obtain ⟨f1, f2⟩ := q.frm hkh hkx hoh hox (valIn_at hpj hpl)
  have f1' : fromO (wrTo x x.length) (renO κ ν p).val = _ := f1
  rw [f1'] at hne ⊢
  refine ⟨_, ⟨p, ⟨hp, ?_⟩, rfl⟩, rfl⟩
  rw [bne_iff_ne] at hne ⊢
  intro e
  apply hne
  rw [e, turnI_nat, q.turn.rp j hj]
 ·rintro ⟨_, ⟨o, ⟨ho, hne⟩, rfl⟩, rfl⟩
  have hol := (refReads_in ho).1
  obtain ⟨f1, f2⟩ := q.frm hkh hkx hoh hox (valIn_at hpj hol)
  have f1' : fromO (wrTo x x.length) (renO κ ν o).val = _ := f1
  refine ⟨renO κ ν o, ⟨(ren_reads (K := KeyIn h) q.key (fun p hp => keyIn_at hpj hp) hk1 hk2).2 ⟨o, ho, rfl⟩, ?_⟩, by rw [f1']; rfl⟩
  rw [f1']
  rw [bne_iff_ne] at hne ⊢
  intro e
  rcases f2 with f2 | ⟨i, hi, f2⟩
  ·rw [f2] at e; unfold turnI at e; rw [if_neg (by omega)] at e; omega
  ·rw [f2, turnI_nat] at e
   apply hne
   rw [f2]
   have : ρ i = j := by omega
   rw [← this, q.turn.pr i hi]
theorem Ren.keys (hc : checkI h = 0) (hx : checkI x = 0) (q : Ren h x π ρ κ ν) {j : Nat} (hj : j < h.length) {y : Int} : y ∈ keysOf (opsAt x j) ↔ ∃ k ∈ keysOf (opsAt h (π j)), y = κ k := by
 obtain ⟨h64, _, hoh, hkh⟩ := check_zero hc
 obtain ⟨_, _, hox, hkx⟩ := check_zero hx
 have hpj := q.turn.lt j hj
 have hjx : j < x.length := by rw [q.len]; exact hj
 have hk1 := keys_at0 hkh hpj
 have hk2 := keys_at0 hkx hjx
 rw [q.ops j hj] at hk2
 unfold keysOf
 rw [q.ops j hj, List.mem_map]
 constructor
 ·rintro ⟨o, ho, rfl⟩
  obtain ⟨p, hp, rfl⟩ := (ren_writes (K := KeyIn h) q.key (fun p hp => keyIn_at hpj hp) hk1 hk2).1 ho
  exact ⟨p.key, List.mem_map_of_mem hp, rfl⟩
 ·rintro ⟨k, hk, rfl⟩
  obtain ⟨p, hp, rfl⟩ := List.mem_map.1 hk
  exact ⟨renO κ ν p, (ren_writes (K := KeyIn h) q.key (fun p hp => keyIn_at hpj hp) hk1 hk2).2 ⟨p, hp, rfl⟩, rfl⟩
theorem keysOf_in {i : Nat} (hi : i < h.length) {k : Int} (hk : k ∈ keysOf (opsAt h i)) : KeyIn h k := by
 obtain ⟨p, hp, rfl⟩ := List.mem_map.1 hk
 exact keyIn_at hi (refWrites_mem hp).1
theorem Ren.key_at (hc : checkI h = 0) (hx : checkI x = 0) (q : Ren h x π ρ κ ν) {j : Nat} (hj : j < h.length) {k : Int} (hK : KeyIn h k) : κ k ∈ keysOf (opsAt x j) ↔ k ∈ keysOf (opsAt h (π j)) := by
 rw [q.keys hc hx hj]
 constructor
 ·rintro ⟨k2, h2, e⟩
  rw [q.key _ _ hK (keysOf_in (q.turn.lt j hj) h2) e]; exact h2
 ·intro h2; exact ⟨k, h2, rfl⟩
theorem Ren.wrt (hc : checkI h = 0) (hx : checkI x = 0) (q : Ren h x π ρ κ ν) {k : Int} (hK : KeyIn h k) : IsoS h.length π (wrtN x (κ k)) (wrtN h k) := by
 have h64 := (check_zero hc).1
 unfold wrtN
 refine ⟨fun j e => ?_, fun j e => ?_, fun j hj => ?_⟩
 ·rw [testBit_mkS, q.len] at e; simp at e; exact e.2.1
 ·rw [testBit_mkS] at e; simp at e; exact e.2.1
 ·have := q.turn.lt j hj
  rw [testBit_mkS, testBit_mkS, q.len, decide_eq_true (show j < 64 by omega), decide_eq_true (show π j < 64 by omega), decide_eq_true hj, decide_eq_true this, Bool.true_and, Bool.true_and, Bool.true_and, Bool.true_and, Bool.eq_iff_iff, decide_eq_true_eq, decide_eq_true_eq]
  exact q.key_at hc hx hj hK
theorem riv_keys (hc : checkI h = 0) {i k : Nat} (hi : i < h.length) (hk : k < h.length) : rivR h i k = true ↔ ∃ y, y ∈ keysOf (opsAt h i) ∧ y ∈ keysOf (opsAt h k) := by
 obtain ⟨h64, _, hoh, hkh⟩ := check_zero hc
 unfold rivR
 rw [List.any_eq_true]
 constructor
 ·rintro ⟨n, _, e⟩
  rw [Bool.and_eq_true] at e
  exact ⟨n, (keysOf_iff hc hi _).2 e.1, (keysOf_iff hc hk _).2 e.2⟩
 ·rintro ⟨y, h1, h2⟩
  have hy : 0 ≤ y ∧ y < 64 := by
   obtain ⟨p, hp, rfl⟩ := List.mem_map.1 h1
   exact keys_at0 hkh hi p (refWrites_mem hp).1
  refine ⟨y.toNat, List.mem_range.2 (by omega), ?_⟩
  rw [Int.toNat_of_nonneg hy.1, Bool.and_eq_true]
  exact ⟨(keysOf_iff hc hi _).1 h1, (keysOf_iff hc hk _).1 h2⟩
theorem Ren.riv (hc : checkI h = 0) (hx : checkI x = 0) (q : Ren h x π ρ κ ν) {j : Nat} (hj : j < h.length) : IsoS h.length π (rivN x j) (rivN h (π j)) := by
 have h64 := (check_zero hc).1
 have hpj := q.turn.lt j hj
 refine ⟨fun i e => ?_, fun i e => ?_, fun i hi => ?_⟩
 ·have := (rivN_bit.1 e).2
  unfold rivB at this
  rw [q.len] at this
  simp only [Bool.and_eq_true, decide_eq_true_eq] at this
  exact this.2.1
 ·have := (rivN_bit.1 e).2
  unfold rivB at this
  simp only [Bool.and_eq_true, decide_eq_true_eq] at this
  exact this.2.1
 ·have hpi := q.turn.lt i hi
  rw [Bool.eq_iff_iff, rivN_bit, rivN_bit]
  unfold rivB
  rw [q.len, decide_eq_true hj, decide_eq_true hi, decide_eq_true hpj, decide_eq_true hpi, Bool.true_and, Bool.true_and, Bool.true_and, Bool.true_and, Bool.and_eq_true, Bool.and_eq_true, decide_eq_true_eq, decide_eq_true_eq,
   riv_keys hx (by rw [q.len]; exact hj) (by rw [q.len]; exact hi), riv_keys hc hpj hpi]
  have e1 : j ≠ i ↔ π j ≠ π i := ⟨fun a b => a (q.turn.inj hj hi b), fun a b => a (by rw [b])⟩
  have e2 : (∃ y, y ∈ keysOf (opsAt x j) ∧ y ∈ keysOf (opsAt x i)) ↔ ∃ y, y ∈ keysOf (opsAt h (π j)) ∧ y ∈ keysOf (opsAt h (π i)) := by
   constructor
   ·rintro ⟨y, a, b⟩
    obtain ⟨k, hk, rfl⟩ := (q.keys hc hx hj).1 a
    exact ⟨k, hk, (q.key_at hc hx hi (keysOf_in hpj hk)).1 b⟩
   ·rintro ⟨k, a, b⟩
    exact ⟨κ k, (q.key_at hc hx hj (keysOf_in hpj a)).2 a, (q.key_at hc hx hi (keysOf_in hpj a)).2 b⟩
  rw [e1, e2]
  exact ⟨fun ⟨_, a⟩ => ⟨by omega, a⟩, fun ⟨_, a⟩ => ⟨by omega, a⟩⟩
theorem Ren.fro (hc : checkI h = 0) (hx : checkI x = 0) (q : Ren h x π ρ κ ν) {i j : Nat} (hi : i < h.length) (hj : j < h.length) : froP x i j = froP h (π i) (π j) := by
 unfold froP
 rw [Bool.eq_iff_iff, List.any_eq_true, List.any_eq_true]
 constructor
 ·rintro ⟨p, hp, e⟩
  obtain ⟨r, hr, rfl⟩ := (q.reads_mem hc hx hj).1 hp
  refine ⟨r, hr, ?_⟩
  simp only [decide_eq_true_eq] at e ⊢
  rcases read_from hc (q.turn.lt j hj) hr with e2 | ⟨n, hn, e2, _, _⟩
  ·rw [e2] at e; unfold turnI at e; rw [if_neg (by omega)] at e; omega
  ·rw [e2, turnI_nat] at e
   have : ρ n = i := by omega
   rw [e2, ← this, q.turn.pr n hn]
 ·rintro ⟨r, hr, e⟩
  refine ⟨_, (q.reads_mem hc hx hj).2 ⟨r, hr, rfl⟩, ?_⟩
  simp only [decide_eq_true_eq] at e ⊢
  rw [e, turnI_nat, q.turn.rp i hi]
theorem Ren.base (hc : checkI h = 0) (hx : checkI x = 0) (q : Ren h x π ρ κ ν) {C : Nat} (hC : C < 9223372036854775808) (hs : C.testBit 0 = true → ∀ i j, i < h.length → j < h.length → sesP x i j = sesP h (π i) (π j))
  (ht : C.testBit 5 = true → ∀ i j, i < h.length → j < h.length → timP x i j = timP h (π i) (π j)) {j : Nat} (hj : j < h.length) : IsoS h.length π (baseN x C j) (baseN h C (π j)) := by
 have h64 := (check_zero hc).1
 have hpj := q.turn.lt j hj
 refine ⟨fun i e => ?_, fun i e => ?_, fun i hi => ?_⟩
 ·obtain ⟨h1, h2⟩ := (baseN_bit (by omega)).1 e
  rw [← q.len]; exact (baseM_lt hC h1 (by omega) h2).1
 ·obtain ⟨h1, h2⟩ := (baseN_bit (by omega)).1 e
  exact (baseM_lt hC h1 (by omega) h2).1
 ·have hpi := q.turn.lt i hi
  rw [Bool.eq_iff_iff, baseN_bit (by omega), baseN_bit (by omega), baseM_iff x C hC, baseM_iff h C hC]
  have e0 : froM x i j = true ↔ froM h (π i) (π j) = true := by
   unfold froM
   rw [prsTo_iff _ _ i j (by omega) (by omega), prsTo_iff _ _ (π i) (π j) (by omega) (by omega), q.fro hc hx hi hj, q.len]
   exact ⟨fun a => ⟨hpi, hpj, a.2.2⟩, fun a => ⟨hi, hj, a.2.2⟩⟩
  have e1 : (C.testBit 0 = true ∧ sesM x i j = true) ↔ (C.testBit 0 = true ∧ sesM h (π i) (π j) = true) := by
   refine and_congr_right fun c => ?_
   unfold sesM
   rw [prsTo_iff _ _ i j (by omega) (by omega), prsTo_iff _ _ (π i) (π j) (by omega) (by omega), hs c i j hi hj, q.len]
   exact ⟨fun a => ⟨hpi, hpj, a.2.2⟩, fun a => ⟨hi, hj, a.2.2⟩⟩
  have e2 : (C.testBit 5 = true ∧ timM x i j = true) ↔ (C.testBit 5 = true ∧ timM h (π i) (π j) = true) := by
   refine and_congr_right fun c => ?_
   unfold timM
   rw [prsTo_iff _ _ i j (by omega) (by omega), prsTo_iff _ _ (π i) (π j) (by omega) (by omega), ht c i j hi hj, q.len]
   exact ⟨fun a => ⟨hpi, hpj, a.2.2⟩, fun a => ⟨hi, hj, a.2.2⟩⟩
  rw [e0, e1, e2]
  exact ⟨fun a => ⟨by omega, a.2⟩, fun a => ⟨by omega, a.2⟩⟩
theorem Ren.readsP (hc : checkI h = 0) (hx : checkI x = 0) (q : Ren h x π ρ κ ν) {j : Nat} {aF aG : Nat → Nat} {s t : Nat} (hj : j < h.length) (hs : IsoS h.length π s t) (ha : ∀ k, k < h.length → IsoS h.length π (aF k) (aG (π k))) : readsP x aF s j = Go.Proofs.YtnhkjehfmbfmmaaGreatDoor.readsP h aG t (π j) := by
 have h64 := (check_zero hc).1
 have hpj := q.turn.lt j hj
 have one : ∀ r ∈ readsOf h (π j), readP x aF s (κ r.1, turnI ρ r.2) = readP h aG t r := by
  intro r hr
  have hK : KeyIn h r.1 := by
   obtain ⟨o, ho, rfl⟩ := List.mem_map.1 hr
   exact keyIn_at hpj (refReads_in (List.mem_filter.1 ho).1).1
  have hw := hs.and (q.wrt hc hx hK)
  unfold readP readW
  rcases read_from hc hpj hr with e | ⟨n, hn, e, _, _⟩
  ·have e2 : turnI ρ (-1) = -1 := rfl
   simp only [e, e2]
   rw [if_neg (by omega), if_neg (by omega), Bool.eq_iff_iff, decide_eq_true_eq, decide_eq_true_eq]
   exact IsoS.none q.turn hw
  ·have hrn := q.turn.tl n hn
   have e2 : turnI ρ (n : Int) = ((ρ n : Nat) : Int) := turnI_nat ρ n
   simp only [e, e2]
   rw [if_pos (by omega), if_pos (by omega), Bool.eq_iff_iff, decide_eq_true_eq, decide_eq_true_eq, lack_iff, lack_iff, Int.toNat_natCast, Int.toNat_natCast]
   have hp := IsoS.put q.turn h64 (ha (ρ n) hrn) hrn
   rw [q.turn.pr n hn] at hp
   exact IsoS.sub q.turn hw hp
 unfold Go.Proofs.YtnhkjehfmbfmmaaGreatDoor.readsP
 rw [Bool.eq_iff_iff, List.all_eq_true, List.all_eq_true]
 constructor
 ·intro a r hr
  rw [← one r hr]
  exact a _ ((q.reads_mem hc hx hj).2 ⟨r, hr, rfl⟩)
 ·intro a p hp
  obtain ⟨r, hr, rfl⟩ := (q.reads_mem hc hx hj).1 hp
  rw [one r hr]; exact a r hr
theorem Ren.sound (hc : checkI h = 0) (hx : checkI x = 0) (q : Ren h x π ρ κ ν) : soundTo x x.length = soundTo h h.length := by
 obtain ⟨h64, _, hoh, hkh⟩ := check_zero hc
 obtain ⟨_, _, hox, hkx⟩ := check_zero hx
 have one : ∀ j, j < h.length → soundOf x j = soundOf h (π j) := by
  intro j hj
  have hpj := q.turn.lt j hj
  have hjx : j < x.length := by rw [q.len]; exact hj
  have hk1 := keys_at0 hkh hpj
  have hk2 := keys_at0 hkx hjx
  rw [q.ops j hj] at hk2
  unfold soundOf
  rw [q.ops j hj, ren_steady (K := KeyIn h) (V := ValIn h) q.key (fun p hp => keyIn_at hpj hp) q.val (fun p hp => valIn_at hpj hp)]
  congr 2
  rw [Bool.eq_iff_iff, List.any_eq_true, List.any_eq_true]
  constructor
  ·rintro ⟨o, ho, e⟩
   obtain ⟨p, hp, rfl⟩ := (ren_reads (K := KeyIn h) q.key (fun p hp => keyIn_at hpj hp) hk1 hk2).1 ho
   exact ⟨p, hp, by rw [← q.bad hkh hkx hoh hox (valIn_at hpj (refReads_in hp).1) hj]; exact e⟩
  ·rintro ⟨p, hp, e⟩
   exact ⟨renO κ ν p, (ren_reads (K := KeyIn h) q.key (fun p hp => keyIn_at hpj hp) hk1 hk2).2 ⟨p, hp, rfl⟩, by rw [q.bad hkh hkx hoh hox (valIn_at hpj (refReads_in hp).1) hj]; exact e⟩
 unfold soundTo
 rw [Bool.eq_iff_iff, List.all_eq_true, List.all_eq_true]
 constructor
 ·intro a i hi
  have hi := List.mem_range.1 hi
  rw [← q.turn.pr i hi, ← one _ (q.turn.tl i hi)]
  exact a _ (List.mem_range.2 (by rw [q.len]; exact q.turn.tl i hi))
 ·intro a j hj
  have hj := List.mem_range.1 hj
  rw [q.len] at hj
  rw [one j hj]; exact a _ (List.mem_range.2 (q.turn.lt j hj))
theorem Ren.iso (hc : checkI h = 0) (hx : checkI x = 0) (q : Ren h x π ρ κ ν) {C : Nat} (hC : C < 9223372036854775808) (hs : C.testBit 0 = true → ∀ i j, i < h.length → j < h.length → sesP x i j = sesP h (π i) (π j))
  (ht : C.testBit 5 = true → ∀ i j, i < h.length → j < h.length → timP x i j = timP h (π i) (π j)) : IsoH h x C π ρ :=
 ⟨q.len, q.turn, fun _ hj => q.base hc hx hC hs ht hj, fun _ hj => q.riv hc hx hj, fun _ _ _ _ _ hj a b => q.readsP hc hx hj a b, q.sound hc hx⟩
end
section
variable {h x : List TxnV} {π ρ : Nat → Nat} {κ ν : Int → Int}
end
end

section
open Go.RowKit
abbrev ETx := Int × Int × Int × List OpV
def renE (f τ κ ν : Int → Int) (e : ETx) : ETx := (f e.1, τ e.2.1, τ e.2.2.1, e.2.2.2.map (renO κ ν))
def sesE (E : List ETx) : List Int := E.map (·.1)
def keyE (E : List ETx) : List Int := E.flatMap fun e => e.2.2.2.map (·.key)
def valA (E : List ETx) : List Int := E.flatMap fun e => e.2.2.2.map (·.val)
theorem sesE_mem {E : List ETx} {e : ETx} (he : e ∈ E) : e.1 ∈ sesE E := List.mem_map_of_mem he
end

section
open Go.RowKit
theorem check_rightB {h : List TxnV} (hc : checkI h = 0) : partsB h = true ∧ valuesB h = true ∧ stampsB h = true ∧ sesB h = true := by
 unfold checkI at hc
 split at hc
 ·cases hc
 ·split at hc
  ·rename_i hr
   unfold rightB at hr
   simp only [Bool.and_eq_true] at hr
   exact ⟨hr.1, hr.2.1, hr.2.2.1, hr.2.2.2⟩
  ·cases hc
theorem may_at {h : List TxnV} (hp : partsB h = true) {t : TxnV} (ht : t ∈ h) : (0 ≤ t.s ∧ t.s < 64 ∧ 0 ≤ t.b ∧ t.b < t.c ∧ t.c ≤ 2147483647 ∧ 1 ≤ t.l.length ∧ t.l.length ≤ 64) ∧ ∀ o ∈ t.l, mayO o = true := by
 have h1 := List.all_eq_true.1 hp t ht
 unfold mayT at h1
 rw [Bool.and_eq_true, decide_eq_true_eq] at h1
 exact ⟨h1.1, fun o ho => List.all_eq_true.1 h1.2 o ho⟩
theorem check_bc {h : List TxnV} (hc : checkI h = 0) : ∀ t ∈ h, t.b < t.c := fun _ ht => (may_at (check_rightB hc).1 ht).1.2.2.2.1
theorem st_apart {h : List TxnV} (hs : stampsB h = true) {i j : Nat} (hi : i < h.length) (hj : j < h.length) (hne : i ≠ j) : Apart h[i] h[j] := by
 have hd : (stL h).Nodup := of_decide_eq_true hs
 have hd' : (stL (h.take h.length)).Nodup := by rw [List.take_length]; exact hd
 rcases Nat.lt_or_gt_of_ne hne with e | e
 ·exact st_take hd' i j hj (Nat.le_refl _) e
 ·obtain ⟨a, b, c, d⟩ := st_take hd' j i hi (Nat.le_refl _) e
  exact ⟨fun q => a q.symm, fun q => c q.symm, fun q => b q.symm, fun q => d q.symm⟩
theorem begins_nodup {h : List TxnV} (hs : stampsB h = true) : (h.map (·.b)).Nodup := by
 rw [List.nodup_iff_pairwise_ne, List.pairwise_map, List.pairwise_iff_getElem]
 intro i j hi hj hij
 exact (st_apart hs hi hj (by omega)).1
theorem ses_timP {h : List TxnV} (hc : checkI h = 0) {i j : Nat} (hi : i < h.length) (hj : j < h.length) : sesP h i j = true ↔ sAt h i = sAt h j ∧ timP h i j = true := by
 have hbc := check_bc hc
 have hse := (check_rightB hc).2.2.2
 unfold sesP timP
 rw [Bool.and_eq_true, decide_eq_true_eq, decide_eq_true_eq, decide_eq_true_eq, sAt_eq hi, sAt_eq hj, cAt_eq hi, bAt_eq hj]
 constructor
 ·rintro ⟨h1, h2⟩
  exact ⟨h2, ses_all hse hbc j hj i h1 h2⟩
 ·rintro ⟨h1, h2⟩
  refine ⟨?_, h1⟩
  rcases Nat.lt_trichotomy i j with e | e | e
  ·exact e
  ·subst e; have := hbc _ (List.getElem_mem hi); omega
  ·have h3 := ses_all hse hbc i hi j e h1.symm
   have a := hbc _ (List.getElem_mem hi)
   have b := hbc _ (List.getElem_mem hj)
   omega
def whereB (h : List TxnV) (b : Int) : Nat := h.findIdx fun t => t.b == b
theorem whereB_at {h : List TxnV} (hd : (h.map (·.b)).Nodup) {t : TxnV} (ht : t ∈ h) : ∃ hi : whereB h t.b < h.length, h[whereB h t.b] = t := by
 have hi : whereB h t.b < h.length := by unfold whereB; rw [List.findIdx_lt_length]; exact ⟨t, ht, by simp⟩
 refine ⟨hi, ?_⟩
 have h1 := List.findIdx_getElem (p := fun u : TxnV => u.b == t.b) (xs := h) (w := hi)
 have h1 : h[whereB h t.b].b = t.b := beq_iff_eq.1 h1
 obtain ⟨k, hk, e⟩ := List.mem_iff_getElem.1 ht
 rw [List.nodup_iff_pairwise_ne, List.pairwise_map, List.pairwise_iff_getElem] at hd
 have : whereB h t.b = k := by
  rcases Nat.lt_trichotomy (whereB h t.b) k with q | q | q
  ·exact absurd (by rw [h1, e]) (hd _ _ hi hk q)
  ·exact q
  ·exact absurd (by rw [h1, e]) (hd _ _ hk hi q)
 subst this
 exact e
theorem perm_turn {h s : List TxnV} (hp : s.Perm h) (hd : (h.map (·.b)).Nodup) : ∃ π ρ : Nat → Nat, IsoT h.length π ρ ∧ ∀ j (hj : j < s.length), ∃ hπ : π j < h.length, s[j] = h[π j] := by
 have hl := hp.length_eq
 have hds : (s.map (·.b)).Nodup := (hp.map _).nodup_iff.2 hd
 have one : ∀ (l m : List TxnV), l.length = m.length → (l.map (·.b)).Nodup → (m.map (·.b)).Nodup → (∀ t ∈ l, t ∈ m) → (∀ t ∈ m, t ∈ l) → ∀ j (hj : j < l.length), ∃ hi : whereB m l[j].b < m.length, m[whereB m l[j].b] = l[j] ∧ whereB l (m[whereB m l[j].b].b) = j := by
  intro l m hlm hdl hdm hsub _ j hj
  obtain ⟨hi, e⟩ := whereB_at hdm (hsub _ (List.getElem_mem hj))
  refine ⟨hi, e, ?_⟩
  rw [e]
  obtain ⟨hi2, e2⟩ := whereB_at hdl (List.getElem_mem hj)
  rw [List.nodup_iff_pairwise_ne, List.pairwise_map, List.pairwise_iff_getElem] at hdl
  rcases Nat.lt_trichotomy (whereB l l[j].b) j with q | q | q
  ·exact absurd (by rw [e2]) (hdl _ _ hi2 hj q)
  ·exact q
  ·exact absurd (by rw [e2]) (hdl _ _ hj hi2 q)
 have sub1 : ∀ t ∈ s, t ∈ h := fun t ht => hp.mem_iff.1 ht
 have sub2 : ∀ t ∈ h, t ∈ s := fun t ht => hp.mem_iff.2 ht
 refine ⟨fun j => whereB h (bAt s j), fun i => whereB s (bAt h i), ⟨fun j hj => ?_, fun j hj => ?_, fun j hj => ?_, fun j hj => ?_⟩, fun j hj => ?_⟩
 ·have hj' : j < s.length := by omega
  show whereB h (bAt s j) < h.length
  rw [bAt_eq hj']
  exact (one s h hl hds hd sub1 sub2 j hj').1
 ·show whereB s (bAt h j) < h.length
  rw [bAt_eq hj, ← hl]
  exact (one h s hl.symm hd hds sub2 sub1 j hj).1
 ·show whereB h (bAt s (whereB s (bAt h j))) = j
  obtain ⟨hi, e1, e2⟩ := one h s hl.symm hd hds sub2 sub1 j hj
  rw [bAt_eq hj, bAt_eq hi]
  exact e2
 ·have hj' : j < s.length := by omega
  show whereB s (bAt h (whereB h (bAt s j))) = j
  obtain ⟨hi, e1, e2⟩ := one s h hl hds hd sub1 sub2 j hj'
  rw [bAt_eq hj', bAt_eq hi]
  exact e2
 ·obtain ⟨hi, e1, e2⟩ := one s h hl hds hd sub1 sub2 j hj
  show ∃ hπ : whereB h (bAt s j) < h.length, s[j] = h[whereB h (bAt s j)]
  rw [bAt_eq hj]
  exact ⟨hi, e1.symm⟩
section
variable {h s c : List TxnV} {f τ κ ν : Int → Int}
theorem ren_of (hp : s.Perm h) (hd : (h.map (·.b)).Nodup) (he : c.map txE = (s.map txE).map (renE f τ κ ν)) (hκ : ∀ a b, KeyIn h a → KeyIn h b → κ a = κ b → a = b) (hν : ∀ a b, ValIn h a → ValIn h b → ν a = ν b → a = b) (h0 : ν 0 = 0) :
  ∃ π ρ, Ren h c π ρ κ ν ∧ ∀ j (hj : j < c.length), ∃ hπ : π j < h.length, txE c[j] = renE f τ κ ν (txE h[π j]) := by
 obtain ⟨π, ρ, ht, hs⟩ := perm_turn hp hd
 have hl : c.length = s.length := by have := congrArg List.length he; simpa using this
 have hl2 := hp.length_eq
 have key : ∀ j (hj : j < c.length), ∃ hπ : π j < h.length, txE c[j] = renE f τ κ ν (txE h[π j]) := by
  intro j hj
  obtain ⟨hπ, e⟩ := hs j (by omega)
  refine ⟨hπ, ?_⟩
  have := congrArg (fun l => l[j]?) he
  simp only [List.getElem?_map] at this
  rw [List.getElem?_eq_getElem hj, List.getElem?_eq_getElem (show j < s.length by omega)] at this
  simp only [Option.map_some, Option.some.injEq] at this
  rw [this, e]
 refine ⟨π, ρ, ⟨by omega, ht, fun j hj => ?_, hκ, hν, h0⟩, key⟩
 obtain ⟨hπ, e⟩ := key j (by omega)
 rw [opsAt_eq (by omega), opsAt_eq hπ]
 exact congrArg (fun e : ETx => e.2.2.2) e
end
section
variable {h c : List TxnV} {f τ κ ν : Int → Int} {π ρ : Nat → Nat}
theorem ren_dec (hc : checkI h = 0) (hx : checkI c = 0) (q : Ren h c π ρ κ ν) (he : ∀ j (hj : j < c.length), ∃ hπ : π j < h.length, txE c[j] = renE f τ κ ν (txE h[π j]))
  (hf : ∀ t ∈ h, ∀ u ∈ h, f t.s = f u.s → t.s = u.s) (hτ : ∀ a ∈ stL h, ∀ b ∈ stL h, a < b → τ a < τ b) (lv : Int) : (decW c lv).2.2 = (decW h lv).2.2 := by
 have hC : clI ((askN lv : Nat) : Int) < 9223372036854775808 := by have := clI_lt ((askN lv : Nat) : Int); omega
 have mono : ∀ a ∈ stL h, ∀ b ∈ stL h, (τ a < τ b ↔ a < b) := fun a ha b hb => by
  constructor
  ·intro e
   rcases Int.lt_trichotomy a b with h1 | h1 | h1
   ·exact h1
   ·rw [h1] at e; omega
   ·have := hτ b hb a ha h1; omega
  ·exact hτ a ha b hb
 have tim : ∀ i j, i < h.length → j < h.length → timP c i j = timP h (π i) (π j) := by
  intro i j hi hj
  obtain ⟨p1, e1⟩ := he i (by rw [q.len]; exact hi)
  obtain ⟨p2, e2⟩ := he j (by rw [q.len]; exact hj)
  unfold timP
  rw [cAt_eq (by rw [q.len]; exact hi), bAt_eq (by rw [q.len]; exact hj), cAt_eq p1, bAt_eq p2]
  have a1 : (c[i]'(by rw [q.len]; exact hi)).c = τ h[π i].c := congrArg (fun e : ETx => e.2.2.1) e1
  have a2 : (c[j]'(by rw [q.len]; exact hj)).b = τ h[π j].b := congrArg (fun e : ETx => e.2.1) e2
  rw [a1, a2, Bool.eq_iff_iff, decide_eq_true_eq, decide_eq_true_eq]
  exact mono _ (stL_mem.2 ⟨_, List.getElem_mem p1, .inr rfl⟩) _ (stL_mem.2 ⟨_, List.getElem_mem p2, .inl rfl⟩)
 have ses : ∀ i j, i < h.length → j < h.length → sesP c i j = sesP h (π i) (π j) := by
  intro i j hi hj
  obtain ⟨p1, e1⟩ := he i (by rw [q.len]; exact hi)
  obtain ⟨p2, e2⟩ := he j (by rw [q.len]; exact hj)
  rw [Bool.eq_iff_iff, ses_timP hx (by rw [q.len]; exact hi) (by rw [q.len]; exact hj), ses_timP hc p1 p2, tim i j hi hj, sAt_eq (by rw [q.len]; exact hi), sAt_eq (by rw [q.len]; exact hj), sAt_eq p1, sAt_eq p2]
  have a1 : (c[i]'(by rw [q.len]; exact hi)).s = f h[π i].s := congrArg (fun e : ETx => e.1) e1
  have a2 : (c[j]'(by rw [q.len]; exact hj)).s = f h[π j].s := congrArg (fun e : ETx => e.1) e2
  rw [a1, a2]
  refine and_congr_left fun _ => ⟨hf _ (List.getElem_mem p1) _ (List.getElem_mem p2), fun e => by rw [e]⟩
 exact IsoH.dec (q.iso hc hx hC (fun _ => ses) (fun _ => tim)) hc hx
end
section
variable {h s c : List TxnV}
theorem keyE_iff {s : List TxnV} {k : Int} : k ∈ keyE (s.map txE) ↔ KeyIn s k := by
 unfold keyE KeyIn
 rw [List.flatMap_map, List.mem_flatMap]
 exact ⟨fun ⟨t, ht, hk⟩ => by obtain ⟨o, ho, e⟩ := List.mem_map.1 hk; exact ⟨t, ht, o, ho, e⟩, fun ⟨t, ht, o, ho, e⟩ => ⟨t, ht, List.mem_map.2 ⟨o, ho, e⟩⟩⟩
theorem valA_iff {s : List TxnV} {v : Int} : v ∈ valA (s.map txE) ↔ ∃ t ∈ s, ∃ o ∈ t.l, o.val = v := by
 unfold valA
 rw [List.flatMap_map, List.mem_flatMap]
 exact ⟨fun ⟨t, ht, hk⟩ => by obtain ⟨o, ho, e⟩ := List.mem_map.1 hk; exact ⟨t, ht, o, ho, e⟩, fun ⟨t, ht, o, ho, e⟩ => ⟨t, ht, List.mem_map.2 ⟨o, ho, e⟩⟩⟩
theorem valA_len (s : List TxnV) : (valA (s.map txE)).length = opsN s := by
 unfold valA opsN
 rw [List.flatMap_map, List.length_flatMap]
 congr 1
 exact List.map_congr_left fun t _ => by simp [txE]
end
end

section
open Go.RowKit Go.Lib Go.Sort Go.Shelf
structure TxS where
 s : Int
 b : Int
 c : Int
 ao : Option Addr
 n : Nat
 cp : Nat
 l : List OpV
instance : Inhabited TxS := ⟨⟨0, 0, 0, none, 0, 0, []⟩⟩
end

section
open Go.RowKit
theorem below_app0 {B B' : Nat} {W wr w1 : World} {o : Obj} {e : TypeId} {n size : Nat} {v : Value} {xs : List Value} (hb : Below B W wr) (hB : B ≤ W.heap.size) (hown : wr.ownsRow B' e size v n xs) (hBB : B ≤ B')
  (hg : (wr.alloc o).grownBy w1 v.ownBlock) : Below B W w1 :=
 (hb.alloc (Nat.le_trans hB hb.size) o).grown hg (by have := hb.size; simp; omega) fun k hk => Nat.le_trans hBB (hown.lt k hk).1
end

section
open Go.RowKit Go.Lib Go.Sort Go.Shelf
theorem holdsI {w : World} {g : Nat} {cur : Array Value} {e : TypeId} {l : List Int} (hb : w.heap[g]? = some (.cells cur e (0, 0))) (ht : cur.toList.take l.length = l.map (Value.int .i64)) : Holds (Value.int .i64) w g 0 l.toArray := by
 intro j hj
 have hj' : j < l.length := by simpa using hj
 refine ⟨?_, by simp [World.frozen?, hb]⟩
 have h1 : (cur.toList.take l.length)[j]? = (l.map (Value.int .i64))[j]? := by rw [ht]
 rw [List.getElem?_take_of_lt hj'] at h1
 simp only [World.cell?, hb, Nat.zero_add]
 simp only [Option.isSome_none, Bool.false_eq_true, if_false]
 rw [← Array.getElem?_toList, h1]
 simp [hj']
theorem take_putI (cur : Array Value) (l : List Int) (h : l.length ≤ cur.size) : (putCells (Value.int .i64) 0 l.toArray cur).toList.take l.length = l.map (Value.int .i64) := by
 apply List.ext_getElem?
 intro j
 by_cases hj : j < l.length
 ·rw [List.getElem?_take_of_lt hj, Array.getElem?_toList]
  simp [putCells, hj, show j < cur.size by omega]
 ·rw [List.getElem?_take_eq_none (by omega), List.getElem?_eq_none (by simp; omega)]
theorem isorted {w : World} {base g cap n : Nat} {os : Array Obj} {l ts : List Int} (hl : ts.length = l.length) (h : w.ownsRow base 3 1 (.slice (some ⟨g, 0, none⟩) l.length cap) l.length (l.map (Value.int .i64))) :
  (grow (putRow (Value.int .i64) (Sort.ahead w n) g 0 ts.toArray) os).ownsRow base 3 1 (.slice (some ⟨g, 0, none⟩) l.length cap) l.length (ts.map (Value.int .i64)) ∧ w.grownBy (grow (putRow (Value.int .i64) (Sort.ahead w n) g 0 ts.toArray) os) (some g) := by
 obtain ⟨h1, h2⟩ := h
 rcases h2 with ⟨h2, _⟩ | ⟨g', cap', cur, e1, e2, hb, e3, e4, e5, e6⟩
 ·cases h2
 cases e1
 have hg : g < w.heap.size := (Array.getElem?_eq_some_iff.1 hb).1
 have hh : (grow (putRow (Value.int .i64) (Sort.ahead w n) g 0 ts.toArray) os).heap[g]? = some (.cells (putCells (Value.int .i64) 0 ts.toArray cur) 3 (0, 0)) := by
  rw [heap_grown (by simpa using hg)]
  simp [putRow, mapBlock, Sort.ahead, Array.getElem?_modify, hb, onCells]
 refine ⟨⟨by simp [hl], .inr ⟨g, cap, _, rfl, e2, hh, by omega, e4, by simp [putCells, e5], ?_⟩⟩, rfl, rfl, rfl, by simp, fun k hk hne => ?_⟩
 ·have := take_putI cur ts (by omega)
  rw [hl] at this
  simpa using this
 ·rw [heap_grown (by simpa using hk)]
  have : g ≠ k := fun e => hne (by rw [e])
  simp [putRow, mapBlock, Sort.ahead, Array.getElem?_modify, this]
theorem isort_own (base : Nat) (v : Value) (l : List Int) (w : World) (hO : w.ownsRow base 3 1 v l.length (l.map (Value.int .i64))) (hl : l.length ≤ 1000000) :
  Calls Tryz.prog 133 #[v] w fun e w' => e = .returned (.tuple #[]) ∧ w'.ownsRow base 3 1 v l.length ((l.mergeSort fun x y => decide (x ≤ y)).map (Value.int .i64)) ∧ w.grownBy w' v.ownBlock := by
 have hO2 := hO
 obtain ⟨h1, h2⟩ := hO2
 rcases h2 with ⟨rfl, h2⟩ | ⟨g, cap, cur, rfl, e2, hb, e3, e4, e5, e6⟩
 ·have hl0 : l.length = 0 := by simpa using h2
  have : l = [] := List.eq_nil_of_length_eq_zero hl0
  subst this
  refine (AnyM.slices_Sort_int_none Tryz.sortInt none 0 w).mono ?_
  rintro e w' ⟨rfl, rfl⟩
  refine ⟨rfl, ?_, rfl, rfl, rfl, Nat.le_refl _, fun _ _ _ => rfl⟩
  simpa using hO
 ·refine (AnyM.slices_Sort_int Tryz.sortInt g 0 cap l w (holdsI hb (by simpa using e6)) (Array.getElem?_eq_some_iff.1 hb).1 (by omega)).mono ?_
  rintro e w' ⟨rfl, n, os, rfl⟩
  obtain ⟨q1, q2⟩ := isorted (n := n) (os := os) (ts := l.mergeSort fun x y => decide (x ≤ y)) (by simp) hO
  exact ⟨rfl, q1, q2⟩
end

section
open Go.RowKit
theorem stL_len (h : List TxnV) : (stL h).length = 2 * h.length := by
 unfold stL
 induction h with
 | nil => rfl
 | cons t h ih => rw [List.flatMap_cons, List.length_append, ih]; simp; omega
end

section
open Go.RowKit
def sTo (s : List TxnV) (i : Nat) : List Int := (sesE (s.map txE)).take i
def kTo (s : List TxnV) (i k : Nat) : List Int := keyE ((s.map txE).take i) ++ ((opsAt s i).take k).map (·.key)
def vTo (s : List TxnV) (i k : Nat) : List Int := valA ((s.map txE).take i) ++ ((opsAt s i).take k).map (·.val)
section
variable {s : List TxnV} {i k : Nat}
theorem sTo_succ (hi : i < s.length) : sTo s (i + 1) = sTo s i ++ [s[i].s] := by
 unfold sTo
 rw [List.take_succ_eq_append_getElem (by unfold sesE; simpa using hi)]
 congr 1
 unfold sesE
 simp [txE]
theorem kTo_succ (hk : k < (opsAt s i).length) : kTo s i (k + 1) = kTo s i k ++ [(opsAt s i)[k].key] := by
 unfold kTo
 rw [List.take_succ_eq_append_getElem hk, List.map_append, List.append_assoc]; rfl
theorem vTo_succ (hk : k < (opsAt s i).length) : vTo s i (k + 1) = vTo s i k ++ [(opsAt s i)[k].val] := by
 unfold vTo
 rw [List.take_succ_eq_append_getElem hk, List.map_append, List.append_assoc]; rfl
theorem take_txE (hi : i < s.length) : (s.map txE).take (i + 1) = (s.map txE).take i ++ [txE s[i]] := by
 rw [List.take_succ_eq_append_getElem (by simpa using hi)]; simp
theorem kTo_done (hi : i < s.length) : kTo s i (opsAt s i).length = kTo s (i + 1) 0 := by
 unfold kTo
 rw [take_txE hi, List.take_length, List.take_zero, List.map_nil, List.append_nil, opsAt_eq hi]
 unfold keyE
 rw [List.flatMap_append]; simp [txE]
theorem vTo_done (hi : i < s.length) : vTo s i (opsAt s i).length = vTo s (i + 1) 0 := by
 unfold vTo
 rw [take_txE hi, List.take_length, List.take_zero, List.map_nil, List.append_nil, opsAt_eq hi]
 unfold valA
 rw [List.flatMap_append]; simp [txE]
end
end

section
open Go.RowKit
def zT (t : TxnV) : TxnV := ⟨t.s, t.b, t.c, .slice none 0 0, t.l⟩
theorem zT_of {c h : List TxnV} (e : c.map txE = h.map txE) : c.map zT = h.map zT := by
 have k : ∀ l : List TxnV, l.map zT = (l.map txE).map fun q => (⟨q.1, q.2.1, q.2.2.1, .slice none 0 0, q.2.2.2⟩ : TxnV) := fun l => by rw [List.map_map]; rfl
 rw [k, k, e]
theorem opsN_z (h : List TxnV) : opsN (h.map zT) = opsN h := by unfold opsN; rw [List.map_map]; rfl
theorem partsB_z (h : List TxnV) : partsB (h.map zT) = partsB h := by unfold partsB; rw [List.all_map]; rfl
theorem wvH_z (h : List TxnV) : wvH (h.map zT) = wvH h := by unfold wvH; rw [List.flatMap_map]; rfl
theorem opsAt_z (h : List TxnV) (k : Nat) : opsAt (h.map zT) k = opsAt h k := by unfold opsAt; rw [List.getElem?_map]; cases h[k]? <;> rfl
theorem wrTo_z (h : List TxnV) (k : Nat) : wrTo (h.map zT) k = wrTo h k := by
 unfold wrTo
 congr 1
 funext F j
 rw [opsAt_z]
theorem valuesB_z (h : List TxnV) : valuesB (h.map zT) = valuesB h := by
 unfold valuesB okW
 rw [wvH_z, List.all_map, List.length_map, wrTo_z]; rfl
theorem stampsB_z (h : List TxnV) : stampsB (h.map zT) = stampsB h := by
 have : stL (h.map zT) = stL h := by unfold stL; rw [List.flatMap_map]; rfl
 unfold stampsB; rw [this]
theorem endF_z (h : List TxnV) : endF (h.map zT) = endF h := by
 funext x
 unfold endF
 rw [List.filter_map, List.getLast?_map, Option.map_map]; rfl
theorem sesOk_z (h : List TxnV) (k : Nat) : sesOk (h.map zT) k = sesOk h k := by
 unfold sesOk
 rw [List.getElem?_map, ← List.map_take, endF_z]
 cases h[k]? <;> rfl
theorem sesB_z (h : List TxnV) : sesB (h.map zT) = sesB h := by
 unfold sesB
 rw [List.length_map]
 congr 1
 funext k
 exact sesOk_z h k
theorem checkI_z (h : List TxnV) : checkI (h.map zT) = checkI h := by
 unfold checkI rightB
 rw [List.length_map, opsN_z, partsB_z, valuesB_z, stampsB_z, sesB_z]
theorem checkI_txE {c h : List TxnV} (e : c.map txE = h.map txE) : checkI c = checkI h := by
 rw [← checkI_z c, ← checkI_z h, zT_of e]
theorem checkI_right {h : List TxnV} (e : checkI h = 0) : h.length ≤ 64 ∧ opsN h ≤ 1024 ∧ ∀ t ∈ h, mayT t.s t.b t.c t.l = true := by
 unfold checkI at e
 split at e
 ·cases e
 ·split at e
  ·rename_i h1 h2
   refine ⟨by omega, by omega, ?_⟩
   unfold rightB at h2
   simp only [Bool.and_eq_true] at h2
   exact List.all_eq_true.1 h2.1
  ·cases e
end

section
open Go.RowKit
def OwnH (w : World) (b0 : Nat) (v : Value) (c : List TxnV) : Prop := OwnT w b0 v c ∧ (∀ t ∈ c, Own w b0 t.v t.l) ∧ c.Pairwise ApartT
section
variable {w w' : World} {b0 base : Nat} {v v' u : Value} {c : List TxnV}
theorem OwnH.below (h : OwnH w b0 v c) (hb : Below w.heap.size w w') : OwnH w' b0 v c := ⟨h.1.below hb, fun t ht => (h.2.1 t ht).below hb, h.2.2⟩
theorem OwnH.nil (w : World) (b0 : Nat) : OwnH w b0 (.slice none 0 0) [] := ⟨⟨rfl, .inl ⟨rfl, rfl⟩⟩, by simp, List.Pairwise.nil⟩
theorem OwnH.txns (h : OwnH w b0 v c) : Txns w v c := ⟨h.1.row, fun t ht => (h.2.1 t ht).ops⟩
theorem ownH_apart {b1 : Nat} {l : List OpV} (h : OwnT w b0 v c) (k : Own w b1 u l) : u.ownBlock = none ∨ u.ownBlock ≠ v.ownBlock := owns_apart k h (by decide)
theorem OwnH.add {s b d : Int} {l : List OpV} (h : OwnH w b0 v c) (hu : Own w base u l) (hlt : ∀ t ∈ c, ∀ g, t.v.ownBlock = some g → g < base) (hb : b0 ≤ base) (hO : OwnT w' b0 v' (c ++ [⟨s, b, d, u, l⟩])) (hg : w.grownBy w' v.ownBlock) : OwnH w' b0 v' (c ++ [⟨s, b, d, u, l⟩]) := by
 refine ⟨hO, fun t ht => ?_, ?_⟩
 ·rcases List.mem_append.1 ht with ht | ht
  ·exact World.ownsRow.kept (h.2.1 t ht) hg (ownH_apart h.1 (h.2.1 t ht))
  ·obtain rfl := List.mem_singleton.1 ht
   exact World.ownsRow.kept (hu.base hb) hg (ownH_apart h.1 hu)
 ·rw [List.pairwise_append]
  refine ⟨h.2.2, List.pairwise_singleton _ _, fun t ht x hx => ?_⟩
  obtain rfl := List.mem_singleton.1 hx
  intro g h1 h2
  have q1 := hlt t ht g h1
  have q2 := (World.ownsRow.lt hu g h2).1
  omega
theorem OwnH.lt (h : OwnH w b0 v c) : ∀ t ∈ c, ∀ g, t.v.ownBlock = some g → g < w.heap.size := fun t ht g hg => (World.ownsRow.lt (h.2.1 t ht) g hg).2
end
section
variable {w w' : World} {gv b0 k : Nat} {D : List TxnV}
end
end

section
open Go.RowKit
theorem putI_run {α : Type} {e : α → Value} {P : Program} {k el t : TypeId} {b n c : Nat} {f : Int → Option α} {w : World} (hk : P.underlying k = some (.int .i64)) (ht : P.underlying t = some (.map k el)) (hown : MapI e P k w b n f c) (hn : n < maxLen) {key : Int} (hkey : InI key) (val : α) :
  ∃ w', (Instr.mapUpdate t (.map (some b)) (.int .i64 key) (e val)).run P w = .ok () w' ∧ MapI e P k w' b (n + 1) (putF f key val) (if (f key).isSome then c else c + 1) ∧ w.grownBy w' (some b) := by
 obtain ⟨D, hD, hs, ht2⟩ := hown
 obtain ⟨w', hrun, h1, h2⟩ := hD.update (Maps.int_keyed hk) ht hn (keyOf_I hk hkey) (rdE_mk e val)
 refine ⟨w', hrun, ⟨_, h1, ?_, fun y hy => ?_⟩, h2⟩
 ·rw [Maps.size_put (hD.tidy (Maps.int_keyed hk)), (ht2 key hkey).1, hs]
 ·by_cases he : y = key
  ·subst he
   rw [putF_same]
   exact ⟨Maps.has_put_same hD.isMap (isKey_I y) _, fun u hu z => by cases hu; exact Maps.atKey_put_same hD.isMap (isKey_I y) _ _⟩
  ·have hne : Lit.int .i64 y ≠ .int .i64 key := fun h => he (by cases h; rfl)
   rw [putF_other f val he]
   exact ⟨(Maps.has_put_other hne _).trans (ht2 y hy).1, fun u hu z => (Maps.atKey_put_other hne _ _).trans ((ht2 y hy).2 u hu z)⟩
section
variable {s : List TxnV} {g cap base base2 bM bS bK bV nM cM : Nat} {i k iO iS kK kV : Nat} {W : World}
end
end

section
open Go.RowKit
def NmI (w : World) (v : Value) (F : Int → Option Int) : Prop := (v = .map none ∧ F = fun _ => none) ∨ ∃ b n c, v = .map (some b) ∧ MapI eI Tryz.prog 3 w b n F c
theorem NmI.below {w w' : World} {v : Value} {F : Int → Option Int} (h : NmI w v F) (hb : Below w.heap.size w w') : NmI w' v F := by
 rcases h with ⟨rfl, rfl⟩ | ⟨b, n, c, rfl, hM⟩
 ·exact .inl ⟨rfl, rfl⟩
 ·exact .inr ⟨b, n, c, rfl, hM.below hb⟩
def nmF (F : Int → Option Int) (x : Int) : Int := (F x).getD x
theorem nil_look (x : Int) (w : World) : Sem.run Tryz.prog (Instr.lookup 32 (.map none) (.int .i64 x) true) w = .ok (.tuple #[.int .i64 0, .bool false]) w := by kernel_rfl
theorem rname_any (v : Value) (F : Int → Option Int) (x : Int) (w : World) (hN : NmI w v F) (hx : InI x) :
  Calls Tryz.prog 135 #[v, .int .i64 x] w fun e w' => e = .returned (.int .i64 (nmF F x)) ∧ w = w' := by
 rcases hN with ⟨rfl, rfl⟩ | ⟨b, n, c, rfl, hM⟩
 ·have HV : Hid (nmF (fun _ => none) x = x) := hid rfl
  rw [HV.out]
  have hlk := nil_look x
  go_enter Tryz.func135, Tryz.ntmps135
  go_wp2_with fail
  go_ret
  exact ⟨rfl, rfl⟩
 ·cases hv : F x with
  | none =>
   have HV : Hid (nmF F x = x) := hid (by unfold nmF; rw [hv]; rfl)
   rw [HV.out]
   go_enter Tryz.func135, Tryz.ntmps135
   go_wp2_with (first | (at_lookup; refine wpList_lookI_ok _ rfl _ _ 32 rfl 3 3 keyI mapII 0 (zeroI _) _ _ _ _ rfl hM _ rfl hx ?_; rw [hv]; simp only [Option.getD_none, Option.isSome_none, eI]) | go_in)
   go_ret
   exact ⟨rfl, rfl⟩
  | some y =>
   have HV : Hid (nmF F x = y) := hid (by unfold nmF; rw [hv]; rfl)
   rw [HV.out]
   go_enter Tryz.func135, Tryz.ntmps135
   go_wp2_with (first | (at_lookup; refine wpList_lookI_ok _ rfl _ _ 32 rfl 3 3 keyI mapII 0 (zeroI _) _ _ _ _ rfl hM _ rfl hx ?_; rw [hv]; simp only [Option.getD_some, Option.isSome_some, eI]) | go_in)
   go_ret
   exact ⟨rfl, rfl⟩
def apartP (F : Int → Option Int) (l : List Int) : Prop := ∀ a ∈ l, ∀ b ∈ l, nmF F a = nmF F b → a = b
instance (F : Int → Option Int) (l : List Int) : Decidable (apartP F l) := by unfold apartP; infer_instance
def whoF (F : Int → Option Int) : List Int → Int → Option Int
 | [], _ => none
 | a :: l, y => if nmF F a = y then some a else whoF F l y
theorem whoF_put (F : Int → Option Int) (l : List Int) (x : Int) : putF (whoF F l) (nmF F x) x = whoF F (x :: l) := by
 funext y
 unfold putF
 rw [whoF]
 by_cases e : y = nmF F x
 ·rw [if_pos e, if_pos e.symm]
 ·rw [if_neg e, if_neg (fun q => e q.symm)]
theorem whoF_some {F : Int → Option Int} : ∀ {l : List Int} {y a : Int}, whoF F l y = some a → a ∈ l ∧ nmF F a = y
 | b :: l, y, a, h => by
  rw [whoF] at h
  by_cases e : nmF F b = y
  ·rw [if_pos e] at h; cases h; exact ⟨List.mem_cons_self .., e⟩
  ·rw [if_neg e] at h; exact ⟨List.mem_cons_of_mem _ (whoF_some h).1, (whoF_some h).2⟩
theorem whoF_none {F : Int → Option Int} : ∀ {l : List Int} {y : Int}, whoF F l y = none → ∀ a ∈ l, nmF F a ≠ y
 | b :: l, y, h, a, ha => by
  rw [whoF] at h
  by_cases e : nmF F b = y
  ·rw [if_pos e] at h; cases h
  ·rw [if_neg e] at h
   rcases List.mem_cons.1 ha with rfl | ha
   ·exact e
   ·exact whoF_none h a ha
theorem apart_more {F : Int → Option Int} {l : List Int} {x : Int} (h : apartP F l) (hw : whoF F l (nmF F x) = none ∨ whoF F l (nmF F x) = some x) : apartP F (x :: l) := by
 have key : ∀ a ∈ l, nmF F a = nmF F x → a = x := fun a ha e => by
  rcases hw with hw | hw
  ·exact absurd e (whoF_none hw a ha)
  ·obtain ⟨h1, _⟩ := whoF_some hw
   exact h a ha x h1 e
 intro a ha b hb e
 rcases List.mem_cons.1 ha with ea | ha2
 ·rcases List.mem_cons.1 hb with eb | hb2
  ·rw [ea, eb]
  ·rw [ea] at e ⊢
   exact (key b hb2 e.symm).symm
 ·rcases List.mem_cons.1 hb with eb | hb2
  ·rw [eb] at e ⊢
   exact key a ha2 e
  ·exact h a ha2 b hb2 e
theorem apart_not {F : Int → Option Int} {l m : List Int} {x a : Int} (hm : ∀ b, b ∈ l → b ∈ m) (hx : x ∈ m) (hw : whoF F l (nmF F x) = some a) (hne : a ≠ x) : ¬ apartP F m := fun h => by
 obtain ⟨h1, h2⟩ := whoF_some hw
 exact hne (h a (hm a h1) x hx h2)
end

section
open Go.RowKit
theorem apart_perm {F : Int → Option Int} {l m : List Int} (h : ∀ b, b ∈ l ↔ b ∈ m) (q : apartP F l) : apartP F m := fun a ha b hb e => q a ((h a).2 ha) b ((h b).2 hb) e
theorem rapart_any (v va : Value) (F : Int → Option Int) (l : List Int) (w : World) (hN : NmI w v F) (hI : Ints w va l) (hl : ∀ x ∈ l, InI x ∧ InI (nmF F x)) (hn : l.length ≤ 100000) :
  Calls Tryz.prog 91 #[v, va] w fun e w' => e = .returned (.bool (decide (apartP F l))) ∧ Below w.heap.size w w' := by
 obtain ⟨ao, cap, rfl, hal⟩ := hI.form
 have HI := hid (fun wx (hx : Below w.heap.size w wx) => hI.below hx)
 have CN := hid (fun x wx (hx : Below w.heap.size w wx) (hi : InI x) => rname_any v F x wx (hN.below hx) hi)
 have HL := hid hl
 have hm0 := MapI.made eI Tryz.prog 3 w
 have hb1 := hid (box_below w (.map #[] 0))
 have hmm := @run_makeMap Tryz.prog
 clear hI hN hl
 go_enter Tryz.func91, Tryz.ntmps91
 go_wp2_with fail
 clear hmm
 go_loopw [14] (fun i wr => ∃ (k n c : Nat), k ≤ l.length ∧ i = .int .i64 (k : Int) ∧ n ≤ k ∧ Hid (apartP F (l.take k).reverse) ∧ MapI eI Tryz.prog 3 wr w.heap.size n (whoF F (l.take k).reverse) c ∧ Hid (Below w.heap.size w wr)) (fun i _ => l.length - (intOf i).toNat)
 case atStart => exact ⟨0, 0, 0, by omega, rfl, by omega, hid (fun a ha => by cases ha), hm0, hb1⟩
 case round =>
  obtain ⟨k, n, c, hk, rfl, hnk, HA, hM, HB⟩ := hrel
  clear hm0
  by_cases hlt : k < l.length
  ·have hki : (k : Int) < (l.length : Int) := by omega
   obtain ⟨g, o, hao, hc⟩ := (HI.out _ HB.out).at hlt
   cases hao
   have hxl := HL.out l[k] (List.getElem_mem hlt)
   have CN1 := hid (CN.out l[k] wr HB.out hxl.1)
   have HS : Hid ((l.take (k + 1)).reverse = l[k] :: (l.take k).reverse) := hid (by rw [List.take_succ_eq_append_getElem hlt]; simp)
   have HIN : Hid (∀ b, b ∈ (l.take k).reverse → b ∈ l) := hid (fun b hb => List.mem_of_mem_take (List.mem_reverse.1 hb))
   have HXM := hid (List.getElem_mem hlt)
   have hsz := HB.out.size
   have hxn := hxl.2
   clear hxl
   generalize l[k] = x at *
   have HW := hid (whoF_put F (l.take k).reverse x)
   have HMO := hid (fun h hw => apart_more (x := x) (F := F) (l := (l.take k).reverse) h hw)
   have HNO := hid (fun a hw hne => apart_not (F := F) (a := a) HIN.out HXM.out hw hne)
   generalize (l.take k).reverse = R at *
   obtain ⟨y, hy⟩ : ∃ y, nmF F x = y := ⟨_, rfl⟩
   rw [hy] at CN1 hxn HW HMO HNO
   clear hy
   cases hv : whoF F R y with
   | none =>
    have HA2 := hid (HMO.out HA.out (.inl hv))
    clear HNO HMO
    go_wp2_with fail
    refine CN1.out.mono ?_
    rintro e wq ⟨rfl, rfl⟩
    go_wp2_with (first | (at_lookup; refine wpList_lookI_ok _ rfl _ _ 32 rfl 3 3 keyI mapII 0 (zeroI _) _ _ _ _ rfl hM _ rfl hxn ?_; rw [hv]; simp only [Option.getD_none, Option.isSome_none, eI]) | (at_mapUpdate; refine wpList_putI _ rfl _ _ _ 32 rfl 3 3 keyI mapII _ _ _ _ rfl hM (by unfold maxLen; omega) _ rfl hxn x rfl ?_; intro w1 hM4 hgm; go_frame) | go_in)
    have HB8 := hid (HB.out.grown hgm HB.out.size (fun j hj => by cases hj; omega))
    rw [HW.out] at hM4
    go_wp2_with fail
    go_roundw
    case rel => exact ⟨k + 1, n + 1, _, by omega, by go_num, by omega, by rw [HS.out]; exact HA2, by rw [HS.out]; exact hM4, HB8⟩
    case measure => simp [intOf]; omega
   | some a =>
    by_cases hax : a = x
    ·subst hax
     have HA2 := hid (HMO.out HA.out (.inr hv))
     have hqq : (a != a) = false := by simp
     clear HNO HMO
     go_wp2_with fail
     refine CN1.out.mono ?_
     rintro e wq ⟨rfl, rfl⟩
     go_wp2_with (first | (at_lookup; refine wpList_lookI_ok _ rfl _ _ 32 rfl 3 3 keyI mapII 0 (zeroI _) _ _ _ _ rfl hM _ rfl hxn ?_; rw [hv]; simp only [Option.getD_some, Option.isSome_some, eI]) | (at_mapUpdate; refine wpList_putI _ rfl _ _ _ 32 rfl 3 3 keyI mapII _ _ _ _ rfl hM (by unfold maxLen; omega) _ rfl hxn a rfl ?_; intro w1 hM4 hgm; go_frame) | go_in)
     have HB8 := hid (HB.out.grown hgm HB.out.size (fun j hj => by cases hj; omega))
     rw [HW.out] at hM4
     go_wp2_with fail
     go_roundw
     case rel => exact ⟨k + 1, n + 1, _, by omega, by go_num, by omega, by rw [HS.out]; exact HA2, by rw [HS.out]; exact hM4, HB8⟩
     case measure => simp [intOf]; omega
    ·have hqq : (a != x) = true := by simpa using hax
     have HF : Hid (false = decide (apartP F l)) := hid (by rw [decide_eq_false (HNO.out a hv hax)])
     clear HNO HMO
     go_wp2_with fail
     refine CN1.out.mono ?_
     rintro e wq ⟨rfl, rfl⟩
     go_wp2_with (first | (at_lookup; refine wpList_lookI_ok _ rfl _ _ 32 rfl 3 3 keyI mapII 0 (zeroI _) _ _ _ _ rfl hM _ rfl hxn ?_; rw [hv]; simp only [Option.getD_some, Option.isSome_some, eI]) | go_in)
     go_ret
     exact ⟨ret_b HF.out, HB.out⟩
  ·obtain rfl : k = l.length := by omega
   have hki : ¬ (l.length : Int) < (l.length : Int) := by omega
   have HT : Hid (true = decide (apartP F l)) := hid (by
    have h1 := HA.out
    rw [List.take_length] at h1
    rw [decide_eq_true (apart_perm (fun b => List.mem_reverse) h1)])
   go_wp2_with fail
   go_ret
   exact ⟨ret_b HT.out, HB.out⟩
end

section
open Go.RowKit
def ofF (l : List (Int × Int)) : Int → Option Int := l.foldl (fun f p => putF f p.1 p.2) (fun _ => none)
theorem ofF_snoc (l : List (Int × Int)) (p : Int × Int) : ofF (l ++ [p]) = putF (ofF l) p.1 p.2 := by unfold ofF; rw [List.foldl_append]; rfl
def PrN (w : World) (v : Value) (l : List (Int × Int)) : Prop := Row w v l.length 2 (frV l)
theorem PrN.below {w w' : World} {v : Value} {l : List (Int × Int)} (h : PrN w v l) (hb : Below w.heap.size w w') : PrN w' v l := Row.below h hb
theorem PrN.form {w : World} {v : Value} {l : List (Int × Int)} (h : PrN w v l) : ∃ ao cap, v = .slice ao l.length cap ∧ l.length ≤ 9223372036854775807 := by
 obtain ⟨_, ao, cap, rfl, hm, _, _⟩ := h
 exact ⟨ao, cap, rfl, Nat.le_trans hm.1 hm.2⟩
theorem frV_two : ∀ (l : List (Int × Int)) (k : Nat) (hk : k < l.length), (frV l)[k * 2]? = some (.int .i64 l[k].1) ∧ (frV l)[k * 2 + 1]? = some (.int .i64 l[k].2)
 | a :: l, 0, _ => ⟨rfl, rfl⟩
 | a :: l, k + 1, hk => by
  obtain ⟨h0, h1⟩ := frV_two l k (by simpa using hk)
  have e : ∀ j, (frV (a :: l))[(k + 1) * 2 + j]? = (frV l)[k * 2 + j]? := fun j => by
   unfold frV
   rw [List.flatMap_cons, show (k + 1) * 2 + j = 2 + (k * 2 + j) from by omega]
   rw [List.getElem?_append_right (by simp)]
   congr 1
   simp
  exact ⟨(e 0).trans h0, (e 1).trans h1⟩
theorem PrN.at {w : World} {ao : Option Addr} {n cap : Nat} {l : List (Int × Int)} (h : PrN w (.slice ao n cap) l) {k : Nat} (hk : k < l.length) : ∃ g o, ao = some ⟨g, o, none⟩ ∧ w.cell? ⟨g, o + k * 2, none⟩ = some (.int .i64 l[k].1) ∧ w.cell? ⟨g, o + k * 2 + 1, none⟩ = some (.int .i64 l[k].2) := by
 obtain ⟨_, ao', cap', he, _, _, hc⟩ := h
 cases he
 obtain ⟨b, off, e, hcell⟩ := hc (by omega)
 obtain ⟨h0, h1⟩ := frV_two l k hk
 refine ⟨b, off, e, ?_, ?_⟩
 ·rw [hcell (k * 2) (by omega)]; exact h0
 ·rw [show off + k * 2 + 1 = off + (k * 2 + 1) from by omega, hcell (k * 2 + 1) (by omega)]; exact h1
theorem lof21_any (va : Value) (l : List (Int × Int)) (w : World) (hP : PrN w va l) (hl : ∀ p ∈ l, InI p.1) (hn : l.length ≤ 100000) :
  Calls Tryz.prog 45 #[va] w fun e w' => (∃ b n c, e = .returned (.map (some b)) ∧ n ≤ l.length ∧ w.heap.size ≤ b ∧ MapI eI Tryz.prog 3 w' b n (ofF l) c) ∧ Below w.heap.size w w' := by
 obtain ⟨ao, cap, rfl, hal⟩ := hP.form
 have HP := hid (fun wx (hx : Below w.heap.size w wx) => hP.below hx)
 have HL := hid hl
 have hm0 := MapI.made eI Tryz.prog 3 w
 have hb1 := hid (box_below w (.map #[] 0))
 have hmm := @run_makeMap Tryz.prog
 clear hP hl
 go_enter Tryz.func45, Tryz.ntmps45
 go_wp2_with fail
 clear hmm
 go_loopw [9] (fun i wr => ∃ (k n c : Nat), k ≤ l.length ∧ i = .int .i64 (k : Int) ∧ n ≤ k ∧ MapI eI Tryz.prog 3 wr w.heap.size n (ofF (l.take k)) c ∧ Hid (Below w.heap.size w wr)) (fun i _ => l.length - (intOf i).toNat)
 case atStart => exact ⟨0, 0, 0, by omega, rfl, by omega, hm0, hb1⟩
 case round =>
  obtain ⟨k, n, c, hk, rfl, hnk, hM, HB⟩ := hrel
  clear hm0
  by_cases hlt : k < l.length
  ·have hki : (k : Int) < (l.length : Int) := by omega
   obtain ⟨g, o, hao, c0, c1⟩ := (HP.out _ HB.out).at hlt
   cases hao
   have hkx := HL.out l[k] (List.getElem_mem hlt)
   have HS : Hid (ofF (l.take (k + 1)) = putF (ofF (l.take k)) l[k].1 l[k].2) := hid (by rw [List.take_succ_eq_append_getElem hlt, ofF_snoc])
   generalize l[k] = p at *
   obtain ⟨x, y⟩ := p
   simp only at c0 c1 hkx HS
   have hM1 := hM.alloc (.cells #[.int .i64 x, .int .i64 y] 151)
   have HB1 := hid (HB.out.alloc HB.out.size (.cells #[.int .i64 x, .int .i64 y] 151))
   have hsz := HB.out.size
   clear hM HB
   go_wp2_with (first | (at_mapUpdate; refine wpList_putI _ rfl _ _ _ 32 rfl 3 3 keyI mapII _ _ _ _ rfl hM1 (by unfold maxLen; omega) _ rfl hkx y rfl ?_; intro w1 hM4 hgm; go_frame) | go_in)
   have HB8 := hid (HB1.out.grown hgm HB1.out.size (fun j hj => by cases hj; omega))
   rw [← HS.out] at hM4
   go_wp2_with fail
   go_roundw
   case rel => exact ⟨k + 1, n + 1, _, by omega, by go_num, by omega, hM4, HB8⟩
   case measure => simp [intOf]; omega
  ·obtain rfl : k = l.length := by omega
   have hki : ¬ (l.length : Int) < (l.length : Int) := by omega
   rw [List.take_length] at hM
   have HM := hid hM
   clear hM
   go_wp2_with fail
   go_ret
   first | exact ⟨⟨_, rfl, n, by omega, Nat.le_refl _, c, HM.out⟩, HB.out⟩ | exact ⟨⟨_, n, c, rfl, by omega, Nat.le_refl _, HM.out⟩, HB.out⟩ | exact ⟨⟨n, by omega, Nat.le_refl _, c, HM.out⟩, HB.out⟩ | exact ⟨⟨n, by omega, c, HM.out⟩, HB.out⟩
end

section
open Go.ChangeShapes Go.WideShapes Go.ChangeAt Go.RowKit Go.Deep
theorem array5N {α : Type} {cs : Array α} (h : cs.size = 5) : ∃ c0 c1 c2 c3 c4, cs = #[c0, c1, c2, c3, c4] := by
 obtain ⟨l⟩ := cs
 match l, h with
 | [c0, c1, c2, c3, c4], _ => exact ⟨c0, c1, c2, c3, c4, rfl⟩
theorem cellsPairN : Tryz.prog.cellsOf 151 = 2 := by kernel_rfl
theorem cellsIntN : Tryz.prog.cellsOf 3 = 1 := by kernel_rfl
theorem cellsNames : Tryz.prog.cellsOf 26 = 5 := by kernel_rfl
theorem frN_len : ∀ (l : List (Int × Int)), (frV l).length = l.length * 2
 | [] => rfl
 | a :: l => by
  have := frN_len l
  unfold frV at this ⊢
  rw [List.flatMap_cons, List.length_append, this]; simp; omega
theorem prn_of_cells {H : Type} {enc : TypeId × Value → H} {W : World} {v : Value} {fuel : Nat} {x : DataW H × List MemPlace}
  (hf : DataW.trod enc Tryz.prog W 0 (fun _ => true) true fuel 23 [v] = some x) : ∃ l, PrN W v l ∧ (∀ p ∈ l, IntOk p.1 ∧ IntOk p.2) ∧ ((∀ n ∈ DataW.weights Tryz.prog 23 x.1, n ≤ reachBytes) → l.length ≤ 9000000000000) := by
 rcases open_slice_pairs Tryz.underlying23 Tryz.underlying151 cellsPairN rfl rfl cellsIntN cellsIntN hf with ⟨hcs, hx⟩ | ⟨a, len', cap', m, n, V0, V1, D0, D1, P0, P1, hcs, hb, hl, hm, hmm, hx, hi⟩
 ·obtain rfl : v = .slice none 0 0 := by simpa using hcs
  exact ⟨[], ⟨rfl, none, 0, rfl, by simp, (fun _ => ⟨rfl, rfl⟩), (fun h => by simp at h)⟩, (fun p hp => by cases hp), by simp⟩
 ·obtain ⟨len, cap, rfl, rfl⟩ : ∃ len cap, len = len' ∧ cap = cap' := ⟨_, _, rfl, rfl⟩
  obtain rfl : v = .slice (some a) len cap := by simpa using hcs
  simp only [if_true] at hmm
  have h0 : ∀ i, ∃ z : Int, i < len → V0 i = .int .i64 z ∧ IntOk z := fun i => by
   by_cases hlt : i < len
   ·obtain ⟨_, _, ht, _⟩ := hi i (by omega)
    obtain ⟨z, hc, _, hw⟩ := DataW.trod_int Tryz.underlying3 ht
    exact ⟨z, fun _ => ⟨by simpa using hc, bounds_i64 hw⟩⟩
   ·exact ⟨0, fun h => absurd h hlt⟩
  have h1 : ∀ i, ∃ z : Int, i < len → V1 i = .int .i64 z ∧ IntOk z := fun i => by
   by_cases hlt : i < len
   ·obtain ⟨_, _, _, ht⟩ := hi i (by omega)
    obtain ⟨z, hc, _, hw⟩ := DataW.trod_int Tryz.underlying3 ht
    exact ⟨z, fun _ => ⟨by simpa using hc, bounds_i64 hw⟩⟩
   ·exact ⟨0, fun h => absurd h hlt⟩
  obtain ⟨Z0, hZ0⟩ := Classical.skolem.1 h0
  obtain ⟨Z1, hZ1⟩ := Classical.skolem.1 h1
  have hlen : ((List.range len).map fun i => ((Z0 i, Z1 i) : Int × Int)).length = len := by simp
  have hel : ∀ (i : Nat) (h : i < ((List.range len).map fun i => ((Z0 i, Z1 i) : Int × Int)).length), ((List.range len).map fun i => ((Z0 i, Z1 i) : Int × Int))[i] = (Z0 i, Z1 i) := fun i h => by simp
  have hok : ∀ p ∈ (List.range len).map fun i => ((Z0 i, Z1 i) : Int × Int), IntOk p.1 ∧ IntOk p.2 := fun p hp => by
   obtain ⟨i, hi', rfl⟩ := List.mem_map.1 hp
   exact ⟨(hZ0 i (List.mem_range.1 hi')).2, (hZ1 i (List.mem_range.1 hi')).2⟩
  have hwl : (∀ n ∈ DataW.weights Tryz.prog 23 x.1, n ≤ reachBytes) → ((List.range len).map fun i => ((Z0 i, Z1 i) : Int × Int)).length ≤ 9000000000000 := by
   intro hw
   rw [hlen]
   have hb16 : Tryz.prog.bytesOf 151 = 16 := by kernel_rfl
   rw [hx] at hw
   simp only [DataW.weights, Tryz.underlying23] at hw
   have := hw _ List.mem_cons_self
   rw [hb16] at this
   unfold reachBytes at this
   simp at this
   omega
  refine ⟨(List.range len).map fun i => ((Z0 i, Z1 i) : Int × Int), ?_, hok, hwl⟩
  clear hok hwl
  generalize (List.range len).map (fun i => ((Z0 i, Z1 i) : Int × Int)) = l at *
  subst hlen
  refine ⟨frN_len l, some a, cap, rfl, ⟨hl, hm⟩, (fun h => by cases h), fun hn => ?_⟩
  obtain ⟨b, off, spot⟩ := a
  have hspot : spot = none := by simpa [Addr.add] using World.cell?_spot (hi 0 (by omega)).1
  subst hspot
  refine ⟨b, off, rfl, fun i hii => ?_⟩
  have hk : i / 2 < l.length := by omega
  obtain ⟨c0, c1, _, _⟩ := hi (i / 2) (by omega)
  rw [Addr.add_lit, (hZ0 _ hk).1] at c0
  rw [Addr.add_lit, (hZ1 _ hk).1] at c1
  obtain ⟨e0, e1⟩ := frV_two l (i / 2) hk
  rw [hel _ hk] at e0 e1
  rcases Nat.mod_two_eq_zero_or_one i with h | h
  ·have ei : i = i / 2 * 2 := by omega
   rw [show (frV l)[i]? = (frV l)[i / 2 * 2]? from by rw [← ei], e0, ← c0]; congr 2; omega
  ·have ei : i = i / 2 * 2 + 1 := by omega
   rw [show (frV l)[i]? = (frV l)[i / 2 * 2 + 1]? from by rw [← ei], e1, ← c1]; congr 2; omega
theorem names_of_trod {H : Type} {enc : TypeId × Value → H} {W : World} {base : Nat} {v : Value} {d : DataW H} {p : List MemPlace}
  (hval : Value.okWide Tryz.prog W .any base 26 v) (h : DataW.Trod enc Tryz.prog W 0 (fun _ => true) true 26 v d p) (hwt : ∀ n ∈ DataW.weights Tryz.prog 26 d, n ≤ reachBytes) :
  ∃ (vk vs vv vt vo : Value) (lk ls lv lt : List (Int × Int)) (L : List Int), v = .agg #[vk, vs, vv, vt, vo] ∧ (PrN W vk lk ∧ ∀ p ∈ lk, IntOk p.1 ∧ IntOk p.2) ∧ (PrN W vs ls ∧ ∀ p ∈ ls, IntOk p.1 ∧ IntOk p.2) ∧ (PrN W vv lv ∧ ∀ p ∈ lv, IntOk p.1 ∧ IntOk p.2) ∧ (PrN W vt lt ∧ ∀ p ∈ lt, IntOk p.1 ∧ IntOk p.2) ∧ Ints W vo L ∧ lk.length ≤ 9000000000000 ∧ ls.length ≤ 9000000000000 ∧ lv.length ≤ 9000000000000 ∧ lt.length ≤ 9000000000000 := by
 obtain ⟨cs, rfl, hsz⟩ := okWide_struct Tryz.underlying26 hval
 obtain ⟨c0, c1, c2, c3, c4, rfl⟩ := array5N (hsz.trans cellsNames)
 obtain ⟨fuel, hf⟩ := h
 obtain ⟨xs, n, _, hx, hl, hlen, hf⟩ := DataW.trod_struct Tryz.underlying26 hf
 have h0 := hf 0 _ rfl
 have h1 := hf 1 _ rfl
 have h2 := hf 2 _ rfl
 have h3 := hf 3 _ rfl
 have h4 := hf 4 _ rfl
 match xs, hlen with
 | [y0, y1, y2, y3, y4], _ =>
  simp [Value.cells] at h0 h1 h2 h3 h4
  have hd := congrArg Prod.fst hx
  have hd : d = .agg ([y0, y1, y2, y3, y4].map (·.1)) := hd
  have hin : ∀ i (hi : i < 4) n, n ∈ DataW.weights Tryz.prog 23 ([y0, y1, y2, y3, y4][i]'(by simp; omega)).1 → n ≤ reachBytes := fun i hi n hn => hwt n (by
   rw [hd]
   simp only [DataW.weights, Tryz.underlying26, DataW.weightsEach, List.map_cons, List.map_nil]
   match i, hi with
   | 0, _ => simp at hn; simp [hn]
   | 1, _ => simp at hn; simp [hn]
   | 2, _ => simp at hn; simp [hn]
   | 3, _ => simp at hn; simp [hn])
  obtain ⟨lk, hk, ik, nk⟩ := prn_of_cells h0
  obtain ⟨ls, hs, is, ns⟩ := prn_of_cells h1
  obtain ⟨lv, hv, iv, nv⟩ := prn_of_cells h2
  obtain ⟨lt, ht, it, nt⟩ := prn_of_cells h3
  obtain ⟨L, ho⟩ := ints_of_cells h4
  exact ⟨c0, c1, c2, c3, c4, lk, ls, lv, lt, L, rfl, ⟨hk, ik⟩, ⟨hs, is⟩, ⟨hv, iv⟩, ⟨ht, it⟩, ho, nk (hin 0 (by omega)), ns (hin 1 (by omega)), nv (hin 2 (by omega)), nt (hin 3 (by omega))⟩
end

section
open Go.RowKit
structure KeepLaw (B : Nat) (Kp : (Nat → Prop) → Nat → World → World → Prop) : Prop where
 put : ∀ {X D A l o r}, B ≤ l → l < D → A.heap[l]? = some (.loop r) → Kp X D A (A.putObj l o)
 trans : ∀ {X D A B C}, Kp X D A B → Kp X D B C → Kp X D A C
 mono : ∀ {X D E A B}, Kp X D A B → D ≤ E → Kp X E A B
 same : ∀ {X D A B k o}, Kp X D A B → D ≤ k → ¬ X k → A.heap[k]? = some o → o.isCells = false → B.heap[k]? = some o
structure KeepsX (D : Nat) (X : Nat → Prop) (A B : World) : Prop where
 os : B.os = A.os
 tape : B.tape = A.tape
 output : B.output = A.output
 size : A.heap.size ≤ B.heap.size
 same : ∀ k, k < D ∨ X k → k < A.heap.size → B.heap[k]? = A.heap[k]?
theorem KeepsX.trans {D : Nat} {X : Nat → Prop} {A B C : World} (h : KeepsX D X A B) (k : KeepsX D X B C) : KeepsX D X A C :=
 ⟨k.os.trans h.os, k.tape.trans h.tape, k.output.trans h.output, Nat.le_trans h.size k.size, fun j hj hl => (k.same j hj (Nat.lt_of_lt_of_le hl h.size)).trans (h.same j hj hl)⟩
theorem KeepsX.of_below {D : Nat} {X : Nat → Prop} {A B : World} (h : Below A.heap.size A B) : KeepsX D X A B := ⟨h.os, h.tape, h.output, h.size, fun k _ hk => h.block k hk⟩
theorem KeepsX.below {D : Nat} {X : Nat → Prop} {A B : World} (h : KeepsX D X A B) (hD : D ≤ A.heap.size) : Below D A B := ⟨h.os, h.tape, h.output, h.size, fun k hk => h.same k (.inl hk) (by omega)⟩
theorem KeepsX.put {D l : Nat} {X : Nat → Prop} (A : World) (o : Obj) (hl : D ≤ l) (hX : ¬ X l) : KeepsX D X A (A.putObj l o) :=
 ⟨(grownBy_putObj' A l o).os, (grownBy_putObj' A l o).tape, (grownBy_putObj' A l o).output, (grownBy_putObj' A l o).size, fun k hk _ => World.putObj_heap_other (fun e => by subst e; exact hk.elim (fun h => by omega) hX)⟩
def StaysX {α : Type} (D : Nat) (J : (Nat → Prop) → List α → World → Prop) : Prop := ∀ X pre A B, J X pre A → KeepsX D X A B → J X pre B
def SeqOf {α : Type} (H : Nat → (Nat → Prop) → World → Value → α → Prop) (Kp : (Nat → Prop) → Nat → World → World → Prop) (F : Fence) (n : Nat) (P : Program) (g : Nat) (pb lb : Array Value) (L : List α) (w : World) : Prop :=
 ∀ (l : Nat) (J : (Nat → Prop) → List α → World → Prop) (Jx : List α → World → Prop) (W : World), KeepsX w.heap.size (fun _ => False) w W → StaysX W.heap.size J →
  (∀ X pre v r A, J X pre A → H W.heap.size X A v r → (∀ k, X k → W.heap.size ≤ k) → (pre ++ [r]) <+: L → YieldAt F (n - 1) P l #[v] A fun e B =>
   (e = .returned (.bool true) ∧ (∃ X', J X' (pre ++ [r]) B ∧ ∀ k, X' k → X k ∨ (A.heap.size ≤ k ∧ k < B.heap.size)) ∧ Kp X W.heap.size A B) ∨ (e = .returned (.bool false) ∧ Jx (pre ++ [r]) B ∧ Kp X W.heap.size A B)) →
  J (fun _ => False) [] W →
  CallsIn F n P g (pb ++ #[.func (.yield l) #[] #[]] ++ lb) W fun e B => (∃ v, e = .returned v) ∧ ((∃ X, J X L B) ∨ ∃ pre, pre <+: L ∧ Jx pre B)
def roundEndO {α : Type} (Kp : (Nat → Prop) → Nat → World → World → Prop) (D : Nat) (I : (Nat → Prop) → List α → World → Prop) (Ix : Code → List α → World → Prop) (X : Nat → Prop) (xs : List α) (W : World) : Exit → Act → World → Prop
 | .normal, _, B => (∃ X', I X' xs B ∧ ∀ k, X' k → X k ∨ (W.heap.size ≤ k ∧ k < B.heap.size)) ∧ Kp X D W B
 | .ret, _, B => Kp X D W B ∧ Ix .ret xs B
 | .exit id, _, B => Kp X D W B ∧ Ix (.exit id) xs B
 | _, _, _ => False
def KpN (N : Nat → Prop) (X : Nat → Prop) (D : Nat) (A B : World) : Prop := A.heap.size ≤ B.heap.size ∧ ∀ k, N k ∨ D ≤ k → ¬ X k → k < A.heap.size → B.heap[k]? = A.heap[k]?
theorem kpN_law {N : Nat → Prop} {B : Nat} (hN : ∀ k, N k → k < B) : KeepLaw B (KpN N) :=
 ⟨fun {X D A l o r} hB hl _ => ⟨Nat.le_of_eq World.putObj_size.symm, fun k hk _ _ => World.putObj_heap_other (fun e => by subst e; exact hk.elim (fun q => by have := hN _ q; omega) (fun q => by omega))⟩,
  fun h k => ⟨Nat.le_trans h.1 k.1, fun j hj hX hl => (k.2 j hj hX (Nat.lt_of_lt_of_le hl h.1)).trans (h.2 j hj hX hl)⟩,
  fun h e => ⟨h.1, fun j hj => h.2 j (hj.imp id (fun q => Nat.le_trans e q))⟩, fun h hk hX e _ => (h.2 _ (.inr hk) hX (Array.getElem?_eq_some_iff.1 e).1).trans e⟩
theorem KpN.of_grown {N X : Nat → Prop} {D : Nat} {A B : World} {row : Option Nat} (h : A.grownBy B row) (hr : ∀ j, row = some j → (¬ N j ∧ j < D) ∨ X j) : KpN N X D A B :=
 ⟨h.size, fun k hk hX hl => h.block k hl (fun e => (hr k e.symm).elim (fun q => hk.elim q.1 (fun z => by omega)) hX)⟩
theorem KpN.trans {N X : Nat → Prop} {D : Nat} {A B C : World} (h : KpN N X D A B) (k : KpN N X D B C) : KpN N X D A C :=
 ⟨Nat.le_trans h.1 k.1, fun j hj hX hl => (k.2 j hj hX (Nat.lt_of_lt_of_le hl h.1)).trans (h.2 j hj hX hl)⟩
theorem KpN.of_below {N X : Nat → Prop} {D : Nat} {A B : World} (h : Below A.heap.size A B) : KpN N X D A B := ⟨h.size, fun k _ _ hk => h.block k hk⟩
section
variable {α : Type} {H : Nat → (Nat → Prop) → World → Value → α → Prop} {Kp : (Nat → Prop) → Nat → World → World → Prop}
theorem range_of (hH : ∀ {D X W v x l o r}, H D X W v x → l < D → W.heap[l]? = some (.loop r) → H D X (W.putObj l o) v x)
  {F : Fence} {n : Nat} {P : Program} {g : Operand} {ps : Array Tmp} {assign body : Code} {Q : Exit → Act → World → Prop} {a : Act} {w w0 : World} {gf : Nat} {pb lb : Array Value} {L : List α}
  (hKp : KeepLaw w.heap.size Kp) (hro : F.round = none) (h1 : 1 ≤ n) (hg : a.eval g = .func (.func gf) pb lb) (hFg : F.fn gf) (eg : ∀ args w, (callFunc gf args).run P w = .ok (.enter gf args) w)
  (hseq : SeqOf H Kp F (n - 1) P gf pb lb L w0) (hb0 : KeepsX w0.heap.size (fun _ => False) w0 w) (hps : ps.size = 1)
  (I : (Nat → Prop) → List α → World → Prop) (Ix : Code → List α → World → Prop) (hI : StaysX w.heap.size I) (hIx : ∀ c pre W (r : Loop) o, Ix c pre W → W.heap[w.heap.size + 1]? = some (.loop r) → Ix c pre (W.putObj (w.heap.size + 1) o)) (h0 : I (fun _ => False) [] w) (a1 : Value → Act)
  (hassign : ∀ (l : Nat) (v : Value) (W : World) (K : Act → World → Prop), K (a1 v) W →
   assign.wpIn (F.inRound l) (n - 1 - 1) P (Exit.then K (fun _ _ _ => False)) { tmps := (ps.zip #[v]).foldl (fun t (p, v) => t.setIfInBounds p v) a.tmps, defers := [] } W)
  (hbody : ∀ (l : Nat) (X : Nat → Prop) (pre : List α) (v : Value) (r : α) (W : World), w.heap.size ≤ l → l < w.heap.size + 2 → (∃ q, W.heap[l]? = some (.loop q)) → (∀ k, X k → w.heap.size + 2 ≤ k) → I X pre W → H (w.heap.size + 2) X W v r → (pre ++ [r]) <+: L → w.heap.size + 2 ≤ W.heap.size →
   body.wpIn (F.inRound l) (n - 1 - 1) P (roundEndO Kp w.heap.size I Ix X (pre ++ [r]) W) (a1 v) W)
  (hdone : ∀ X W, I X L W → W.heap[w.heap.size]? = some (.deferred (some [])) → Q .normal { a with defers := { target := .collected w.heap.size, args := #[] } :: a.defers } W)
  (hstop : ∀ c pre W, pre <+: L → Ix c pre W → W.heap[w.heap.size]? = some (.deferred (some [])) → c.wpIn F n P Q { a with defers := { target := .collected w.heap.size, args := #[] } :: a.defers } W) :
  (Code.rangeFunc g ps assign body).wpIn F n P Q a w := by
 refine wpIn_rangeFunc fun fn hfn => ?_
 rw [hro]
 generalize hD : w.heap.size = D at *
 obtain ⟨rec, hrec⟩ : ∃ rec : LoopState → Option Code → Loop, rec = fun st pe => { state := st, pending := pe, fn, tmps := a.tmps, params := ps, assign, body, defers := D } := ⟨_, rfl⟩
 have hrun : (Instr.enterLoop fn a.tmps ps assign body none).run P w = .ok (D + 1, [{ target := .collected D, args := #[] }]) ((w.alloc (.deferred (some []))).alloc (.loop (rec .ready none))) := by
  rw [hrec, ← hD]; exact run_enterLoop_outer _ _ _ _ _
 have hbel : Below w.heap.size w ((w.alloc (.deferred (some []))).alloc (.loop (rec .ready none))) := ((Below.refl _ w).alloc (Nat.le_refl _) _).alloc (by simp) _
 have hsz : ((w.alloc (.deferred (some []))).alloc (.loop (rec .ready none))).heap.size = D + 2 := by simp [hD]
 have hl1 : ((w.alloc (.deferred (some []))).alloc (.loop (rec .ready none))).heap[D + 1]? = some (.loop (rec .ready none)) := by
  have := World.alloc_heap_new (w.alloc (.deferred (some []))) (.loop (rec .ready none))
  rwa [World.size_alloc, hD] at this
 have hd1 : ((w.alloc (.deferred (some []))).alloc (.loop (rec .ready none))).heap[D]? = some (.deferred (some [])) := by
  rw [Below.heap_alloc _ _ _ (by simp [hD])]
  have := World.alloc_heap_new w (.deferred (some []))
  rwa [hD] at this
 generalize (w.alloc (.deferred (some []))).alloc (.loop (rec .ready none)) = W1 at *
 rw [hD] at hbel
 have hput : ∀ (X : Nat → Prop) (W : World) (o : Obj), (∀ k, X k → D + 2 ≤ k) → KeepsX D X W (W.putObj (D + 1) o) := fun X W o h =>
  KeepsX.put W o (by omega) (fun q => by have := h _ q; omega)
 refine ⟨D + 1, _, W1, { target := .fn (.func gf) lb, args := pb ++ #[.func (.yield (D + 1)) #[] #[]] }, W1, gf, pb ++ #[.func (.yield (D + 1)) #[] #[]] ++ lb, W1, hrun, ?_, ?_, ?_, fun _ => h1, ?_⟩
 ·simp only [resolve, hg]; simp [go_sem]
 ·intro f' hf'; simp [Target.leads] at hf'; subst hf'; exact hFg
 ·simp [invoke, go_sem, eg]
 have hat : ∀ {X : Nat → Prop} {A B : World} {k : Nat} {o : Obj}, KeepsX W1.heap.size X A B → k < D + 2 → A.heap[k]? = some o → B.heap[k]? = some o := fun h hk e => (h.same _ (.inl (by omega)) (Array.getElem?_eq_some_iff.1 e).1).trans e
 refine (hseq (D + 1) (fun X pre W => (∀ k, X k → D + 2 ≤ k) ∧ I X pre W ∧ W.heap[D + 1]? = some (.loop (rec .ready none)) ∧ W.heap[D]? = some (.deferred (some [])))
  (fun pre W => ∃ c, Ix c pre W ∧ W.heap[D + 1]? = some (.loop (rec .done (some c))) ∧ W.heap[D]? = some (.deferred (some []))) W1
  (hb0.trans ⟨hbel.os, hbel.tape, hbel.output, hbel.size, fun j hj hl => hbel.block j (by rw [← hD]; exact hl)⟩)
  (fun X pre A B h hb => ⟨h.1, hI _ _ _ _ h.2.1 ⟨hb.os, hb.tape, hb.output, hb.size, fun k hk hl => hb.same k (hk.imp (fun q => by omega) id) hl⟩, hat hb (by omega) h.2.2.1, hat hb (by omega) h.2.2.2⟩)
  ?_ ⟨fun _ h => h.elim, hI _ _ _ _ h0 (KeepsX.of_below (by rw [hD]; exact hbel)), hl1, hd1⟩).mono ?_
 ·rintro X pre v r A ⟨hX, hi, hl, hk⟩ hr _ hpre
  rw [hsz] at hr ⊢
  have hlt : D + 1 < A.heap.size := (Array.getElem?_eq_some_iff.1 hl).1
  have hy := run_yield (P := P) (args := #[v]) hl (by rw [hrec]; exact hps.symm)
  rw [hrec] at hy
  refine ⟨fn, _, assign, body, hy, roundIn_of_wpIn hfn (hassign _ v A _ ⟨_, run_beginRound hl (by rw [hrec]), ?_⟩)⟩
  have hl2 : (A.putObj (D + 1) (.loop { rec .ready none with state := .busy })).heap[D + 1]? = some (.loop { rec .ready none with state := .busy }) := World.putObj_heap_same hlt
  have hk2 : (A.putObj (D + 1) (.loop { rec .ready none with state := .busy })).heap[D]? = some (.deferred (some [])) := (World.putObj_heap_other (by omega)).trans hk
  have hK2 := hKp.put (X := X) (D := D + 2) (A := A) (l := D + 1) (o := .loop { rec .ready none with state := .busy }) (by omega) (by omega) hl
  refine wpIn_mono (hbody _ X pre v r _ (by omega) (by omega) ⟨_, hl2⟩ hX (hI _ _ _ _ hi (hput _ _ _ hX)) (hH hr (by omega) hl) hpre (by simp; omega)) ?_
  rintro e a3 W3 hp
  have fin : ∀ (jump : Option Code), Kp X D (A.putObj (D + 1) (.loop { rec .ready none with state := .busy })) W3 →
    ∃ B, (Instr.endRound (D + 1) jump).run P W3 = .ok (.bool jump.isNone) B ∧ (∃ (r : Loop) (o : Obj), W3.heap[D + 1]? = some (.loop r) ∧ B = W3.putObj (D + 1) o) ∧ (∀ Y, (∀ k, Y k → D + 2 ≤ k) → KeepsX D Y W3 B) ∧ Kp X (D + 2) A B ∧ B.heap[D + 1]? = some (.loop (rec (if jump.isNone then .ready else .done) jump)) ∧ B.heap[D]? = some (.deferred (some [])) := fun jump hk3 => by
   have hl3 := hKp.same hk3 (by omega) (fun q => by have := hX _ q; omega) hl2 rfl
   have hd3 := hKp.same hk3 (Nat.le_refl _) (fun q => by have := hX _ q; omega) hk2 rfl
   have hlt3 := (Array.getElem?_eq_some_iff.1 hl3).1
   refine ⟨_, run_endRound (P := P) jump hl3, ⟨_, _, hl3, rfl⟩, fun Y hY => hput Y _ _ hY, hKp.trans (hKp.trans hK2 (hKp.mono hk3 (by omega))) (hKp.put (by omega) (by omega) hl3), ?_, (World.putObj_heap_other (by omega)).trans hd3⟩
   rw [World.putObj_heap_same hlt3, hrec]
  cases e with
  | normal =>
   obtain ⟨⟨X', hi3, hX'⟩, hk3⟩ := hp
   obtain ⟨B, hr, _, hb, hkb, hl4, hd4⟩ := fin none hk3
   rw [World.putObj_size] at hX'
   have hY : ∀ k, X' k → D + 2 ≤ k := fun k q => (hX' k q).elim (hX k) (fun h => by omega)
   have hsz2 := (hb X' hY).size
   exact ⟨_, B, hr, .inl ⟨rfl, ⟨X', ⟨hY, hI _ _ _ _ hi3 (hb X' hY), hl4, hd4⟩, fun k q => (hX' k q).imp id (fun h => ⟨h.1, Nat.lt_of_lt_of_le h.2 hsz2⟩)⟩, hkb⟩⟩
  | ret =>
   obtain ⟨hk3, hi3⟩ := hp
   obtain ⟨B, hr, ⟨lr, lo, hl3, hB⟩, _, hkb, hl4, hd4⟩ := fin (some .ret) hk3
   exact ⟨_, B, hr, .inr ⟨rfl, ⟨_, by rw [hB]; exact hIx _ _ _ lr lo hi3 hl3, hl4, hd4⟩, hkb⟩⟩
  | exit id =>
   obtain ⟨hk3, hi3⟩ := hp
   obtain ⟨B, hr, ⟨lr, lo, hl3, hB⟩, _, hkb, hl4, hd4⟩ := fin (some (.exit id)) hk3
   exact ⟨_, B, hr, .inr ⟨rfl, ⟨_, by rw [hB]; exact hIx _ _ _ lr lo hi3 hl3, hl4, hd4⟩, hkb⟩⟩
  | goto t => exact hp.elim
  | panic ch => exact hp.elim
  | outgrown => exact hp.elim
 ·rintro e W2 ⟨⟨v, rfl⟩, (⟨X, hX, hi, hl, hk⟩ | ⟨pre, hpre, c, hi, hl, hk⟩)⟩
  ·have hlt := (Array.getElem?_eq_some_iff.1 hl).1
   refine ⟨none, _, by have := run_endLoop (P := P) hl (by rw [hrec]; simp); rw [hrec] at this; exact this, ?_⟩
   exact hdone X _ (hI _ _ _ _ hi (hput _ _ _ hX)) ((World.putObj_heap_other (by omega)).trans hk)
  ·refine ⟨some c, _, by have := run_endLoop (P := P) hl (by rw [hrec]; simp); rw [hrec] at this; exact this, ?_⟩
   exact hstop c pre _ hpre (hIx _ _ _ _ _ hi hl) ((World.putObj_heap_other (by omega)).trans hk)
end
end

section
open Go.RowKit
def BoxN (w : World) (p : Nat) (t : TypeId) (cs : Array Value) : Prop := w.heap[p]? = some (.cells cs t (0, 0))
section
variable {w w' : World} {p : Nat} {t : TypeId} {cs : Array Value}
theorem BoxN.lt (h : BoxN w p t cs) : p < w.heap.size := (Array.getElem?_eq_some_iff.1 h).1
theorem BoxN.cell (h : BoxN w p t cs) {i : Nat} {v : Value} (hv : cs[i]? = some v) : w.cell? ⟨p, i, none⟩ = some v := by rw [cell_of_row w p i _ _ _ h]; exact hv
theorem BoxN.free (h : BoxN w p t cs) (i : Nat) : w.frozen? ⟨p, i, none⟩ = false := frozen_of_row w p i _ _ h
theorem BoxN.new (w : World) (t : TypeId) (cs : Array Value) : BoxN (w.alloc (.cells cs t)) w.heap.size t cs := World.alloc_heap_new w _
theorem BoxN.below (h : BoxN w p t cs) (hb : Below w.heap.size w w') : BoxN w' p t cs := (hb.block p h.lt).trans h
theorem BoxN.kept {row : Option Nat} (h : BoxN w p t cs) (hg : w.grownBy w' row) (hne : some p ≠ row) : BoxN w' p t cs := (hg.block p h.lt hne).trans h
theorem BoxN.set (h : BoxN w p t cs) (i : Nat) (v : Value) : BoxN (w.setCell ⟨p, i, none⟩ v) p t (cs.setIfInBounds i v) := heap_setCell_same w p i cs t v h
theorem BoxN.far (h : BoxN w p t cs) {a : Addr} (ha : p ≠ a.block) (v : Value) : BoxN (w.setCell a v) p t cs := (heap_setCell_other w a p v ha).trans h
end
theorem owns_no_box {w : World} {b : Nat} {e t : TypeId} {s n p : Nat} {v : Value} {xs : List Value} {cs : Array Value} (h : w.ownsRow b e s v n xs) (k : BoxN w p t cs) (hne : e ≠ t) : v.ownBlock = none ∨ v.ownBlock ≠ some p := by
 rcases h.2 with ⟨rfl, _⟩ | ⟨g, c, cur, rfl, _, hh, _⟩
 ·exact .inl rfl
 ·right
  intro e2
  simp [Value.ownBlock] at e2
  subst e2
  unfold BoxN at k
  rw [hh] at k
  injection k with k
  injection k with _ k
  exact hne k
theorem grown_set (w : World) (a : Addr) (u : Value) : w.grownBy (w.setCell a u) (some a.block) :=
 ⟨rfl, rfl, rfl, by simp, fun k _ hk => Below.heap_setCell w a u k (fun e => hk (by rw [e]))⟩
theorem owns_weak {w : World} {b b' : Nat} {e : TypeId} {s n : Nat} {v : Value} {xs : List Value} (h : w.ownsRow b e s v n xs) (hb : b' ≤ b) : w.ownsRow b' e s v n xs := by
 refine ⟨h.1, ?_⟩
 rcases h.2 with q | ⟨g, c, cur, e1, e2, r⟩
 ·exact .inl q
 ·exact .inr ⟨g, c, cur, e1, Nat.le_trans hb e2, r⟩
def IntO (w : World) (b : Nat) (v : Value) (L : List Int) : Prop := w.ownsRow b 3 1 v L.length (L.map (Value.int .i64))
section
variable {w w' : World} {b : Nat} {v : Value} {L : List Int}
theorem IntO.ints (h : IntO w b v L) : Ints w v L := Ints.of_owns h
theorem IntO.below (h : IntO w b v L) (hb : Below w.heap.size w w') : IntO w' b v L := owns_below h hb
theorem IntO.box {p : Nat} {t : TypeId} {cs : Array Value} (h : IntO w b v L) (k : BoxN w p t cs) (hne : 3 ≠ t) (hg : w.grownBy w' (some p)) : IntO w' b v L := World.ownsRow.kept h hg (owns_no_box h k hne)
theorem IntO.nil (w : World) (b : Nat) : IntO w b (.slice none 0 0) [] := ⟨rfl, .inl ⟨rfl, rfl⟩⟩
end
end

section
open Go.RowKit Go.Shelf
attribute [local go_sem] Oper.semAt_some
abbrev IntH : Nat → (Nat → Prop) → World → Value → Int → Prop := fun _ _ _ v x => v = .int .i64 x
theorem svalues_any (ao : Option Addr) (m cap : Nat) (w : World) :
  Calls Tryz.prog 89 #[.slice ao m cap] w fun e w' => e = .returned (.func (.func 134) #[] #[.pointer (some ⟨w.heap.size, 0, none⟩)]) ∧ w' = w.alloc (.cells #[.slice ao m cap] 24) := by
 go_enter Tryz.func89, Tryz.ntmps89
 go_wp2_with fail
 go_ret
 exact ⟨rfl, rfl⟩
theorem take_pre {α : Type} (l : List α) {k : Nat} (hk : k < l.length) : (l.take k ++ [l[k]]) <+: l := by
 rw [← List.take_succ_eq_append_getElem hk]; exact List.take_prefix _ _
theorem svalues_seq (n Bs : Nat) (va : Value) (xs : List Int) (w : World) (hB : Bs < w.heap.size) (hc : w.cell? ⟨Bs, 0, none⟩ = some va) (hI : Ints w va xs) :
  SeqOf IntH (KpN fun k => k < w.heap.size) Fence.wide n Tryz.prog 134 #[] #[.pointer (some ⟨Bs, 0, none⟩)] xs w := by
 intro l J Jx W hW hJ hY h0
 obtain ⟨ao, cap, rfl, hal⟩ := hI.form
 have hWb : Below w.heap.size w W := hW.below (Nat.le_refl _)
 have hcell := (hWb.cell (p := ⟨Bs, 0, none⟩) hB).trans hc
 have HI := hid hI
 have HW0 : Hid (∀ j, j < w.heap.size → W.heap[j]? = w.heap[j]?) := hid (fun j hj => hWb.block j hj)
 have HYL := hid (fun X pre v r A a b c d => yield_depth (m := n - 1) rfl 1 (hY X pre v r A a b c d))
 have HWS := hid hW.size
 clear hY hW hWb hc hI
 refine (callsIn_wide (n := n)).2 ((callsIn_wide (n := 2)).1 ?_)
 refine callsIn_of_wp Tryz.func134 rfl trivial ?_ rfl
 simp only [Tryz.ntmps134, List.size_toArray, List.length_cons, List.length_nil, Nat.reduceAdd, Nat.reduceSub, Array.replicate_succ, Array.replicate_zero, List.push_toArray, List.append_toArray, List.nil_append, List.cons_append]
 gi_wp2
 gi_loopw [7] (fun i wr => ∃ (k : Nat) (X : Nat → Prop), k ≤ xs.length ∧ i = .int .i64 (k : Int) ∧ Hid (J X (xs.take k) wr) ∧ Hid (∀ j, X j → W.heap.size ≤ j) ∧ Hid (∀ j, j < w.heap.size → wr.heap[j]? = w.heap[j]?) ∧ Hid (W.heap.size ≤ wr.heap.size))
  (fun i _ => xs.length - (intOf i).toNat)
 case atStart => exact ⟨0, fun _ => False, Nat.zero_le _, rfl, hid h0, hid (fun _ q => q.elim), HW0, hid (Nat.le_refl _)⟩
 case round =>
  clear h0 hcell
  obtain ⟨k, X, hk, rfl, HJ, HX, HS, HZ⟩ := hrel
  by_cases hlt : k < xs.length
  ·have hki : (k : Int) < (xs.length : Int) := by omega
   obtain ⟨g, o, hg, hcx⟩ := HI.out.at hlt
   cases hg
   have hcx := (World.cell?_of_block (HS.out g (block_lt hcx))).trans hcx
   have HT : Hid (xs.take (k + 1) = xs.take k ++ [xs[k]]) := hid (List.take_succ_eq_append_getElem hlt)
   have HP := hid (take_pre xs hlt)
   obtain ⟨fn, tmps, assign, body, hy, hR⟩ := HYL.out X (xs.take k) (.int .i64 xs[k]) xs[k] wr HJ.out rfl HX.out HP.out
   generalize xs[k] = x at *
   gi_wp2
   refine hR.mono ?_
   rintro e W3 (⟨rfl, ⟨X', hJ', hX'⟩, hk'⟩ | ⟨rfl, hx, _⟩)
   ·have HJ2 : Hid (J X' (xs.take (k + 1)) W3) := hid (by rw [HT.out]; exact hJ')
    have HX2 : Hid (∀ j, X' j → W.heap.size ≤ j) := hid (fun j q => (hX' j q).elim (HX.out j) (fun z => Nat.le_trans HZ.out z.1))
    have HS2 : Hid (∀ j, j < w.heap.size → W3.heap[j]? = w.heap[j]?) := hid (fun j hj => (hk'.2 j (.inl hj) (fun q => by have := HX.out j q; have := HWS.out; omega) (by have := HZ.out; have := HWS.out; omega)).trans (HS.out j hj))
    have HZ2 : Hid (W.heap.size ≤ W3.heap.size) := hid (Nat.le_trans HZ.out hk'.1)
    clear hJ' hX' hk' hcx
    gi_wp2
    go_roundw
    case rel => exact ⟨k + 1, X', by omega, by go_num, HJ2, HX2, HS2, HZ2⟩
    case measure => simp [intOf]; omega
   ·gi_wp2
    refine bodyPost_ret (results_none rfl _ _ _) rfl ?_
    exact ⟨⟨_, rfl⟩, .inr ⟨_, HP.out, hx⟩⟩
  ·obtain rfl : k = xs.length := by omega
   have hki : ¬ (xs.length : Int) < (xs.length : Int) := by omega
   have HJ2 : Hid (J X xs wr) := hid (by have q := HJ.out; rwa [List.take_length] at q)
   gi_wp2
   go_end0
   exact ⟨⟨_, rfl⟩, .inl ⟨X, HJ2.out⟩⟩
theorem owns_same {A B : World} {b : Nat} {e : TypeId} {s n : Nat} {v : Value} {xs : List Value} (h : A.ownsRow b e s v n xs) (hs : ∀ g, v.ownBlock = some g → B.heap[g]? = A.heap[g]?) : B.ownsRow b e s v n xs := by
 refine ⟨h.1, ?_⟩
 rcases h.2 with q | ⟨g, c, cur, e1, e2, e3, r⟩
 ·exact .inl q
 ·exact .inr ⟨g, c, cur, e1, e2, by rw [hs g (by rw [e1]; rfl)]; exact e3, r⟩
theorem owns_put {A : World} {b : Nat} {e : TypeId} {s n D : Nat} {v : Value} {xs : List Value} {o : Obj} (h : A.ownsRow b e s v n xs) (hD : A.heap[D]? = some o) (ho : o.isCells = false) (o' : Obj) : (A.putObj D o').ownsRow b e s v n xs := by
 refine owns_same h fun g hg => World.putObj_heap_other fun e => ?_
 subst e
 rcases h.2 with ⟨rfl, _⟩ | ⟨g', c, cur, rfl, _, e3, _⟩
 ·cases hg
 ·simp [Value.ownBlock] at hg
  subst hg
  rw [hD] at e3
  cases e3
  cases ho
theorem sappend_any (Bs : Nat) (va : Value) (xs : List Int) (w : World) (hB : Bs < w.heap.size) (hc : w.cell? ⟨Bs, 0, none⟩ = some va) (hI : Ints w va xs) (hn : xs.length ≤ 100000) :
  Calls Tryz.prog 164 #[.slice none 0 0, .func (.func 134) #[] #[.pointer (some ⟨Bs, 0, none⟩)]] w fun e w' => ∃ v, e = .returned v ∧ IntO w' w.heap.size v xs ∧ Below w.heap.size w w' := by
 obtain ⟨i0, hi, hz0, hz1, hz2⟩ := info_parts infoInt
 refine (callsIn_wide (n := 3)).1 ?_
 refine callsIn_of_wp_marks Tryz.func164 rfl trivial ?_ rfl
 simp only [Tryz.ntmps164, List.size_toArray, List.length_cons, List.length_nil, Nat.reduceAdd, Nat.reduceSub, Array.replicate_succ, Array.replicate_zero, List.push_toArray, List.append_toArray, List.nil_append, List.cons_append]
 have hbel := box_below w (.cells #[.slice none 0 0] 24)
 have hbx := Boxed.new w 24 (.slice none 0 0)
 have hs1 : (w.alloc (.cells #[.slice none 0 0] 24)).heap.size = w.heap.size + 1 := by simp
 gi_wp2_with fail
 generalize w.alloc (.cells #[.slice none 0 0] 24) = W1 at *
 refine range_of (H := IntH) (Kp := KpN fun k => k < w.heap.size) (gf := 134) (pb := #[]) (lb := #[.pointer (some ⟨Bs, 0, none⟩)]) (L := xs) (fun h _ _ => h) (kpN_law (by intro k hk; omega)) rfl (by omega) rfl trivial (fun args w => by kernel_rfl)
  (svalues_seq _ Bs va xs w hB hc hI) ⟨hbel.os, hbel.tape, hbel.output, hbel.size, fun k _ hk => hbel.block k hk⟩ rfl
  (fun X pre W => ∃ v, Boxed W w.heap.size 24 v ∧ IntO W (w.heap.size + 1) v pre ∧ (∀ b, v.ownBlock = some b → X b) ∧ Below w.heap.size w W ∧ ∃ a n c, v = .slice a n c)
  (fun _ _ _ => False) ?stay (fun _ _ _ _ _ q _ => q) ?start
  (fun v => { tmps := #[.slice none 0 0, .func (.func 134) #[] #[.pointer (some ⟨Bs, 0, none⟩)], .pointer (some ⟨w.heap.size, 0, none⟩), undef, .slice none 0 0, v, .func (.func 134) #[] #[.pointer (some ⟨Bs, 0, none⟩)], v, undef, undef, undef, undef, undef], defers := [] }) ?assign ?body ?done ?stop
 case stay =>
  rintro X pre A B ⟨v, h1, h2, h3, h4, h5⟩ hk
  refine ⟨v, (hk.same _ (.inl (by omega)) h1.lt).trans h1, owns_same h2 (fun g hg => hk.same g (.inr (h3 g hg)) (World.ownsRow.lt h2 g hg).2), h3, h4.trans ⟨hk.os, hk.tape, hk.output, hk.size, fun k q => hk.same k (.inl (by omega)) (by have := h4.size; omega)⟩, h5⟩
 case start => exact ⟨_, hbx, IntO.nil _ _, fun b e => (by cases e), hbel, ⟨_, _, _, rfl⟩⟩
 case assign =>
  intro l v W K hK
  gi_wp2
  exact hK
 case body =>
  rintro l X pre v x W hl1 hl2 _ hX ⟨v0, hbox, hO, hXb, hblw, a, m, c, rfl⟩ rfl hpre hsz
  have hpl : pre.length < xs.length := by have := hpre.length_le; simp at this; omega
  have hbc := hbox.cell
  have hbf := hbox.frozen
  have hOl := hO.1
  have HO := hid hO
  have HX := hid hX
  have HXb := hid hXb
  have HBX := hid hbox
  have HBL := hid hblw
  have hsz0 := hblw.size
  have hs1a : W1.heap.size ≤ w.heap.size + 1 := by omega
  have hs1b : w.heap.size + 1 ≤ W1.heap.size := by omega
  clear hbel hbx hs1 hO hX hXb hbox hblw hOl
  have hbe := box_below W (.cells #[.int .i64 x] 3)
  have hown : W.ownsRow (w.heap.size + 1) 3 1 (.slice a m c) pre.length (pre.map (Value.int .i64)) := HO.out
  gi_wp2_with (gi_at_builtin; refine wpListIn_append_own_at _ rfl _ _ 24 rfl (w.heap.size + 1) 3 i0 (.int .i64 0) 1 8 Tryz.underlying24 hi hz0 hz1 hz2 rfl (by decide) _ _ _ rfl (hown.alloc _) ⟨_, 0, none⟩ 1 1 [.int .i64 x] rfl rfl ?c1 ?c2 ?c3 ?c4 ?c5 ?_)
  try case c1 => exact cell_one_new _ _ _
  try case c2 => first | rfl | (intro u hu; simp at hu; subst hu; rfl)
  case c3 => unfold maxLen; omega
  case c4 => omega
  case c5 => simp; omega
  intro v' w1 hown' hgrow _ hat
  obtain ⟨g', cap', rfl, hg1, hg2⟩ := hown'.form (by omega)
  have hrow : ∀ j, (Value.slice a m c).ownBlock = some j → X j := HXb.out
  have hbn : some w.heap.size ≠ (Value.slice a m c).ownBlock := fun e => by have := HX.out _ (hrow _ e.symm); omega
  have hb1 : BoxN w1 w.heap.size 24 #[.slice a m c] := BoxN.kept (BoxN.below (show BoxN W w.heap.size 24 #[.slice a m c] from HBX.out) hbe) hgrow hbn
  have hbc1 := hb1.cell (i := 0) rfl
  have hbf1 := hb1.free 0
  have hgs := grown_set w1 ⟨w.heap.size, 0, none⟩ (.slice (some ⟨g', 0, none⟩) (pre.length + 1) cap')
  have HB2 := hid (hb1.set 0 (.slice (some ⟨g', 0, none⟩) (pre.length + 1) cap'))
  have HO2 : Hid (IntO (w1.setCell ⟨w.heap.size, 0, none⟩ (.slice (some ⟨g', 0, none⟩) (pre.length + 1) cap')) (w.heap.size + 1) (.slice (some ⟨g', 0, none⟩) (pre.length + 1) cap') (pre ++ [x])) := hid (by
   unfold IntO
   rw [List.map_append, List.length_append]
   exact World.ownsRow.kept hown' hgs (owns_no_box hown' hb1 (by decide)))
  have HX2 : Hid (∀ b, (Value.slice (some ⟨g', 0, none⟩) (pre.length + 1) cap').ownBlock = some b → X b ∨ (W.heap.size ≤ b ∧ b < (w1.setCell ⟨w.heap.size, 0, none⟩ (.slice (some ⟨g', 0, none⟩) (pre.length + 1) cap')).heap.size)) := hid (fun b e => by
   have hlt := (World.ownsRow.lt hown' b e).2
   rcases hat with q | q
   ·rw [q] at e; exact .inl (hrow b e)
   ·rw [q] at e; cases e; right; exact ⟨by simp, by simpa using hlt⟩)
  have HBL2 := hid (((HBL.out.alloc HBL.out.size (.cells #[.int .i64 x] 3)).grown hgrow (by simp; omega) (fun j e => by have := (World.ownsRow.lt hown j e).1; omega)).setCell (p := ⟨w.heap.size, 0, none⟩) (Nat.le_refl _) (.slice (some ⟨g', 0, none⟩) (pre.length + 1) cap'))
  have HKP := hid (((KpN.of_below (N := fun k => k < w.heap.size) (X := X) (D := W1.heap.size) hbe).trans (KpN.of_grown hgrow (fun j e => .inr (hrow j e)))).trans (KpN.of_grown hgs (fun j e => .inl (by cases e; exact ⟨Nat.lt_irrefl _, by show w.heap.size < W1.heap.size; omega⟩))))
  clear hown' hgrow hat hb1 hgs hown hbe
  gi_wp2_with fail
  exact ⟨⟨fun k => X k ∨ (W.heap.size ≤ k ∧ k < (w1.setCell ⟨w.heap.size, 0, none⟩ (.slice (some ⟨g', 0, none⟩) (pre.length + 1) cap')).heap.size), ⟨_, HB2.out, HO2.out, HX2.out, HBL2.out, _, _, _, rfl⟩, fun k q => q⟩, HKP.out⟩
 case done =>
  rintro X W ⟨v, h1, h2, h3, h4, a, m, c, rfl⟩ hK
  have hc1 := h1.cell
  have HO := hid h2
  have HB := hid h4
  have hsz := h4.size
  have HK := hid hK
  clear h1 h2 h3 h4 hbel hbx hK
  gi_wp2_with fail
  refine ⟨by simp, .inl ⟨_, _, rfl, run_takeDeferred HK.out, ?_⟩⟩
  exact ⟨_, results_tmp rfl _ _ _, _, rfl, owns_weak (owns_put HO.out HK.out rfl _) (Nat.le_succ _), HB.out.trans (belowK_b (w := w) (Nat.le_refl _) W W1.heap.size _ _ (by omega) HK.out rfl rfl)⟩
 case stop => exact fun _ _ _ _ q => q.elim
end

section
open Go.RowKit
abbrev valF (Bs : Nat) : Value := .func (.func 134) #[] #[.pointer (some ⟨Bs, 0, none⟩)]
def srtI (l : List Int) : List Int := l.mergeSort fun x y => decide (x ≤ y)
theorem scollect_any (Bs : Nat) (va : Value) (xs : List Int) (w : World) (hB : Bs < w.heap.size) (hc : w.cell? ⟨Bs, 0, none⟩ = some va) (hI : Ints w va xs) (hn : xs.length ≤ 100000) :
  Calls Tryz.prog 132 #[valF Bs] w fun e w' => ∃ v, e = .returned v ∧ IntO w' w.heap.size v xs ∧ Below w.heap.size w w' := by
 have CA := hid (sappend_any Bs va xs w hB hc hI hn)
 clear hB hc hI hn
 go_enter Tryz.func132, Tryz.ntmps132
 go_wp2_with fail
 refine CA.out.mono ?_
 rintro e w1 ⟨v, rfl, hO, hb⟩
 have HO := hid hO
 clear CA hO
 go_wp2_with fail
 go_ret
 exact ⟨_, rfl, HO.out, hb⟩
theorem ssorted_any (Bs : Nat) (va : Value) (xs : List Int) (w : World) (hB : Bs < w.heap.size) (hc : w.cell? ⟨Bs, 0, none⟩ = some va) (hI : Ints w va xs) (hn : xs.length ≤ 100000) :
  Calls Tryz.prog 88 #[valF Bs] w fun e w' => ∃ v, e = .returned v ∧ IntO w' w.heap.size v (srtI xs) ∧ Below w.heap.size w w' := by
 have CA := hid (scollect_any Bs va xs w hB hc hI hn)
 clear hB hc hI
 go_enter Tryz.func88, Tryz.ntmps88
 go_wp2_with fail
 refine CA.out.mono ?_
 rintro e w1 ⟨v, rfl, hO, hb⟩
 have CS := hid (isort_own w.heap.size v xs w1 hO (by omega))
 have HL := hid (fun b e => (World.ownsRow.lt hO b e).1)
 clear CA hO
 go_wp2_with fail
 refine CS.out.mono ?_
 rintro e w2 ⟨rfl, hO2, hg⟩
 have hb2 := hb.grown hg hb.size (fun j e => HL.out j e)
 have HO : Hid (IntO w2 w.heap.size v (srtI xs)) := hid (by
  unfold IntO srtI
  rw [List.length_mergeSort]
  exact hO2)
 clear CS hO2 hg hb
 go_wp2_with fail
 go_ret
 exact ⟨_, rfl, HO.out, hb2⟩
def wholeP (xs : List Int) (n : Nat) : Prop := xs = [] ∨ (xs.length = n ∧ ∀ k (hk : k < (srtI xs).length), (srtI xs)[k] = (k : Int))
instance (xs : List Int) (n : Nat) : Decidable (wholeP xs n) := by unfold wholeP; infer_instance
theorem rwhole_any (va : Value) (xs : List Int) (n : Nat) (w : World) (hI : Ints w va xs) (hn : xs.length ≤ 100000) :
  Calls Tryz.prog 40 #[va, .int .i64 (n : Int)] w fun e w' => e = .returned (.bool (decide (wholeP xs n))) ∧ Below w.heap.size w w' := by
 obtain ⟨ao, cap, rfl, hal⟩ := hI.form
 by_cases h0 : xs.length = 0
 ·have HV : Hid (true = decide (wholeP xs n)) := hid (by rw [decide_eq_true (.inl (List.eq_nil_of_length_eq_zero h0))])
  have hq : ((xs.length : Int) == 0) = true := by rw [h0]; rfl
  clear h0
  go_enter Tryz.func40, Tryz.ntmps40
  go_wp2_with fail
  go_ret
  exact ⟨ret_b HV.out, Below.refl _ _⟩
 have hne : xs ≠ [] := fun e => h0 (by rw [e]; rfl)
 have hq : ((xs.length : Int) == 0) = false := by simpa using h0
 by_cases h1 : xs.length = n
 ·have hq1 : ((xs.length : Int) != (n : Int)) = false := by simp; omega
  have HV : Hid (decide (∀ k (hk : k < (srtI xs).length), (srtI xs)[k] = (k : Int)) = decide (wholeP xs n)) := hid (by
   rw [Bool.eq_iff_iff]
   simp only [decide_eq_true_eq]
   unfold wholeP
   exact ⟨fun q => .inr ⟨h1, q⟩, fun q => (q.resolve_left hne).2⟩)
  have hsl : (srtI xs).length ≤ 100000 := by unfold srtI; rw [List.length_mergeSort]; exact hn
  have CV := hid (svalues_any ao xs.length cap w)
  have hbx := box_below w (.cells #[.slice ao xs.length cap] 24)
  have hc : (w.alloc (.cells #[.slice ao xs.length cap] 24)).cell? ⟨w.heap.size, 0, none⟩ = some (.slice ao xs.length cap) := (Boxed.new w 24 _).cell
  have CS := hid (ssorted_any w.heap.size _ xs _ (by simp) hc (hI.below hbx) hn)
  generalize srtI xs = S at *
  clear h0 hne hI hc h1
  go_enter Tryz.func40, Tryz.ntmps40
  go_wp2_with fail
  refine CV.out.mono ?_
  rintro e w1 ⟨rfl, rfl⟩
  clear CV
  go_wp2_with fail
  refine CS.out.mono ?_
  rintro e w2 ⟨v, rfl, hO, hb⟩
  have hb2 := hbx.trans (hb.mono hbx.size)
  have HI := hid hO.ints
  obtain ⟨so, sc, rfl, _⟩ := HI.out.form
  clear CS hO hb hbx
  go_wp2_with fail
  go_loopw [18] (fun i wr => ∃ k : Nat, k ≤ S.length ∧ i = .int .i64 (k : Int) ∧ Hid (∀ j (hj : j < S.length), j < k → S[j] = (j : Int)) ∧ wr = w2) (fun i _ => S.length - (intOf i).toNat)
  case atStart => exact ⟨0, by omega, rfl, hid (fun j _ h => absurd h (Nat.not_lt_zero _)), rfl⟩
  case round =>
   obtain ⟨k, hk, rfl, HN, rfl⟩ := hrel
   by_cases hlt : k < S.length
   ·have hki : (k : Int) < (S.length : Int) := by omega
    obtain ⟨g, o, hg, hcx⟩ := HI.out.at hlt
    cases hg
    have HY : Hid (S[k] = (k : Int) → ∀ j (hj : j < S.length), j < k + 1 → S[j] = (j : Int)) := hid (fun e j hj q => by
     rcases Nat.lt_or_ge j k with z | z
     ·exact HN.out j hj z
     ·obtain rfl : j = k := by omega
      exact e)
    have HF : Hid (S[k] ≠ (k : Int) → false = decide (∀ k (hk : k < S.length), S[k] = (k : Int))) := hid (fun e => by rw [decide_eq_false (fun q => e (q k hlt))])
    generalize S[k] = x at *
    by_cases hx : x = (k : Int)
    ·have HN2 := hid (HY.out hx)
     have hxq : (x != (k : Int)) = false := by simpa using hx
     clear HY HF HN hx
     go_wp2_with fail
     go_roundw
     case rel => exact ⟨k + 1, by omega, by go_num, HN2, trivial⟩
     case measure => simp [intOf]; omega
    ·have HF2 := hid (HF.out hx)
     have hxq : (x != (k : Int)) = true := by simpa using hx
     clear HY HF HN hx
     go_wp2_with fail
     go_ret
     exact ⟨ret_b (HF2.out.trans HV.out), hb2⟩
   ·obtain rfl : k = S.length := by omega
    have hki : ¬ (S.length : Int) < (S.length : Int) := by omega
    have HT : Hid (true = decide (∀ k (hk : k < S.length), S[k] = (k : Int))) := hid (by rw [decide_eq_true (fun k hk => HN.out k hk hk)])
    clear HN
    go_wp2_with fail
    go_ret
    exact ⟨ret_b (HT.out.trans HV.out), hb2⟩
 ·have hq1 : ((xs.length : Int) != (n : Int)) = true := by simp; omega
  have HV : Hid (false = decide (wholeP xs n)) := hid (by
   rw [decide_eq_false]
   rintro (q | q)
   ·exact hne q
   ·exact h1 q.1)
  clear h0 hne hI h1
  go_enter Tryz.func40, Tryz.ntmps40
  go_wp2_with fail
  go_ret
  exact ⟨ret_b HV.out, Below.refl _ _⟩
def risS (F : Int → Option Int) (S : List Int) : Prop := ∀ m (h : m + 1 < S.length), nmF F (S[m]'(Nat.lt_of_succ_lt h)) < nmF F S[m + 1]
instance (F : Int → Option Int) (S : List Int) : Decidable (risS F S) := decidable_of_iff (∀ m, m < S.length - 1 → ∀ h : m + 1 < S.length, nmF F (S[m]'(Nat.lt_of_succ_lt h)) < nmF F S[m + 1]) ⟨fun q m h => q m (by omega) h, fun q m _ h => q m h⟩
def risP (F : Int → Option Int) (L : List Int) : Prop := risS F (srtI L)
instance (F : Int → Option Int) (L : List Int) : Decidable (risP F L) := by unfold risP; infer_instance
theorem rrising_any (v va : Value) (F : Int → Option Int) (L : List Int) (w : World) (hN : NmI w v F) (hI : Ints w va L) (hl : ∀ x ∈ L, InI x) (hn : L.length ≤ 100000) :
  Calls Tryz.prog 92 #[v, va] w fun e w' => e = .returned (.bool (decide (risP F L))) ∧ Below w.heap.size w w' := by
 obtain ⟨ao, cap, rfl, hal⟩ := hI.form
 have HV : Hid (risP F L ↔ risS F (srtI L)) := hid Iff.rfl
 have HSI : Hid (∀ x ∈ srtI L, InI x) := hid (fun x hx => hl x ((List.mergeSort_perm _ _).mem_iff.1 hx))
 have hsl : (srtI L).length ≤ 100000 := by unfold srtI; rw [List.length_mergeSort]; exact hn
 have CV := hid (svalues_any ao L.length cap w)
 have hbx := box_below w (.cells #[.slice ao L.length cap] 24)
 have hc : (w.alloc (.cells #[.slice ao L.length cap] 24)).cell? ⟨w.heap.size, 0, none⟩ = some (.slice ao L.length cap) := (Boxed.new w 24 _).cell
 have CS := hid (ssorted_any w.heap.size _ L _ (by simp) hc (hI.below hbx) hn)
 have CN := hid (fun x wx (hx : Below w.heap.size w wx) (hi : InI x) => rname_any v F x wx (hN.below hx) hi)
 generalize srtI L = S at *
 clear hI hc hN hl
 go_enter Tryz.func92, Tryz.ntmps92
 go_wp2_with fail
 refine CV.out.mono ?_
 rintro e w1 ⟨rfl, rfl⟩
 clear CV
 go_wp2_with fail
 refine CS.out.mono ?_
 rintro e w2 ⟨v2, rfl, hO, hb⟩
 have hb2 := hid (hbx.trans (hb.mono hbx.size))
 have HI := hid hO.ints
 obtain ⟨so, sc, rfl, _⟩ := HI.out.form
 clear CS hO hb hbx
 go_wp2_with fail
 go_loopw [6] (fun i wr => ∃ k : Nat, 1 ≤ k ∧ (k ≤ S.length ∨ k = 1) ∧ i = .int .i64 (k : Int) ∧ Hid (∀ j (hj : j + 1 < S.length), j + 1 < k → nmF F (S[j]'(Nat.lt_of_succ_lt hj)) < nmF F S[j + 1]) ∧ Hid (Below w2.heap.size w2 wr)) (fun i _ => S.length - (intOf i).toNat)
 case atStart => exact ⟨1, Nat.le_refl _, .inr rfl, rfl, hid (fun j _ h2 => by omega), hid (Below.refl _ _)⟩
 case round =>
  obtain ⟨k, hk1, hk2, rfl, HN, HB⟩ := hrel
  by_cases hlt : k < S.length
  ·obtain ⟨m, rfl⟩ : ∃ m, k = m + 1 := ⟨k - 1, by omega⟩
   have hki : (m : Int) + 1 < (S.length : Int) := by omega
   have hkm : (m : Int) < (S.length : Int) := by omega
   have hwr : IntKind.i64.wrap (m : Int) = (m : Int) := by rw [IntKind.wrap_i64]; omega
   have hm0 : decide ((m : Int) < 0) = false := decide_eq_false (by omega)
   have hm1 : decide ((m : Int) + 1 < 0) = false := decide_eq_false (by omega)
   have hm2 : decide ((S.length : Int) ≤ (m : Int) + 1) = false := decide_eq_false (by omega)
   have hp0 : (0 : Int) ≤ (m : Int) + 1 := by omega
   have hp2 : ((m : Int) + 1).toNat = m + 1 := by omega
   have HI2 := HI.out.below HB.out
   obtain ⟨g, o, hg, hc1⟩ := HI2.at (k := m) (by omega)
   cases hg
   obtain ⟨g', o', hg', hc2⟩ := HI2.at hlt
   cases hg'
   have hi1 := HSI.out _ (List.getElem_mem (show m < S.length by omega))
   have hi2 := HSI.out _ (List.getElem_mem hlt)
   have HY : Hid (nmF F (S[m]'(Nat.lt_of_succ_lt hlt)) < nmF F S[m + 1] → ∀ j (hj : j + 1 < S.length), j + 1 < m + 1 + 1 → nmF F (S[j]'(Nat.lt_of_succ_lt hj)) < nmF F S[j + 1]) := hid (fun e j hj q2 => by
    rcases Nat.lt_or_ge j m with z | z
    ·exact HN.out j hj (by omega)
    ·obtain rfl : j = m := by omega
     exact e)
   have HF : Hid (¬ nmF F (S[m]'(Nat.lt_of_succ_lt hlt)) < nmF F S[m + 1] → false = decide (risP F L)) := hid (fun e => by rw [decide_eq_false (fun q => e ((HV.out.1 q) m hlt))])
   have CNQ := hid (fun x n (hi : InI x) => (CN.out x (wr.drewN n) (below_then hb2.out (below_drewN HB.out n)) hi).mono fun _ _ h => And.intro h.1 h.2.symm)
   generalize S[m + 1] = y at *
   generalize S[m] = x at *
   clear HI2 HN
   by_cases hlt2 : nmF F x < nmF F y
   ·have HN2 := hid (HY.out hlt2)
    have hd : decide (nmF F y ≤ nmF F x) = false := decide_eq_false (by omega)
    clear HY HF hlt2
    go_wp2_with fail
    go_quiet ((go_at_call 135; exact Calls.quiet_of_same (CNQ.out _ _ (by first | exact hi1 | exact hi2))))
    go_wp2_with fail
    go_roundw
    case rel => exact ⟨m + 1 + 1, by omega, .inl (by omega), by go_num, HN2, hid (below_drewN HB.out _)⟩
    case measure => simp [intOf]; omega
   ·have HF2 := hid (HF.out hlt2)
    have hd : decide (nmF F y ≤ nmF F x) = true := decide_eq_true (by omega)
    clear HY HF hlt2
    go_wp2_with fail
    go_quiet ((go_at_call 135; exact Calls.quiet_of_same (CNQ.out _ _ (by first | exact hi1 | exact hi2))))
    have hbz := below_then hb2.out (below_drewN HB.out nq)
    go_wp2_with fail
    go_ret
    exact ⟨ret_b HF2.out, hbz⟩
  ·have hki : ¬ (k : Int) < (S.length : Int) := by omega
   have HT : Hid (true = decide (risP F L)) := hid (by rw [decide_eq_true (HV.out.2 (fun j hj => HN.out j hj (by omega)))])
   have hbz := below_then hb2.out HB.out
   clear HN HV
   go_wp2_with fail
   go_ret
   exact ⟨ret_b HT.out, hbz⟩
end

section
open Go.RowKit
theorem NmI.form {w : World} {v : Value} {F : Int → Option Int} (h : NmI w v F) : ∃ m, v = .map m := by
 rcases h with ⟨rfl, _⟩ | ⟨b, n, c, rfl, _⟩ <;> exact ⟨_, rfl⟩
def InF (F : Int → Option Int) : Prop := ∀ x, InI x → InI (nmF F x)
structure NmA (w : World) (vK vS vV vT : Value) (FK FS FV FT : Int → Option Int) : Prop where
 k : NmI w vK FK
 s : NmI w vS FS
 v : NmI w vV FV
 t : NmI w vT FT
theorem NmA.below {w w' : World} {vK vS vV vT : Value} {FK FS FV FT : Int → Option Int} (h : NmA w vK vS vV vT FK FS FV FT) (hb : Below w.heap.size w w') : NmA w' vK vS vV vT FK FS FV FT := ⟨h.k.below hb, h.s.below hb, h.v.below hb, h.t.below hb⟩
def keepP (FK FS FV FT : Int → Option Int) (Lk Ls Lv Lt : List Int) : Prop := apartP FK Lk ∧ apartP FS Ls ∧ apartP FV Lv ∧ risP FT Lt
instance (FK FS FV FT : Int → Option Int) (Lk Ls Lv Lt : List Int) : Decidable (keepP FK FS FV FT Lk Ls Lv Lt) := by unfold keepP; infer_instance
theorem rnkeeps_any (vK vS vV vT vO pk ps pv pt : Value) (FK FS FV FT : Int → Option Int) (Lk Ls Lv Lt : List Int) (w : World) (hN : NmA w vK vS vV vT FK FS FV FT) (hO : ∃ a n c, vO = .slice a n c)
  (hk : Ints w pk Lk) (hs : Ints w ps Ls) (hv : Ints w pv Lv) (ht : Ints w pt Lt) (ik : ∀ x ∈ Lk, InI x) (is : ∀ x ∈ Ls, InI x) (iv : ∀ x ∈ Lv, InI x) (it : ∀ x ∈ Lt, InI x) (fk : InF FK) (fs : InF FS) (fv : InF FV)
  (nk : Lk.length ≤ 100000) (ns : Ls.length ≤ 100000) (nv : Lv.length ≤ 100000) (nt : Lt.length ≤ 100000) :
  Calls Tryz.prog 42 #[.agg #[vK, vS, vV, vT, vO], .agg #[pk, ps, pv, pt]] w fun e w' => e = .returned (.bool (decide (keepP FK FS FV FT Lk Ls Lv Lt))) ∧ Below w.heap.size w w' := by
 have CK := hid (fun wx (hx : Below w.heap.size w wx) => rapart_any vK pk FK Lk wx (hN.k.below hx) (hk.below hx) (fun x hx => ⟨ik x hx, fk x (ik x hx)⟩) nk)
 have CS := hid (fun wx (hx : Below w.heap.size w wx) => rapart_any vS ps FS Ls wx (hN.s.below hx) (hs.below hx) (fun x hx => ⟨is x hx, fs x (is x hx)⟩) ns)
 have CV := hid (fun wx (hx : Below w.heap.size w wx) => rapart_any vV pv FV Lv wx (hN.v.below hx) (hv.below hx) (fun x hx => ⟨iv x hx, fv x (iv x hx)⟩) nv)
 have CT := hid (fun wx (hx : Below w.heap.size w wx) => rrising_any vT pt FT Lt wx (hN.t.below hx) (ht.below hx) it nt)
 obtain ⟨mK, rfl⟩ := hN.k.form
 obtain ⟨mS, rfl⟩ := hN.s.form
 obtain ⟨mV, rfl⟩ := hN.v.form
 obtain ⟨mT, rfl⟩ := hN.t.form
 obtain ⟨oa, on, oc, rfl⟩ := hO
 obtain ⟨ka, kc, rfl, _⟩ := hk.form
 obtain ⟨sa, sc, rfl, _⟩ := hs.form
 obtain ⟨va, vc, rfl, _⟩ := hv.form
 obtain ⟨ta, tc, rfl, _⟩ := ht.form
 have HQ : Hid (decide (keepP FK FS FV FT Lk Ls Lv Lt) = (decide (apartP FK Lk) && (decide (apartP FS Ls) && (decide (apartP FV Lv) && decide (risP FT Lt))))) := hid (by
  rw [Bool.eq_iff_iff]
  simp only [Bool.and_eq_true, decide_eq_true_eq]
  exact Iff.rfl)
 rw [HQ.out]
 obtain ⟨q1, e1⟩ : ∃ q, decide (apartP FK Lk) = q := ⟨_, rfl⟩
 obtain ⟨q2, e2⟩ : ∃ q, decide (apartP FS Ls) = q := ⟨_, rfl⟩
 obtain ⟨q3, e3⟩ : ∃ q, decide (apartP FV Lv) = q := ⟨_, rfl⟩
 obtain ⟨q4, e4⟩ : ∃ q, decide (risP FT Lt) = q := ⟨_, rfl⟩
 rw [e1, e2, e3, e4]
 rw [e1] at CK
 rw [e2] at CS
 rw [e3] at CV
 rw [e4] at CT
 clear HQ e1 e2 e3 e4 hN hk hs hv ht ik is iv it fk fs fv
 have hb1 := box_below w (.cells #[.map mK, .map mS, .map mV, .map mT, .slice oa on oc] 34)
 have hx1 := BoxN.new w 34 #[.map mK, .map mS, .map mV, .map mT, .slice oa on oc]
 have hs1 : (w.alloc (.cells #[.map mK, .map mS, .map mV, .map mT, .slice oa on oc] 34)).heap.size = w.heap.size + 1 := by simp
 have hx2 := BoxN.new (w.alloc (.cells #[.map mK, .map mS, .map mV, .map mT, .slice oa on oc] 34)) 89 #[.slice ka Lk.length kc, .slice sa Ls.length sc, .slice va Lv.length vc, .slice ta Lt.length tc]
 rw [hs1] at hx2
 have hb2 := hb1.alloc hb1.size (.cells #[.slice ka Lk.length kc, .slice sa Ls.length sc, .slice va Lv.length vc, .slice ta Lt.length tc] 89)
 have hx1 := hx1.below (box_below _ (.cells #[.slice ka Lk.length kc, .slice sa Ls.length sc, .slice va Lv.length vc, .slice ta Lt.length tc] 89))
 clear hs1
 go_enter Tryz.func42, Tryz.ntmps42
 go_upto_region 1 with fail
 generalize (w.alloc (.cells #[.map mK, .map mS, .map mV, .map mT, .slice oa on oc] 34)).alloc (.cells #[.slice ka Lk.length kc, .slice sa Ls.length sc, .slice va Lv.length vc, .slice ta Lt.length tc] 89) = w2 at *
 have c0 := hx1.cell (i := 0) rfl
 have d0 := hx2.cell (i := 0) rfl
 have HX1 := hid hx1
 have HX2 := hid hx2
 have CK1 := hid (CK.out _ hb2)
 clear hb1 hx1 hx2 CK
 go_wp2_with fail
 refine CK1.out.mono ?_
 rintro e w3 ⟨rfl, h3⟩
 have hb3 := below_then hb2 h3
 cases q1 with
 | false =>
  go_wp2_with fail
  go_ret
  exact ⟨rfl, hb3⟩
 | true =>
 have HX1 := hid (HX1.out.below h3)
 have HX2 := hid (HX2.out.below h3)
 have c1 := HX1.out.cell (i := 1) rfl
 have d1 := HX2.out.cell (i := 1) rfl
 have CS1 := hid (CS.out _ hb3)
 clear c0 d0 CK1 CS h3 hb2
 go_wp2_with fail
 refine CS1.out.mono ?_
 rintro e w4 ⟨rfl, h4⟩
 have hb4 := below_then hb3 h4
 cases q2 with
 | false =>
  go_wp2_with fail
  go_ret
  exact ⟨rfl, hb4⟩
 | true =>
 have HX1 := hid (HX1.out.below h4)
 have HX2 := hid (HX2.out.below h4)
 have c2 := HX1.out.cell (i := 2) rfl
 have d2 := HX2.out.cell (i := 2) rfl
 have CV1 := hid (CV.out _ hb4)
 clear c1 d1 CS1 CV h4 hb3
 go_wp2_with fail
 refine CV1.out.mono ?_
 rintro e w5 ⟨rfl, h5⟩
 have hb5 := below_then hb4 h5
 cases q3 with
 | false =>
  go_wp2_with fail
  go_ret
  exact ⟨rfl, hb5⟩
 | true =>
 have HX1 := hid (HX1.out.below h5)
 have HX2 := hid (HX2.out.below h5)
 have c3 := HX1.out.cell (i := 3) rfl
 have d3 := HX2.out.cell (i := 3) rfl
 have CT1 := hid (CT.out _ hb5)
 clear c2 d2 CV1 CT h5 hb4
 go_wp2_with fail
 refine CT1.out.mono ?_
 rintro e w6 ⟨rfl, h6⟩
 have hb6 := below_then hb5 h6
 go_wp2_with fail
 go_ret
 exact ⟨by simp, hb6⟩
end

section
open Go.RowKit
section
variable {h acc L : List TxnV}
end
theorem row4_newR (w : World) (x y z u : Value) (t : TypeId) : ∀ j v, [x, y, z, u][j]? = some v → (w.alloc (.cells #[x, y, z, u] t)).cell? ((⟨w.heap.size, 0, none⟩ : Addr).add j) = some v := by
 intro j v hj
 obtain ⟨c0, c1, c2, c3⟩ := txnBlock w x y z u t
 match j, hj with
 | 0, hu => simp at hu; subst hu; exact c0
 | 1, hu => simp at hu; subst hu; exact c1
 | 2, hu => simp at hu; subst hu; exact c2
 | 3, hu => simp at hu; subst hu; exact c3
 | j + 4, hu => simp at hu
end

section
open Go.RowKit
theorem Own.keep {w w' : World} {b : Nat} {v : Value} {l : List OpV} {row : Option Nat} (h : Own w b v l) (hg : w.grownBy w' row) (hne : v.ownBlock = none ∨ v.ownBlock ≠ row) : Own w' b v l := World.ownsRow.kept h hg hne
theorem infoTxnA {x y z u : Value} : (Tryz.prog.info? 83).map (·.size) = some (#[x, y, z, u] : Array Value).size := (show (Tryz.prog.info? 83).map (·.size) = some 4 by kernel_rfl)
end

section
open Go.RowKit
def Ap (v u : Value) : Prop := ∀ g, v.ownBlock = some g → u.ownBlock ≠ some g
theorem Ap.symm {v u : Value} (h : Ap v u) : Ap u v := fun g e q => h g q e
theorem Ap.no {v u : Value} (h : Ap v u) : u.ownBlock = none ∨ u.ownBlock ≠ v.ownBlock := by
 cases e : u.ownBlock with
 | none => exact .inl rfl
 | some g => exact .inr fun q => h g q.symm e
theorem Ap.new {w : World} {b n g cap : Nat} {v u : Value} {e : TypeId} {s m : Nat} {xs : List Value} (h : Ap v u) (hu : w.ownsRow b e s u m xs) (hl : v.ownBlock = some g ∨ g = w.heap.size) : Ap (.slice (some ⟨g, 0, none⟩) n cap) u := fun g' e1 e2 => by
 simp [Value.ownBlock] at e1
 subst e1
 rcases hl with q | q
 ·exact h _ q e2
 ·have := (World.ownsRow.lt hu _ e2).2; omega
structure R4 (w : World) (b : Nat) (v0 v1 v2 v3 : Value) (L0 L1 L2 L3 : List Int) : Prop where
 o0 : IntO w b v0 L0
 o1 : IntO w b v1 L1
 o2 : IntO w b v2 L2
 o3 : IntO w b v3 L3
 a01 : Ap v0 v1
 a02 : Ap v0 v2
 a03 : Ap v0 v3
 a12 : Ap v1 v2
 a13 : Ap v1 v3
 a23 : Ap v2 v3
section
variable {w w' : World} {b : Nat} {v0 v1 v2 v3 : Value} {L0 L1 L2 L3 : List Int}
theorem R4.below (h : R4 w b v0 v1 v2 v3 L0 L1 L2 L3) (hb : Below w.heap.size w w') : R4 w' b v0 v1 v2 v3 L0 L1 L2 L3 := ⟨h.o0.below hb, h.o1.below hb, h.o2.below hb, h.o3.below hb, h.a01, h.a02, h.a03, h.a12, h.a13, h.a23⟩
theorem R4.box {p : Nat} {t : TypeId} {cs : Array Value} (h : R4 w b v0 v1 v2 v3 L0 L1 L2 L3) (k : BoxN w p t cs) (hne : 3 ≠ t) (hg : w.grownBy w' (some p)) : R4 w' b v0 v1 v2 v3 L0 L1 L2 L3 := ⟨h.o0.box k hne hg, h.o1.box k hne hg, h.o2.box k hne hg, h.o3.box k hne hg, h.a01, h.a02, h.a03, h.a12, h.a13, h.a23⟩
theorem IntO.far {v u : Value} {L : List Int} (h : IntO w b u L) (hg : w.grownBy w' v.ownBlock) (ha : Ap v u) : IntO w' b u L := World.ownsRow.kept h hg ha.no
theorem R4.app0 {g n cap : Nat} {M : List Int} (h : R4 w b v0 v1 v2 v3 L0 L1 L2 L3) (ho : IntO w' b (.slice (some ⟨g, 0, none⟩) n cap) M) (hg : w.grownBy w' v0.ownBlock) (hl : v0.ownBlock = some g ∨ g = w.heap.size) : R4 w' b (.slice (some ⟨g, 0, none⟩) n cap) v1 v2 v3 M L1 L2 L3 :=
 ⟨ho, h.o1.far hg h.a01, h.o2.far hg h.a02, h.o3.far hg h.a03, h.a01.new h.o1 hl, h.a02.new h.o2 hl, h.a03.new h.o3 hl, h.a12, h.a13, h.a23⟩
theorem R4.app1 {g n cap : Nat} {M : List Int} (h : R4 w b v0 v1 v2 v3 L0 L1 L2 L3) (ho : IntO w' b (.slice (some ⟨g, 0, none⟩) n cap) M) (hg : w.grownBy w' v1.ownBlock) (hl : v1.ownBlock = some g ∨ g = w.heap.size) : R4 w' b v0 (.slice (some ⟨g, 0, none⟩) n cap) v2 v3 L0 M L2 L3 :=
 ⟨h.o0.far hg h.a01.symm, ho, h.o2.far hg h.a12, h.o3.far hg h.a13, (h.a01.symm.new h.o0 hl).symm, h.a02, h.a03, h.a12.new h.o2 hl, h.a13.new h.o3 hl, h.a23⟩
theorem R4.app2 {g n cap : Nat} {M : List Int} (h : R4 w b v0 v1 v2 v3 L0 L1 L2 L3) (ho : IntO w' b (.slice (some ⟨g, 0, none⟩) n cap) M) (hg : w.grownBy w' v2.ownBlock) (hl : v2.ownBlock = some g ∨ g = w.heap.size) : R4 w' b v0 v1 (.slice (some ⟨g, 0, none⟩) n cap) v3 L0 L1 M L3 :=
 ⟨h.o0.far hg h.a02.symm, h.o1.far hg h.a12.symm, ho, h.o3.far hg h.a23, h.a01, (h.a02.symm.new h.o0 hl).symm, h.a03, (h.a12.symm.new h.o1 hl).symm, h.a13, h.a23.new h.o3 hl⟩
theorem R4.app3 {g n cap : Nat} {M : List Int} (h : R4 w b v0 v1 v2 v3 L0 L1 L2 L3) (ho : IntO w' b (.slice (some ⟨g, 0, none⟩) n cap) M) (hg : w.grownBy w' v3.ownBlock) (hl : v3.ownBlock = some g ∨ g = w.heap.size) : R4 w' b v0 v1 v2 (.slice (some ⟨g, 0, none⟩) n cap) L0 L1 L2 M :=
 ⟨h.o0.far hg h.a03.symm, h.o1.far hg h.a13.symm, h.o2.far hg h.a23.symm, ho, h.a01, h.a02, (h.a03.symm.new h.o0 hl).symm, h.a12, (h.a13.symm.new h.o1 hl).symm, (h.a23.symm.new h.o2 hl).symm⟩
theorem R4.nil (w : World) (b : Nat) : R4 w b (.slice none 0 0) (.slice none 0 0) (.slice none 0 0) (.slice none 0 0) [] [] [] [] :=
 ⟨IntO.nil _ _, IntO.nil _ _, IntO.nil _ _, IntO.nil _ _, fun _ e => (by cases e), fun _ e => (by cases e), fun _ e => (by cases e), fun _ e => (by cases e), fun _ e => (by cases e), fun _ e => (by cases e)⟩
end
theorem kTo_lenR {s : List TxnV} {i k : Nat} (hi : i < s.length) (hk : k ≤ (opsAt s i).length) : (kTo s i k).length ≤ opsN s ∧ (vTo s i k).length ≤ opsN s := by
 have e : ∀ f : OpV → Int, ((s.map txE).take i |>.flatMap fun e => e.2.2.2.map f).length + ((opsAt s i).take k).length ≤ opsN s := fun f => by
  have h1 : ((s.map txE).take i |>.flatMap fun e => e.2.2.2.map f).length = opsN (s.take i) := by
   unfold opsN
   rw [← List.map_take, List.flatMap_map, List.length_flatMap]
   congr 1
   exact List.map_congr_left fun t _ => by simp [txE]
  rw [h1, List.length_take, Nat.min_eq_left hk]
  have h2 := opsN_take s i hi
  have h3 := opsN_le s (i + 1)
  rw [opsAt_eq hi] at hk
  omega
 refine ⟨?_, ?_⟩
 ·unfold kTo keyE; rw [List.length_append, List.length_map]; exact e (·.key)
 ·unfold vTo valA; rw [List.length_append, List.length_map]; exact e (·.val)
theorem kTo_all (s : List TxnV) : kTo s s.length 0 = keyE (s.map txE) ∧ vTo s s.length 0 = valA (s.map txE) ∧ sTo s s.length = sesE (s.map txE) := by
 refine ⟨?_, ?_, ?_⟩
 ·unfold kTo; rw [List.take_of_length_le (by simp)]; simp
 ·unfold vTo; rw [List.take_of_length_le (by simp)]; simp
 ·unfold sTo; rw [List.take_of_length_le (by unfold sesE; simp)]
theorem lit_twoR (w : World) (x y : Value) (t : TypeId) : ∀ j u, [x, y][j]? = some u → (w.alloc (.cells #[x, y] t)).cell? ((⟨w.heap.size, 0, none⟩ : Addr).add j) = some u := fun j u hu => by
 exact World.news_of_block (World.alloc_heap_new w _) j u hu
end

end Go.Proofs.YtnhkjehfmbfmmaaGreatDoor
