/- Walks and plain facts that the proof of the statement WholeSessions uses, joined: IsoA IsoB LngA LngB HisT CnoA CnoB SerA SerB VecA VecB VecC SesA VecD TblM TblB TblC VecE VecF VecG VecH LevD TblD TblE TblF TblG TblJ TblH TblK VecJ VecK HisU HisV HisW. Conditions: each theorem's own. -/
import Derived.BigQuiet
import Derived.Deep.MidRow
import Derived.ChangeKeysEq
import Derived.Outline
import Derived.Laws.BitsAllLaws
import Derived.Sort.Row
import Derived.Test.YtadihdkpoeibhaaGreatDoorPWholeSessions0
import Derived.Test.YtadihdkpoeibhaaGreatDoorPWholeSessions1
import Derived.Test.YtadihdkpoeibhaaGreatDoorPWholeSessions2
import Derived.Test.YtadihdkpoeibhaaGreatDoorPWholeSessions3
import Derived.Test.YtadihdkpoeibhaaGreatDoorPWholeSessions4
import Derived.Test.YtadihdkpoeibhaaGreatDoorPWholeSessions5
import Derived.Test.YtadihdkpoeibhaaGreatDoorPWholeSessions6
namespace Go.Proofs.YtadihdkpoeibhaaGreatDoor
set_option maxHeartbeats 32000000
set_option maxRecDepth 100000
open Lib (hid)
section
open Go.RowKit
structure IsoT (n : Nat) (π ρ : Nat → Nat) : Prop where
 lt : ∀ j, j < n → π j < n
 tl : ∀ j, j < n → ρ j < n
 pr : ∀ j, j < n → π (ρ j) = j
 rp : ∀ j, j < n → ρ (π j) = j
def IsoS (n : Nat) (π : Nat → Nat) (s t : Nat) : Prop := (∀ j, s.testBit j = true → j < n) ∧ (∀ j, t.testBit j = true → j < n) ∧ ∀ j, j < n → s.testBit j = t.testBit (π j)
section
variable {n : Nat} {π ρ : Nat → Nat}
theorem IsoT.inj (q : IsoT n π ρ) {i j : Nat} (hi : i < n) (hj : j < n) (e : π i = π j) : i = j := by rw [← q.rp i hi, ← q.rp j hj, e]
theorem IsoT.symm (q : IsoT n π ρ) : IsoT n ρ π := ⟨q.tl, q.lt, q.rp, q.pr⟩
theorem IsoS.zero : IsoS n π 0 0 := ⟨fun j h => by simp at h, fun j h => by simp at h, fun j _ => by simp⟩
theorem IsoS.or {s t s' t' : Nat} (a : IsoS n π s t) (b : IsoS n π s' t') : IsoS n π (s ||| s') (t ||| t') := by
 refine ⟨fun j h => ?_, fun j h => ?_, fun j hj => ?_⟩
 ·rw [Nat.testBit_or, Bool.or_eq_true] at h; exact h.elim (a.1 j) (b.1 j)
 ·rw [Nat.testBit_or, Bool.or_eq_true] at h; exact h.elim (a.2.1 j) (b.2.1 j)
 ·rw [Nat.testBit_or, Nat.testBit_or, a.2.2 j hj, b.2.2 j hj]
theorem IsoS.and {s t s' t' : Nat} (a : IsoS n π s t) (b : IsoS n π s' t') : IsoS n π (s &&& s') (t &&& t') := by
 refine ⟨fun j h => ?_, fun j h => ?_, fun j hj => ?_⟩
 ·rw [Nat.testBit_and, Bool.and_eq_true] at h; exact a.1 j h.1
 ·rw [Nat.testBit_and, Bool.and_eq_true] at h; exact a.2.1 j h.1
 ·rw [Nat.testBit_and, Nat.testBit_and, a.2.2 j hj, b.2.2 j hj]
theorem IsoS.sub {s t s' t' : Nat} (q : IsoT n π ρ) (a : IsoS n π s t) (b : IsoS n π s' t') : (∀ k, s.testBit k = true → s'.testBit k = true) ↔ (∀ k, t.testBit k = true → t'.testBit k = true) := by
 constructor
 ·intro h k hk
  have hkn := a.2.1 k hk
  have := h (ρ k) (by rw [a.2.2 _ (q.tl k hkn), q.pr k hkn]; exact hk)
  rw [b.2.2 _ (q.tl k hkn), q.pr k hkn] at this; exact this
 ·intro h k hk
  have hkn := a.1 k hk
  rw [b.2.2 k hkn]
  exact h (π k) (by rw [← a.2.2 k hkn]; exact hk)
theorem IsoS.none {s t : Nat} (q : IsoT n π ρ) (a : IsoS n π s t) : s = 0 ↔ t = 0 := by
 have h := IsoS.sub q a (IsoS.zero (n := n) (π := π))
 have z : ∀ s : Nat, s = 0 ↔ ∀ k, s.testBit k = true → (0 : Nat).testBit k = true := fun s => by
  constructor
  ·rintro rfl k hk; exact hk
  ·intro hk
   apply Nat.eq_of_testBit_eq
   intro i
   cases e : s.testBit i with
   | false => simp
   | true => exact (hk i e).symm
 rw [z s, z t, h]
theorem IsoS.join {s t : Nat} {F G : Nat → Nat} (q : IsoT n π ρ) (hn : n ≤ 64) (a : IsoS n π s t) (hF : ∀ k, k < n → IsoS n π (F k) (G (π k))) : IsoS n π (joinN F s) (joinN G t) := by
 refine ⟨fun j h => ?_, fun j h => ?_, fun j hj => ?_⟩
 ·obtain ⟨k, _, h1, h2⟩ := joinN_iff.1 h
  exact (hF k (a.1 k h1)).1 j h2
 ·obtain ⟨k, _, h1, h2⟩ := joinN_iff.1 h
  have hk := a.2.1 k h1
  rw [← q.pr k hk] at h2
  exact (hF (ρ k) (q.tl k hk)).2.1 j h2
 ·rw [Bool.eq_iff_iff, joinN_iff, joinN_iff]
  constructor
  ·rintro ⟨k, _, h1, h2⟩
   have hk := a.1 k h1
   exact ⟨π k, by have := q.lt k hk; omega, by rw [← a.2.2 k hk]; exact h1, by rw [← (hF k hk).2.2 j hj]; exact h2⟩
  ·rintro ⟨k, _, h1, h2⟩
   have hk := a.2.1 k h1
   have hr := q.tl k hk
   refine ⟨ρ k, by omega, by rw [a.2.2 _ hr, q.pr k hk]; exact h1, ?_⟩
   rw [(hF (ρ k) hr).2.2 j hj, q.pr k hk]; exact h2
theorem IsoS.wld {C b pl rv b' pl' rv' : Nat} {sF aF sG aG : Nat → Nat} (q : IsoT n π ρ) (hn : n ≤ 64) (hb : IsoS n π b b') (hp : IsoS n π pl pl') (hr : IsoS n π rv rv') (hs : ∀ k, k < n → IsoS n π (sF k) (sG (π k))) (ha : ∀ k, k < n → IsoS n π (aF k) (aG (π k))) : IsoS n π (wld4 b pl rv C sF aF) (wld4 b' pl' rv' C sG aG) := by
 have h1 : IsoS n π (wld1 b pl C) (wld1 b' pl' C) := by
  unfold wld1; split
  ·exact hb.or hp
  ·exact hb
 have h2 : IsoS n π (wld2 b pl rv C) (wld2 b' pl' rv' C) := by
  unfold wld2; split
  ·exact h1.or (hr.and hp)
  ·exact h1
 have h3 : IsoS n π (wld3 b pl rv C sF) (wld3 b' pl' rv' C sG) := by
  unfold wld3; split
  ·exact h2.or (h2.join q hn hs)
  ·exact h2
 unfold wld4; split
 ·exact h3.or (h3.join q hn ha)
 ·exact h3
theorem IsoS.row (q : IsoT n π ρ) (hn : n ≤ 64) {r : List Nat} (hr : ∀ i ∈ r, i < n) : IsoS n π (plS r) (plS (r.map π)) := by
 have h1 : ∀ i ∈ r, i < 64 := fun i hi => by have := hr i hi; omega
 have h2 : ∀ i ∈ r.map π, i < 64 := fun i hi => by
  obtain ⟨k, hk, rfl⟩ := List.mem_map.1 hi
  have := q.lt k (hr k hk); omega
 refine ⟨fun j h => ?_, fun j h => ?_, fun j hj => ?_⟩
 ·rw [plS_bit j r h1, decide_eq_true_eq] at h; exact hr j h
 ·rw [plS_bit j _ h2, decide_eq_true_eq] at h
  obtain ⟨k, hk, rfl⟩ := List.mem_map.1 h
  exact q.lt k (hr k hk)
 ·rw [plS_bit j r h1, plS_bit _ _ h2, Bool.eq_iff_iff, decide_eq_true_eq, decide_eq_true_eq, List.mem_map]
  exact ⟨fun h => ⟨j, h, rfl⟩, fun ⟨k, hk, e⟩ => by rw [← q.inj (hr k hk) hj e]; exact hk⟩
theorem IsoS.ahead (q : IsoT n π ρ) (hn : n ≤ 64) : ∀ {r : List Nat}, (∀ i ∈ r, i < n) → ∀ k, k < n → IsoS n π (aheadL r k) (aheadL (r.map π) (π k))
 | [], _, _, _ => IsoS.zero
 | i :: r, hr, k, hk => by
  have hi := hr i (List.mem_cons_self ..)
  have hr' : ∀ a ∈ r, a < n := fun a ha => hr a (List.mem_cons_of_mem _ ha)
  rw [List.map_cons]
  unfold aheadL
  by_cases e : k = i
  ·rw [if_pos e, if_pos (by rw [e])]; exact IsoS.row q hn hr'
  ·rw [if_neg e, if_neg (fun e2 => e (q.inj hk hi e2))]
   exact IsoS.ahead q hn hr' k hk
theorem IsoS.put {s t : Nat} (q : IsoT n π ρ) (hn : n ≤ 64) (a : IsoS n π s t) {k : Nat} (hk : k < n) : IsoS n π (withS s (k : Int)) (withS t ((π k : Nat) : Int)) := by
 have hp := q.lt k hk
 have e : ∀ (s j m : Nat), m < 64 → ((withS s (m : Int)).testBit j = true ↔ s.testBit j = true ∨ m = j) := fun s j m hm => by
  rw [testBit_withS, Bool.or_eq_true, Bool.and_eq_true, decide_eq_true_eq, decide_eq_true_eq, Int.toNat_natCast]
  exact or_congr Iff.rfl ⟨fun h => h.2, fun h => ⟨⟨by omega, by omega⟩, h⟩⟩
 refine ⟨fun j h => ?_, fun j h => ?_, fun j hj => ?_⟩
 ·rw [e _ _ _ (by omega)] at h
  rcases h with h | rfl
  ·exact a.1 j h
  ·exact hk
 ·rw [e _ _ _ (by omega)] at h
  rcases h with h | rfl
  ·exact a.2.1 j h
  ·exact hp
 ·rw [Bool.eq_iff_iff, e _ _ _ (by omega), e _ _ _ (by omega), a.2.2 j hj]
  exact or_congr Iff.rfl ⟨fun h => by rw [h], fun h => q.inj hk hj h⟩
end
structure IsoH (h x : List TxnV) (C : Nat) (π ρ : Nat → Nat) : Prop where
 len : x.length = h.length
 turn : IsoT h.length π ρ
 base : ∀ j, j < h.length → IsoS h.length π (baseN x C j) (baseN h C (π j))
 riv : ∀ j, j < h.length → IsoS h.length π (rivN x j) (rivN h (π j))
 reads : ∀ (j : Nat) (aF aG : Nat → Nat) (s t : Nat), j < h.length → IsoS h.length π s t → (∀ k, k < h.length → IsoS h.length π (aF k) (aG (π k))) → readsP x aF s j = readsP h aG t (π j)
 snd : soundTo x x.length = soundTo h h.length
section
variable {h x : List TxnV} {C : Nat} {π ρ : Nat → Nat}
theorem IsoH.see (q : IsoH h x C π ρ) (hn : h.length ≤ 64) : ∀ {r : List Nat}, (∀ i ∈ r, i < h.length) → ∀ k, k < h.length → IsoS h.length π (plSee x C r k) (plSee h C (r.map π) (π k))
 | [], _, _, _ => IsoS.zero
 | i :: r, hr, k, hk => by
  have hi := hr i (List.mem_cons_self ..)
  have hr' : ∀ a ∈ r, a < h.length := fun a ha => hr a (List.mem_cons_of_mem _ ha)
  rw [List.map_cons]
  unfold plSee
  by_cases e : k = i
  ·rw [if_pos e, if_pos (by rw [e])]
   exact IsoS.wld q.turn hn (q.base i hi) (IsoS.row q.turn hn hr') (q.riv i hi) (fun k hk => q.see hn hr' k hk) (fun k hk => IsoS.ahead q.turn hn hr' k hk)
  ·rw [if_neg e, if_neg (fun e2 => e (q.turn.inj hk hi e2))]
   exact q.see hn hr' k hk
theorem IsoH.next (q : IsoH h x C π ρ) (hn : h.length ≤ 64) {r : List Nat} (hr : ∀ i ∈ r, i < h.length) {i : Nat} (hi : i < h.length) : IsoS h.length π (nextN x C r i) (nextN h C (r.map π) (π i)) :=
 IsoS.wld q.turn hn (q.base i hi) (IsoS.row q.turn hn hr) (q.riv i hi) (fun k hk => q.see hn hr k hk) (fun k hk => IsoS.ahead q.turn hn hr k hk)
theorem IsoH.try (q : IsoH h x C π ρ) (hn : h.length ≤ 64) {r : List Nat} (hr : ∀ i ∈ r, i < h.length) {i : Nat} (hi : i < h.length) : tryP x C r i = tryP h C (r.map π) (π i) := by
 unfold tryP
 have e1 : decide (i ∈ r) = decide (π i ∈ r.map π) := by
  rw [Bool.eq_iff_iff, decide_eq_true_eq, decide_eq_true_eq, List.mem_map]
  exact ⟨fun h => ⟨i, h, rfl⟩, fun ⟨k, hk, e⟩ => by rw [← q.turn.inj (hr k hk) hi e]; exact hk⟩
 have e2 : inB (baseN x C i) (plS r) = inB (baseN h C (π i)) (plS (r.map π)) := by
  rw [Bool.eq_iff_iff, inB_bits (baseN_set ..), inB_bits (baseN_set ..)]
  exact IsoS.sub q.turn (q.base i hi) (IsoS.row q.turn hn hr)
 rw [q.len, decide_eq_true hi, decide_eq_true (q.turn.lt i hi), e1, e2, q.reads i (aheadL r) (aheadL (r.map π)) _ _ hi (q.next hn hr hi) (fun k hk => IsoS.ahead q.turn hn hr k hk)]
theorem IsoH.all (q : IsoH h x C π ρ) (hn : h.length ≤ 64) : ∀ (l r : List Nat), (∀ i ∈ r, i < h.length) → (∀ i ∈ l, i < h.length) → allT x C r l = allT h C (r.map π) (l.map π)
 | [], r, _, _ => by rw [List.map_nil]; unfold allT; rfl
 | i :: l, r, hr, hl => by
  have hi := hl i (List.mem_cons_self ..)
  rw [List.map_cons]
  unfold allT
  rw [q.try hn hr hi, IsoH.all q hn l (i :: r) (fun a ha => (List.mem_cons.1 ha).elim (fun e => e ▸ hi) (hr a)) (fun a ha => hl a (List.mem_cons_of_mem _ ha)), List.map_cons]
end
theorem exts_has {many : Nat} {x : List Nat} (hnd : x.Nodup) (hlt : ∀ i ∈ x, i < many) : ∀ (k : Nat) (r : List Nat), r <+: x → x.length = r.length + k → x ∈ exts many k r
 | 0, r, hp, hl => by
  have : r = x := hp.eq_of_length (by omega)
  subst this
  unfold exts; exact List.mem_singleton.2 rfl
 | k + 1, r, hp, hl => by
  obtain ⟨t, rfl⟩ := hp
  cases t with
  | nil => simp at hl
  | cons a t =>
   unfold exts
   rw [List.mem_flatMap]
   refine ⟨a, List.mem_range.2 (hlt a (by simp)), ?_⟩
   have ha : a ∉ r := fun h => (List.nodup_append.1 hnd).2.2 a h a (by simp) rfl
   rw [if_neg ha]
   exact exts_has hnd hlt k (r ++ [a]) ⟨t, by simp⟩ (by simp at hl ⊢; omega)
theorem orders_has {n : Nat} {x : List Nat} (hp : x.Perm (List.range n)) : x ∈ ordersN n :=
 exts_has (hp.nodup_iff.2 List.nodup_range) (fun i hi => List.mem_range.1 (hp.mem_iff.1 hi)) n [] ⟨x, rfl⟩ (by rw [hp.length_eq]; simp)
theorem dec_ex {h : List TxnV} {lv : Int} (hc : checkI h = 0) : (decW h lv).2.2 = true ↔ ∃ r : List Nat, r.Perm (List.range h.length) ∧ keptL h lv r = true := by
 rw [decW_some hc, List.find?_isSome]
 exact ⟨fun ⟨r, h1, h2⟩ => ⟨r, orders_perm h1, h2⟩, fun ⟨r, h1, h2⟩ => ⟨r, orders_has h1, h2⟩⟩
theorem turn_perm {n : Nat} {π ρ : Nat → Nat} (q : IsoT n π ρ) {r : List Nat} (hp : r.Perm (List.range n)) : (r.map π).Perm (List.range n) := by
 have hnd := hp.nodup_iff.2 List.nodup_range
 have hlt : ∀ i ∈ r, i < n := fun i hi => List.mem_range.1 (hp.mem_iff.1 hi)
 refine perm_range ?_ ?_ (by rw [List.length_map, hp.length_eq]; simp)
 ·rw [List.nodup_iff_pairwise_ne, List.pairwise_map]
  exact (List.nodup_iff_pairwise_ne.1 hnd).imp_of_mem fun ha hb hne e => hne (q.inj (hlt _ ha) (hlt _ hb) e)
 ·intro i hi
  obtain ⟨k, hk, rfl⟩ := List.mem_map.1 hi
  exact q.lt k (hlt k hk)
theorem IsoH.kept {h x : List TxnV} {lv : Int} {π ρ : Nat → Nat} (q : IsoH h x (clI ((askN lv : Nat) : Int)) π ρ) (hn : h.length ≤ 64) {r : List Nat} (hr : ∀ i ∈ r, i < h.length) : keptL x lv r = keptL h lv (r.map π) := by
 unfold keptL
 rw [q.snd, q.all hn r [] (fun i hi => by cases hi) hr, List.map_nil]
theorem IsoH.dec {h x : List TxnV} {lv : Int} {π ρ : Nat → Nat} (q : IsoH h x (clI ((askN lv : Nat) : Int)) π ρ) (hc : checkI h = 0) (hx : checkI x = 0) : (decW x lv).2.2 = (decW h lv).2.2 := by
 have hn := (check_zero hc).1
 rw [Bool.eq_iff_iff, dec_ex hx, dec_ex hc, q.len]
 constructor
 ·rintro ⟨r, hp, hk⟩
  have hlt : ∀ i ∈ r, i < h.length := fun i hi => List.mem_range.1 (hp.mem_iff.1 hi)
  exact ⟨r.map π, turn_perm q.turn hp, by rw [← q.kept hn hlt]; exact hk⟩
 ·rintro ⟨r, hp, hk⟩
  have hlt : ∀ i ∈ r, i < h.length := fun i hi => List.mem_range.1 (hp.mem_iff.1 hi)
  refine ⟨r.map ρ, turn_perm q.turn.symm hp, ?_⟩
  rw [q.kept hn (fun i hi => by obtain ⟨k, hk, rfl⟩ := List.mem_map.1 hi; exact q.turn.tl k (hlt k hk)), List.map_map]
  have e : r.map (π ∘ ρ) = r := by
   have : r.map (π ∘ ρ) = r.map id := List.map_congr_left fun i hi => q.turn.pr i (hlt i hi)
   rw [this, List.map_id]
  rw [e]; exact hk
end

section
open Go.RowKit
def renO (κ ν : Int → Int) (o : OpV) : OpV := ⟨o.wr, κ o.key, ν o.val⟩
def KeyIn (h : List TxnV) (k : Int) : Prop := ∃ t ∈ h, ∃ o ∈ t.l, o.key = k
def ValIn (h : List TxnV) (v : Int) : Prop := v = 0 ∨ ∃ t ∈ h, ∃ o ∈ t.l, o.val = v
theorem find_alike {α : Type} {p q : α → Bool} : ∀ (l : List α), (∀ a ∈ l, p a = q a) → l.find? p = l.find? q
 | [], _ => rfl
 | a :: l, h => by
  have h1 := h a (List.mem_cons_self ..)
  have h2 := find_alike l fun b hb => h b (List.mem_cons_of_mem _ hb)
  rw [List.find?_cons, List.find?_cons, h1, h2]
section
variable {κ ν : Int → Int} {l : List OpV} {K V : Int → Prop}
theorem ren_first (hk : ∀ a b, K a → K b → κ a = κ b → a = b) (hl : ∀ o ∈ l, K o.key) {k : Int} (hK : K k) : firstO (l.map (renO κ ν)) (κ k) = (firstO l k).map (renO κ ν) := by
 unfold firstO
 rw [List.find?_map]
 congr 1
 refine find_alike _ fun o ho => ?_
 show (κ o.key == κ k) = (o.key == k)
 rw [Bool.eq_iff_iff, beq_iff_eq, beq_iff_eq]
 exact ⟨hk _ _ (hl o ho) hK, fun e => by rw [e]⟩
theorem ren_lastW (hk : ∀ a b, K a → K b → κ a = κ b → a = b) (hl : ∀ o ∈ l, K o.key) {k : Int} (hK : K k) : lastW (l.map (renO κ ν)) (κ k) = (lastW l k).map (renO κ ν) := by
 unfold lastW
 rw [List.filter_map, List.getLast?_map]
 congr 2
 refine List.filter_congr fun o ho => ?_
 show (o.wr && (κ o.key == κ k)) = (o.wr && (o.key == k))
 congr 1
 rw [Bool.eq_iff_iff, beq_iff_eq, beq_iff_eq]
 exact ⟨hk _ _ (hl o ho) hK, fun e => by rw [e]⟩
theorem ren_lastO (hk : ∀ a b, K a → K b → κ a = κ b → a = b) (hl : ∀ o ∈ l, K o.key) {k : Int} (hK : K k) : lastO (l.map (renO κ ν)) (κ k) = (lastO l k).map (renO κ ν) := by
 unfold lastO
 rw [List.filter_map, List.getLast?_map]
 congr 2
 refine List.filter_congr fun o ho => ?_
 show (κ o.key == κ k) = (o.key == k)
 rw [Bool.eq_iff_iff, beq_iff_eq, beq_iff_eq]
 exact ⟨hk _ _ (hl o ho) hK, fun e => by rw [e]⟩
theorem ren_steady (hk : ∀ a b, K a → K b → κ a = κ b → a = b) (hl : ∀ o ∈ l, K o.key) (hv : ∀ a b, V a → V b → ν a = ν b → a = b) (hlv : ∀ o ∈ l, V o.val) : steadyL (l.map (renO κ ν)) = steadyL l := by
 unfold steadyL
 rw [List.length_map]
 refine all_congr _ fun k hkr => ?_
 have hkl := List.mem_range.1 hkr
 have hm := List.getElem_mem hkl
 rw [stOk_at (by rw [List.length_map]; exact hkl), stOk_at hkl, List.getElem_map, ← List.map_take]
 have e : lastO ((l.take k).map (renO κ ν)) (renO κ ν l[k]).key = (lastO (l.take k) l[k].key).map (renO κ ν) := ren_lastO hk (fun o ho => hl o (List.mem_of_mem_take ho)) (hl _ hm)
 rw [e]
 cases hh : lastO (l.take k) l[k].key with
 | none => rfl
 | some p =>
  have hp := List.mem_of_mem_take (lastO_key hh).2
  show (l[k].wr || (ν l[k].val == ν p.val)) = (l[k].wr || (l[k].val == p.val))
  congr 1
  rw [Bool.eq_iff_iff, beq_iff_eq, beq_iff_eq]
  exact ⟨hv _ _ (hlv _ hm) (hlv p hp), fun e => by rw [e]⟩
theorem ren_reads (hk : ∀ a b, K a → K b → κ a = κ b → a = b) (hl : ∀ o ∈ l, K o.key) (hkl : keysIn l) (hkx : keysIn (l.map (renO κ ν))) {o : OpV} : o ∈ refReads (l.map (renO κ ν)) ↔ ∃ p ∈ refReads l, o = renO κ ν p := by
 rw [(refReads_rise hkx).2]
 constructor
 ·rintro ⟨h1, h2⟩
  obtain ⟨p, hp, rfl⟩ := List.mem_map.1 (firstO_key h1).2
  change firstO _ (κ p.key) = _ at h1
  rw [ren_first hk hl (hl p hp)] at h1
  cases hf : firstO l p.key with
  | none => rw [hf] at h1; cases h1
  | some q =>
   rw [hf] at h1
   have hq := firstO_key hf
   have e := Option.some.inj h1
   exact ⟨q, ((refReads_rise hkl).2 q).2 ⟨by rw [hq.1]; exact hf, (congrArg OpV.wr e).trans h2⟩, e.symm⟩
 ·rintro ⟨p, hp, rfl⟩
  obtain ⟨h1, h2⟩ := ((refReads_rise hkl).2 p).1 hp
  refine ⟨?_, h2⟩
  show firstO _ (κ p.key) = _
  rw [ren_first hk hl (hl p (firstO_key h1).2), h1]; rfl
theorem ren_writes (hk : ∀ a b, K a → K b → κ a = κ b → a = b) (hl : ∀ o ∈ l, K o.key) (hkl : keysIn l) (hkx : keysIn (l.map (renO κ ν))) {o : OpV} : o ∈ refWrites (l.map (renO κ ν)) ↔ ∃ p ∈ refWrites l, o = renO κ ν p := by
 rw [(refWrites_rise hkx).2]
 constructor
 ·rintro ⟨h1, h2⟩
  obtain ⟨p, hp, rfl⟩ := List.mem_map.1 (lastW_key h1).2.2
  change lastW _ (κ p.key) = _ at h1
  rw [ren_lastW hk hl (hl p hp)] at h1
  cases hf : lastW l p.key with
  | none => rw [hf] at h1; cases h1
  | some q =>
   rw [hf] at h1
   have hq := lastW_key hf
   have e := Option.some.inj h1
   exact ⟨q, ((refWrites_rise hkl).2 q).2 ⟨by rw [hq.1]; exact hf, hq.2.1⟩, e.symm⟩
 ·rintro ⟨p, hp, rfl⟩
  obtain ⟨h1, h2⟩ := ((refWrites_rise hkl).2 p).1 hp
  refine ⟨?_, h2⟩
  show lastW _ (κ p.key) = _
  rw [ren_lastW hk hl (hl p (lastW_key h1).2.2), h1]; rfl
theorem vOf_last (hkl : keysIn l) {o : OpV} (ho : o ∈ l) (wo : o.wr = true) : ∃ p ∈ l, lastW l o.key = some p ∧ vOf l o.key = p.val := by
 have h0 := lastW_some l wo l.length (Nat.le_refl _) (by rw [List.take_length]; exact ho)
 rw [List.take_length] at h0
 obtain ⟨p, hp⟩ := Option.isSome_iff_exists.1 h0
 have hpk := lastW_key hp
 refine ⟨p, hpk.2.2, hp, ?_⟩
 have hm : p ∈ refWrites l := ((refWrites_rise hkl).2 p).2 ⟨by rw [hpk.1]; exact hp, hpk.2.1⟩
 unfold vOf
 cases hf : (refWrites l).find? (fun q => q.key == o.key) with
 | none => have := List.find?_eq_none.1 hf p hm; simp [hpk.1] at this
 | some q =>
  have hq := List.mem_of_find?_eq_some hf
  have hqk : q.key = o.key := by simpa using List.find?_some hf
  have h2 := ((refWrites_rise hkl).2 q).1 hq
  rw [hqk, hp] at h2
  obtain rfl := Option.some.inj h2.1
  rfl
theorem ren_vOf (hk : ∀ a b, K a → K b → κ a = κ b → a = b) (hl : ∀ o ∈ l, K o.key) (hv : ∀ a b, V a → V b → ν a = ν b → a = b) (hlv : ∀ o ∈ l, V o.val) (hkl : keysIn l) (hkx : keysIn (l.map (renO κ ν))) {o : OpV} (ho : o ∈ l) (wo : o.wr = true) {v : Int} (hV : V v) : (vOf (l.map (renO κ ν)) (κ o.key) == ν v) = (vOf l o.key == v) := by
 obtain ⟨p, hp, h1, h2⟩ := vOf_last hkl ho wo
 obtain ⟨p2, hp2, h3, h4⟩ := vOf_last hkx (List.mem_map_of_mem ho) wo
 have e : lastW (l.map (renO κ ν)) (κ o.key) = some p2 := h3
 rw [ren_lastW hk hl (hl o ho), h1] at e
 obtain rfl := Option.some.inj e
 have h5 : vOf (l.map (renO κ ν)) (κ o.key) = ν p.val := h4
 rw [h5, h2, Bool.eq_iff_iff, beq_iff_eq, beq_iff_eq]
 exact ⟨hv _ _ (hlv p hp) hV, fun e => by rw [e]⟩
end
structure Ren (h x : List TxnV) (π ρ : Nat → Nat) (κ ν : Int → Int) : Prop where
 len : x.length = h.length
 turn : IsoT h.length π ρ
 ops : ∀ j, j < h.length → opsAt x j = (opsAt h (π j)).map (renO κ ν)
 key : ∀ a b, KeyIn h a → KeyIn h b → κ a = κ b → a = b
 val : ∀ a b, ValIn h a → ValIn h b → ν a = ν b → a = b
 zero : ν 0 = 0
def turnI (ρ : Nat → Nat) (i : Int) : Int := if 0 ≤ i then ((ρ i.toNat : Nat) : Int) else i
theorem turnI_nat (ρ : Nat → Nat) (i : Nat) : turnI ρ (i : Int) = ((ρ i : Nat) : Int) := by unfold turnI; rw [if_pos (by omega), Int.toNat_natCast]
theorem keyIn_at {h : List TxnV} {i : Nat} (hi : i < h.length) {o : OpV} (ho : o ∈ opsAt h i) : KeyIn h o.key := ⟨h[i], List.getElem_mem hi, o, by rw [← opsAt_eq hi]; exact ho, rfl⟩
theorem valIn_at {h : List TxnV} {i : Nat} (hi : i < h.length) {o : OpV} (ho : o ∈ opsAt h i) : ValIn h o.val := .inr ⟨h[i], List.getElem_mem hi, o, by rw [← opsAt_eq hi]; exact ho, rfl⟩
theorem wvH_at {h : List TxnV} {v : Int} : v ∈ wvH h ↔ ∃ i, i < h.length ∧ ∃ o ∈ opsAt h i, o.wr = true ∧ o.val = v := by
 unfold wvH
 rw [List.mem_flatMap]
 constructor
 ·rintro ⟨t, ht, hv⟩
  obtain ⟨i, hi, rfl⟩ := List.mem_iff_getElem.1 ht
  obtain ⟨o, ho, wo, e⟩ := wv_mem.1 hv
  exact ⟨i, hi, o, by rw [opsAt_eq hi]; exact ho, wo, e⟩
 ·rintro ⟨i, hi, o, ho, wo, e⟩
  rw [opsAt_eq hi] at ho
  exact ⟨h[i], List.getElem_mem hi, wv_mem.2 ⟨o, ho, wo, e⟩⟩
theorem keys_at0 {h : List TxnV} (hk : ∀ t ∈ h, keysIn t.l) {i : Nat} (hi : i < h.length) : keysIn (opsAt h i) := by rw [opsAt_eq hi]; exact hk _ (List.getElem_mem hi)
section
variable {h x : List TxnV} {π ρ : Nat → Nat} {κ ν : Int → Int}
theorem Ren.wr_at (q : Ren h x π ρ κ ν) (hkh : ∀ t ∈ h, keysIn t.l) (hkx : ∀ t ∈ x, keysIn t.l) (hoh : okW h = true) (hox : okW x = true) {i : Nat} (hi : i < h.length) {o : OpV} (ho : o ∈ opsAt h i) (wo : o.wr = true) :
  ∃ b, wrTo h h.length o.val = some ⟨i, o.key, b⟩ ∧ wrTo x x.length (ν o.val) = some ⟨((ρ i : Nat) : Int), κ o.key, b⟩ := by
 have hr := q.turn.tl i hi
 have e := q.ops (ρ i) hr
 rw [q.turn.pr i hi] at e
 have hrx : ρ i < x.length := by rw [q.len]; exact hr
 have a := wrTo_at hkh h.length (Nat.le_refl _) (by rw [List.take_length]; exact of_decide_eq_true hoh) i hi hi o (by rw [← opsAt_eq hi]; exact ho) wo
 have hmx : renO κ ν o ∈ opsAt x (ρ i) := by rw [e]; exact List.mem_map_of_mem ho
 have b := wrTo_at hkx x.length (Nat.le_refl _) (by rw [List.take_length]; exact of_decide_eq_true hox) (ρ i) hrx hrx (renO κ ν o) (by rw [← opsAt_eq hrx]; exact hmx) wo
 refine ⟨vOf h[i].l o.key == o.val, a, ?_⟩
 have hkx2 := keys_at0 hkx hrx
 rw [e] at hkx2
 have c := ren_vOf (K := KeyIn h) (V := ValIn h) q.key (fun p hp => keyIn_at hi hp) q.val (fun p hp => valIn_at hi hp) (keys_at0 hkh hi) hkx2 ho wo (valIn_at hi ho)
 rw [← opsAt_eq hrx, e] at b
 rw [← opsAt_eq hi, ← c]
 exact b
theorem Ren.wr_none (q : Ren h x π ρ κ ν) {v : Int} (hV : ValIn h v) (hn : wrTo h h.length v = none) : wrTo x x.length (ν v) = none := by
 have d1 := dom_wr h h.length (Nat.le_refl _) v
 have d2 := dom_wr x x.length (Nat.le_refl _) (ν v)
 rw [hn, List.take_length] at d1
 rw [List.take_length] at d2
 cases e : wrTo x x.length (ν v) with
 | none => rfl
 | some u =>
  rw [e] at d2
  obtain ⟨j, hj, o, ho, wo, ev⟩ := wvH_at.1 (of_decide_eq_true d2.symm)
  rw [q.len] at hj
  rw [q.ops j hj] at ho
  obtain ⟨p, hp, rfl⟩ := List.mem_map.1 ho
  have hpj := q.turn.lt j hj
  have := q.val _ _ (valIn_at hpj hp) hV ev
  exact absurd (wvH_at.2 ⟨π j, hpj, p, hp, wo, this⟩) (of_decide_eq_false d1.symm)
theorem Ren.wr_some (q : Ren h x π ρ κ ν) (hkh : ∀ t ∈ h, keysIn t.l) (hkx : ∀ t ∈ x, keysIn t.l) (hoh : okW h = true) (hox : okW x = true) {v : Int} {u : WV} (hs : wrTo h h.length v = some u) :
  ∃ i : Nat, i < h.length ∧ u.i = (i : Int) ∧ wrTo x x.length (ν v) = some ⟨((ρ i : Nat) : Int), κ u.key, u.last⟩ := by
 have d1 := dom_wr h h.length (Nat.le_refl _) v
 rw [hs, List.take_length] at d1
 obtain ⟨i, hi, o, ho, wo, rfl⟩ := wvH_at.1 (of_decide_eq_true d1.symm)
 obtain ⟨b, h1, h2⟩ := q.wr_at hkh hkx hoh hox hi ho wo
 rw [h1] at hs
 obtain rfl := Option.some.inj hs
 exact ⟨i, hi, rfl, h2⟩
theorem Ren.frm (q : Ren h x π ρ κ ν) (hkh : ∀ t ∈ h, keysIn t.l) (hkx : ∀ t ∈ x, keysIn t.l) (hoh : okW h = true) (hox : okW x = true) {v : Int} (hV : ValIn h v) :
  fromO (wrTo x x.length) (ν v) = turnI ρ (fromO (wrTo h h.length) v) ∧ (fromO (wrTo h h.length) v = -1 ∨ ∃ i : Nat, i < h.length ∧ fromO (wrTo h h.length) v = (i : Int)) := by
 unfold fromO
 cases e : wrTo h h.length v with
 | none => rw [q.wr_none hV e]; exact ⟨rfl, .inl rfl⟩
 | some u =>
  obtain ⟨i, hi, e1, e2⟩ := q.wr_some hkh hkx hoh hox e
  rw [e2]
  simp only [Option.map_some, Option.getD_some]
  rw [e1, turnI_nat]
  exact ⟨rfl, .inr ⟨i, hi, rfl⟩⟩
theorem Ren.bad (q : Ren h x π ρ κ ν) (hkh : ∀ t ∈ h, keysIn t.l) (hkx : ∀ t ∈ x, keysIn t.l) (hoh : okW h = true) (hox : okW x = true) {o : OpV} (hV : ValIn h o.val) {j : Nat} (hj : j < h.length) :
  badFr (wrTo x x.length) (j : Int) (renO κ ν o) = badFr (wrTo h h.length) ((π j : Nat) : Int) o := by
 unfold badFr
 show (match wrTo x x.length (ν o.val) with | none => false | some u => decide (u.i = (j : Int)) || !u.last) = _
 cases e : wrTo h h.length o.val with
 | none => rw [q.wr_none hV e]
 | some u =>
  obtain ⟨i, hi, e1, e2⟩ := q.wr_some hkh hkx hoh hox e
  rw [e2]
  simp only
  congr 1
  rw [Bool.eq_iff_iff, decide_eq_true_eq, decide_eq_true_eq, e1]
  constructor
  ·intro a
   have : ρ i = j := by omega
   rw [← this, q.turn.pr i hi]
  ·intro a
   have : i = π j := by omega
   rw [this, q.turn.rp j hj]
theorem Ren.reads_mem (hc : checkI h = 0) (hx : checkI x = 0) (q : Ren h x π ρ κ ν) {j : Nat} (hj : j < h.length) {p : Int × Int} : p ∈ readsOf x j ↔ ∃ r ∈ readsOf h (π j), p = (κ r.1, turnI ρ r.2) := by
 obtain ⟨h64, _, hoh, hkh⟩ := check_zero hc
 obtain ⟨_, _, hox, hkx⟩ := check_zero hx
 have hpj := q.turn.lt j hj
 have hjx : j < x.length := by rw [q.len]; exact hj
 have hk1 := keys_at0 hkh hpj
 have hk2 := keys_at0 hkx hjx
 rw [q.ops j hj] at hk2
 unfold readsOf rdFr
 rw [q.ops j hj]
 simp only [List.mem_map, List.mem_filter]
 constructor
 ·rintro ⟨o, ⟨ho, hne⟩, rfl⟩
  obtain ⟨p, hp, rfl⟩ := (ren_reads (K := KeyIn h) q.key (fun p hp => keyIn_at hpj hp) hk1 hk2).1 ho
  have hpl := (refReads_in hp).1
  obtain ⟨f1, f2⟩ := q.frm hkh hkx hoh hox (valIn_at hpj hpl)
  have f1' : fromO (wrTo x x.length) (renO κ ν p).val = _ := f1
  rw [f1'] at hne ⊢
  refine ⟨_, ⟨p, ⟨hp, ?_⟩, rfl⟩, rfl⟩
  rw [bne_iff_ne] at hne ⊢
  intro e
  apply hne
  rw [e, turnI_nat, q.turn.rp j hj]
 ·rintro ⟨_, ⟨o, ⟨ho, hne⟩, rfl⟩, rfl⟩
  have hol := (refReads_in ho).1
  obtain ⟨f1, f2⟩ := q.frm hkh hkx hoh hox (valIn_at hpj hol)
  have f1' : fromO (wrTo x x.length) (renO κ ν o).val = _ := f1
  refine ⟨renO κ ν o, ⟨(ren_reads (K := KeyIn h) q.key (fun p hp => keyIn_at hpj hp) hk1 hk2).2 ⟨o, ho, rfl⟩, ?_⟩, by rw [f1']; rfl⟩
  rw [f1']
  rw [bne_iff_ne] at hne ⊢
  intro e
  rcases f2 with f2 | ⟨i, hi, f2⟩
  ·rw [f2] at e; unfold turnI at e; rw [if_neg (by omega)] at e; omega
  ·rw [f2, turnI_nat] at e
   apply hne
   rw [f2]
   have : ρ i = j := by omega
   rw [← this, q.turn.pr i hi]
theorem Ren.keys (hc : checkI h = 0) (hx : checkI x = 0) (q : Ren h x π ρ κ ν) {j : Nat} (hj : j < h.length) {y : Int} : y ∈ keysOf (opsAt x j) ↔ ∃ k ∈ keysOf (opsAt h (π j)), y = κ k := by
 obtain ⟨h64, _, hoh, hkh⟩ := check_zero hc
 obtain ⟨_, _, hox, hkx⟩ := check_zero hx
 have hpj := q.turn.lt j hj
 have hjx : j < x.length := by rw [q.len]; exact hj
 have hk1 := keys_at0 hkh hpj
 have hk2 := keys_at0 hkx hjx
 rw [q.ops j hj] at hk2
 unfold keysOf
 rw [q.ops j hj, List.mem_map]
 constructor
 ·rintro ⟨o, ho, rfl⟩
  obtain ⟨p, hp, rfl⟩ := (ren_writes (K := KeyIn h) q.key (fun p hp => keyIn_at hpj hp) hk1 hk2).1 ho
  exact ⟨p.key, List.mem_map_of_mem hp, rfl⟩
 ·rintro ⟨k, hk, rfl⟩
  obtain ⟨p, hp, rfl⟩ := List.mem_map.1 hk
  exact ⟨renO κ ν p, (ren_writes (K := KeyIn h) q.key (fun p hp => keyIn_at hpj hp) hk1 hk2).2 ⟨p, hp, rfl⟩, rfl⟩
theorem keysOf_in {i : Nat} (hi : i < h.length) {k : Int} (hk : k ∈ keysOf (opsAt h i)) : KeyIn h k := by
 obtain ⟨p, hp, rfl⟩ := List.mem_map.1 hk
 exact keyIn_at hi (refWrites_mem hp).1
theorem Ren.key_at (hc : checkI h = 0) (hx : checkI x = 0) (q : Ren h x π ρ κ ν) {j : Nat} (hj : j < h.length) {k : Int} (hK : KeyIn h k) : κ k ∈ keysOf (opsAt x j) ↔ k ∈ keysOf (opsAt h (π j)) := by
 rw [q.keys hc hx hj]
 constructor
 ·rintro ⟨k2, h2, e⟩
  rw [q.key _ _ hK (keysOf_in (q.turn.lt j hj) h2) e]; exact h2
 ·intro h2; exact ⟨k, h2, rfl⟩
theorem Ren.wrt (hc : checkI h = 0) (hx : checkI x = 0) (q : Ren h x π ρ κ ν) {k : Int} (hK : KeyIn h k) : IsoS h.length π (wrtN x (κ k)) (wrtN h k) := by
 have h64 := (check_zero hc).1
 unfold wrtN
 refine ⟨fun j e => ?_, fun j e => ?_, fun j hj => ?_⟩
 ·rw [testBit_mkS, q.len] at e; simp at e; exact e.2.1
 ·rw [testBit_mkS] at e; simp at e; exact e.2.1
 ·have := q.turn.lt j hj
  rw [testBit_mkS, testBit_mkS, q.len, decide_eq_true (show j < 64 by omega), decide_eq_true (show π j < 64 by omega), decide_eq_true hj, decide_eq_true this, Bool.true_and, Bool.true_and, Bool.true_and, Bool.true_and, Bool.eq_iff_iff, decide_eq_true_eq, decide_eq_true_eq]
  exact q.key_at hc hx hj hK
theorem riv_keys (hc : checkI h = 0) {i k : Nat} (hi : i < h.length) (hk : k < h.length) : rivR h i k = true ↔ ∃ y, y ∈ keysOf (opsAt h i) ∧ y ∈ keysOf (opsAt h k) := by
 obtain ⟨h64, _, hoh, hkh⟩ := check_zero hc
 unfold rivR
 rw [List.any_eq_true]
 constructor
 ·rintro ⟨n, _, e⟩
  rw [Bool.and_eq_true] at e
  exact ⟨n, (keysOf_iff hc hi _).2 e.1, (keysOf_iff hc hk _).2 e.2⟩
 ·rintro ⟨y, h1, h2⟩
  have hy : 0 ≤ y ∧ y < 64 := by
   obtain ⟨p, hp, rfl⟩ := List.mem_map.1 h1
   exact keys_at0 hkh hi p (refWrites_mem hp).1
  refine ⟨y.toNat, List.mem_range.2 (by omega), ?_⟩
  rw [Int.toNat_of_nonneg hy.1, Bool.and_eq_true]
  exact ⟨(keysOf_iff hc hi _).1 h1, (keysOf_iff hc hk _).1 h2⟩
theorem Ren.riv (hc : checkI h = 0) (hx : checkI x = 0) (q : Ren h x π ρ κ ν) {j : Nat} (hj : j < h.length) : IsoS h.length π (rivN x j) (rivN h (π j)) := by
 have h64 := (check_zero hc).1
 have hpj := q.turn.lt j hj
 refine ⟨fun i e => ?_, fun i e => ?_, fun i hi => ?_⟩
 ·have := (rivN_bit.1 e).2
  unfold rivB at this
  rw [q.len] at this
  simp only [Bool.and_eq_true, decide_eq_true_eq] at this
  exact this.2.1
 ·have := (rivN_bit.1 e).2
  unfold rivB at this
  simp only [Bool.and_eq_true, decide_eq_true_eq] at this
  exact this.2.1
 ·have hpi := q.turn.lt i hi
  rw [Bool.eq_iff_iff, rivN_bit, rivN_bit]
  unfold rivB
  rw [q.len, decide_eq_true hj, decide_eq_true hi, decide_eq_true hpj, decide_eq_true hpi, Bool.true_and, Bool.true_and, Bool.true_and, Bool.true_and, Bool.and_eq_true, Bool.and_eq_true, decide_eq_true_eq, decide_eq_true_eq,
   riv_keys hx (by rw [q.len]; exact hj) (by rw [q.len]; exact hi), riv_keys hc hpj hpi]
  have e1 : j ≠ i ↔ π j ≠ π i := ⟨fun a b => a (q.turn.inj hj hi b), fun a b => a (by rw [b])⟩
  have e2 : (∃ y, y ∈ keysOf (opsAt x j) ∧ y ∈ keysOf (opsAt x i)) ↔ ∃ y, y ∈ keysOf (opsAt h (π j)) ∧ y ∈ keysOf (opsAt h (π i)) := by
   constructor
   ·rintro ⟨y, a, b⟩
    obtain ⟨k, hk, rfl⟩ := (q.keys hc hx hj).1 a
    exact ⟨k, hk, (q.key_at hc hx hi (keysOf_in hpj hk)).1 b⟩
   ·rintro ⟨k, a, b⟩
    exact ⟨κ k, (q.key_at hc hx hj (keysOf_in hpj a)).2 a, (q.key_at hc hx hi (keysOf_in hpj a)).2 b⟩
  rw [e1, e2]
  exact ⟨fun ⟨_, a⟩ => ⟨by omega, a⟩, fun ⟨_, a⟩ => ⟨by omega, a⟩⟩
theorem Ren.fro (hc : checkI h = 0) (hx : checkI x = 0) (q : Ren h x π ρ κ ν) {i j : Nat} (hi : i < h.length) (hj : j < h.length) : froP x i j = froP h (π i) (π j) := by
 unfold froP
 rw [Bool.eq_iff_iff, List.any_eq_true, List.any_eq_true]
 constructor
 ·rintro ⟨p, hp, e⟩
  obtain ⟨r, hr, rfl⟩ := (q.reads_mem hc hx hj).1 hp
  refine ⟨r, hr, ?_⟩
  simp only [decide_eq_true_eq] at e ⊢
  rcases read_from hc (q.turn.lt j hj) hr with e2 | ⟨n, hn, e2, _, _⟩
  ·rw [e2] at e; unfold turnI at e; rw [if_neg (by omega)] at e; omega
  ·rw [e2, turnI_nat] at e
   have : ρ n = i := by omega
   rw [e2, ← this, q.turn.pr n hn]
 ·rintro ⟨r, hr, e⟩
  refine ⟨_, (q.reads_mem hc hx hj).2 ⟨r, hr, rfl⟩, ?_⟩
  simp only [decide_eq_true_eq] at e ⊢
  rw [e, turnI_nat, q.turn.rp i hi]
theorem Ren.base (hc : checkI h = 0) (hx : checkI x = 0) (q : Ren h x π ρ κ ν) {C : Nat} (hC : C < 9223372036854775808) (hs : C.testBit 0 = true → ∀ i j, i < h.length → j < h.length → sesP x i j = sesP h (π i) (π j))
  (ht : C.testBit 5 = true → ∀ i j, i < h.length → j < h.length → timP x i j = timP h (π i) (π j)) {j : Nat} (hj : j < h.length) : IsoS h.length π (baseN x C j) (baseN h C (π j)) := by
 have h64 := (check_zero hc).1
 have hpj := q.turn.lt j hj
 refine ⟨fun i e => ?_, fun i e => ?_, fun i hi => ?_⟩
 ·obtain ⟨h1, h2⟩ := (baseN_bit (by omega)).1 e
  rw [← q.len]; exact (baseM_lt hC h1 (by omega) h2).1
 ·obtain ⟨h1, h2⟩ := (baseN_bit (by omega)).1 e
  exact (baseM_lt hC h1 (by omega) h2).1
 ·have hpi := q.turn.lt i hi
  rw [Bool.eq_iff_iff, baseN_bit (by omega), baseN_bit (by omega), baseM_iff x C hC, baseM_iff h C hC]
  have e0 : froM x i j = true ↔ froM h (π i) (π j) = true := by
   unfold froM
   rw [prsTo_iff _ _ i j (by omega) (by omega), prsTo_iff _ _ (π i) (π j) (by omega) (by omega), q.fro hc hx hi hj, q.len]
   exact ⟨fun a => ⟨hpi, hpj, a.2.2⟩, fun a => ⟨hi, hj, a.2.2⟩⟩
  have e1 : (C.testBit 0 = true ∧ sesM x i j = true) ↔ (C.testBit 0 = true ∧ sesM h (π i) (π j) = true) := by
   refine and_congr_right fun c => ?_
   unfold sesM
   rw [prsTo_iff _ _ i j (by omega) (by omega), prsTo_iff _ _ (π i) (π j) (by omega) (by omega), hs c i j hi hj, q.len]
   exact ⟨fun a => ⟨hpi, hpj, a.2.2⟩, fun a => ⟨hi, hj, a.2.2⟩⟩
  have e2 : (C.testBit 5 = true ∧ timM x i j = true) ↔ (C.testBit 5 = true ∧ timM h (π i) (π j) = true) := by
   refine and_congr_right fun c => ?_
   unfold timM
   rw [prsTo_iff _ _ i j (by omega) (by omega), prsTo_iff _ _ (π i) (π j) (by omega) (by omega), ht c i j hi hj, q.len]
   exact ⟨fun a => ⟨hpi, hpj, a.2.2⟩, fun a => ⟨hi, hj, a.2.2⟩⟩
  rw [e0, e1, e2]
  exact ⟨fun a => ⟨by omega, a.2⟩, fun a => ⟨by omega, a.2⟩⟩
theorem Ren.readsP (hc : checkI h = 0) (hx : checkI x = 0) (q : Ren h x π ρ κ ν) {j : Nat} {aF aG : Nat → Nat} {s t : Nat} (hj : j < h.length) (hs : IsoS h.length π s t) (ha : ∀ k, k < h.length → IsoS h.length π (aF k) (aG (π k))) : readsP x aF s j = Go.Proofs.YtadihdkpoeibhaaGreatDoor.readsP h aG t (π j) := by
 have h64 := (check_zero hc).1
 have hpj := q.turn.lt j hj
 have one : ∀ r ∈ readsOf h (π j), readP x aF s (κ r.1, turnI ρ r.2) = readP h aG t r := by
  intro r hr
  have hK : KeyIn h r.1 := by
   obtain ⟨o, ho, rfl⟩ := List.mem_map.1 hr
   exact keyIn_at hpj (refReads_in (List.mem_filter.1 ho).1).1
  have hw := hs.and (q.wrt hc hx hK)
  unfold readP readW
  rcases read_from hc hpj hr with e | ⟨n, hn, e, _, _⟩
  ·have e2 : turnI ρ (-1) = -1 := rfl
   simp only [e, e2]
   rw [if_neg (by omega), if_neg (by omega), Bool.eq_iff_iff, decide_eq_true_eq, decide_eq_true_eq]
   exact IsoS.none q.turn hw
  ·have hrn := q.turn.tl n hn
   have e2 : turnI ρ (n : Int) = ((ρ n : Nat) : Int) := turnI_nat ρ n
   simp only [e, e2]
   rw [if_pos (by omega), if_pos (by omega), Bool.eq_iff_iff, decide_eq_true_eq, decide_eq_true_eq, lack_iff, lack_iff, Int.toNat_natCast, Int.toNat_natCast]
   have hp := IsoS.put q.turn h64 (ha (ρ n) hrn) hrn
   rw [q.turn.pr n hn] at hp
   exact IsoS.sub q.turn hw hp
 unfold Go.Proofs.YtadihdkpoeibhaaGreatDoor.readsP
 rw [Bool.eq_iff_iff, List.all_eq_true, List.all_eq_true]
 constructor
 ·intro a r hr
  rw [← one r hr]
  exact a _ ((q.reads_mem hc hx hj).2 ⟨r, hr, rfl⟩)
 ·intro a p hp
  obtain ⟨r, hr, rfl⟩ := (q.reads_mem hc hx hj).1 hp
  rw [one r hr]; exact a r hr
theorem Ren.sound (hc : checkI h = 0) (hx : checkI x = 0) (q : Ren h x π ρ κ ν) : soundTo x x.length = soundTo h h.length := by
 obtain ⟨h64, _, hoh, hkh⟩ := check_zero hc
 obtain ⟨_, _, hox, hkx⟩ := check_zero hx
 have one : ∀ j, j < h.length → soundOf x j = soundOf h (π j) := by
  intro j hj
  have hpj := q.turn.lt j hj
  have hjx : j < x.length := by rw [q.len]; exact hj
  have hk1 := keys_at0 hkh hpj
  have hk2 := keys_at0 hkx hjx
  rw [q.ops j hj] at hk2
  unfold soundOf
  rw [q.ops j hj, ren_steady (K := KeyIn h) (V := ValIn h) q.key (fun p hp => keyIn_at hpj hp) q.val (fun p hp => valIn_at hpj hp)]
  congr 2
  rw [Bool.eq_iff_iff, List.any_eq_true, List.any_eq_true]
  constructor
  ·rintro ⟨o, ho, e⟩
   obtain ⟨p, hp, rfl⟩ := (ren_reads (K := KeyIn h) q.key (fun p hp => keyIn_at hpj hp) hk1 hk2).1 ho
   exact ⟨p, hp, by rw [← q.bad hkh hkx hoh hox (valIn_at hpj (refReads_in hp).1) hj]; exact e⟩
  ·rintro ⟨p, hp, e⟩
   exact ⟨renO κ ν p, (ren_reads (K := KeyIn h) q.key (fun p hp => keyIn_at hpj hp) hk1 hk2).2 ⟨p, hp, rfl⟩, by rw [q.bad hkh hkx hoh hox (valIn_at hpj (refReads_in hp).1) hj]; exact e⟩
 unfold soundTo
 rw [Bool.eq_iff_iff, List.all_eq_true, List.all_eq_true]
 constructor
 ·intro a i hi
  have hi := List.mem_range.1 hi
  rw [← q.turn.pr i hi, ← one _ (q.turn.tl i hi)]
  exact a _ (List.mem_range.2 (by rw [q.len]; exact q.turn.tl i hi))
 ·intro a j hj
  have hj := List.mem_range.1 hj
  rw [q.len] at hj
  rw [one j hj]; exact a _ (List.mem_range.2 (q.turn.lt j hj))
theorem Ren.iso (hc : checkI h = 0) (hx : checkI x = 0) (q : Ren h x π ρ κ ν) {C : Nat} (hC : C < 9223372036854775808) (hs : C.testBit 0 = true → ∀ i j, i < h.length → j < h.length → sesP x i j = sesP h (π i) (π j))
  (ht : C.testBit 5 = true → ∀ i j, i < h.length → j < h.length → timP x i j = timP h (π i) (π j)) : IsoH h x C π ρ :=
 ⟨q.len, q.turn, fun _ hj => q.base hc hx hC hs ht hj, fun _ hj => q.riv hc hx hj, fun _ _ _ _ _ hj a b => q.readsP hc hx hj a b, q.sound hc hx⟩
end
theorem sum_perm {l m : List Nat} (h : l.Perm m) : l.sum = m.sum := by
 induction h with
 | nil => rfl
 | cons a _ ih => simp only [List.sum_cons, ih]
 | swap a b l => simp only [List.sum_cons]; omega
 | trans _ _ i1 i2 => rw [i1, i2]
theorem ops_list (h : List TxnV) : h.map (·.l) = (List.range h.length).map (opsAt h) := by
 apply List.ext_getElem
 ·simp
 ·intro i h1 h2
  have hi : i < h.length := by simpa using h1
  simp only [List.getElem_map, List.getElem_range]
  rw [opsAt_eq hi]
section
variable {h x : List TxnV} {π ρ : Nat → Nat} {κ ν : Int → Int}
theorem Ren.perm (q : Ren h x π ρ κ ν) : (x.map (·.l)).Perm ((h.map (·.l)).map (List.map (renO κ ν))) := by
 have e : x.map (·.l) = ((List.range h.length).map π).map fun i => (opsAt h i).map (renO κ ν) := by
  rw [ops_list x, q.len, List.map_map]
  exact List.map_congr_left fun j hj => q.ops j (List.mem_range.1 hj)
 have e2 : (h.map (·.l)).map (List.map (renO κ ν)) = (List.range h.length).map fun i => (opsAt h i).map (renO κ ν) := by rw [ops_list h, List.map_map]; rfl
 rw [e, e2]
 exact (turn_perm q.turn (List.Perm.refl _)).map _
theorem wv_ren (l : List OpV) : wv (l.map (renO κ ν)) = (wv l).map ν := by
 unfold wv
 rw [List.filter_map, List.map_map, List.map_map]
 rfl
theorem Ren.check (q : Ren h x π ρ κ ν) (hc : checkI h = 0) (hm : partsB x = true) (hst : stampsB x = true) (hse : sesB x = true) : checkI x = 0 := by
 obtain ⟨h64, hopn, hoh, hkh⟩ := check_zero hc
 have hkx := parts_keys hm
 have hr : rightB h = true := by
  unfold checkI at hc
  split at hc
  ·cases hc
  ·split at hc
   ·assumption
   ·cases hc
 have ho : opsN x = opsN h := by
  have e : ∀ h : List TxnV, opsN h = ((h.map (·.l)).map List.length).sum := fun h => by unfold opsN; rw [List.map_map]; rfl
  rw [e x, e h, sum_perm (q.perm.map List.length)]
  congr 1
  rw [List.map_map]
  exact List.map_congr_left fun l _ => by simp
 have hw : (wvH x).Perm ((wvH h).map ν) := by
  have e : ∀ h : List TxnV, wvH h = (h.map (·.l)).flatMap wv := fun h => by unfold wvH; rw [List.flatMap_map]
  rw [e x, e h]
  refine (List.Perm.flatMap_right wv q.perm).trans ?_
  rw [List.flatMap_map, List.map_flatMap, show (fun a => wv (List.map (renO κ ν) a)) = fun a => (wv a).map ν from funext fun a => wv_ren a]
 have hox : okW x = true := by
  unfold okW
  rw [decide_eq_true_eq, hw.nodup_iff, List.nodup_iff_pairwise_ne, List.pairwise_map]
  refine (List.nodup_iff_pairwise_ne.1 (of_decide_eq_true hoh)).imp_of_mem fun {a b} ha hb hne e => hne (q.val a b ?_ ?_ e)
  ·obtain ⟨i, hi, o, ho, _, rfl⟩ := wvH_at.1 ha; exact valIn_at hi ho
  ·obtain ⟨i, hi, o, ho, _, rfl⟩ := wvH_at.1 hb; exact valIn_at hi ho
 unfold rightB at hr
 simp only [Bool.and_eq_true] at hr
 unfold valuesB at hr
 rw [Bool.and_eq_true] at hr
 have hv : valuesB x = true := by
  unfold valuesB
  rw [hox, Bool.true_and, List.all_eq_true]
  intro t ht
  obtain ⟨j, hj, rfl⟩ := List.mem_iff_getElem.1 ht
  rw [q.len] at hj
  have hpj := q.turn.lt j hj
  unfold rowOk
  rw [List.all_eq_true, ← opsAt_eq (by rw [q.len]; exact hj), q.ops j hj]
  intro o ho
  obtain ⟨p, hp, rfl⟩ := List.mem_map.1 ho
  have h1 := List.all_eq_true.1 hr.2.1.2 _ (List.getElem_mem hpj)
  unfold rowOk at h1
  rw [← opsAt_eq hpj] at h1
  have h2 := List.all_eq_true.1 h1 p hp
  unfold rdOk at h2 ⊢
  show (p.wr || ν p.val == 0 || match wrTo x x.length (ν p.val) with | none => false | some u => u.key == κ p.key) = true
  cases wp : p.wr with
  | true => rfl
  | false =>
   rw [wp] at h2
   by_cases e : p.val = 0
   ·rw [e, q.zero]; rfl
   ·have e' : (p.val == 0) = false := by simpa using e
    rw [e', Bool.or_false, Bool.false_or] at h2
    cases hu : wrTo h h.length p.val with
    | none => rw [hu] at h2; cases h2
    | some u =>
     rw [hu] at h2
     obtain ⟨i, _, _, e2⟩ := q.wr_some hkh hkx hoh hox hu
     rw [e2]
     have e3 : u.key = p.key := by simpa using h2
     simp [e3]
 unfold checkI
 rw [if_neg (by rw [q.len, ho]; omega), if_pos (by unfold rightB; rw [hm, hv, hst, hse]; rfl)]
end
end

section
open Go.RowKit
def rr (j : Nat) : List Nat := (List.range j).reverse
section
variable {f : Nat → Nat} {h : List TxnV} {C : Nat}
end
section
variable {f : Nat → Nat} {h : List TxnV}
end
end

section
open Go.RowKit
theorem check_rightB {h : List TxnV} (hc : checkI h = 0) : partsB h = true ∧ valuesB h = true ∧ stampsB h = true ∧ sesB h = true := by
 unfold checkI at hc
 split at hc
 ·cases hc
 ·split at hc
  ·rename_i hr
   unfold rightB at hr
   simp only [Bool.and_eq_true] at hr
   exact ⟨hr.1, hr.2.1, hr.2.2.1, hr.2.2.2⟩
  ·cases hc
theorem may_at {h : List TxnV} (hp : partsB h = true) {t : TxnV} (ht : t ∈ h) : (0 ≤ t.s ∧ t.s < 64 ∧ 0 ≤ t.b ∧ t.b < t.c ∧ t.c ≤ 2147483647 ∧ 1 ≤ t.l.length ∧ t.l.length ≤ 64) ∧ ∀ o ∈ t.l, mayO o = true := by
 have h1 := List.all_eq_true.1 hp t ht
 unfold mayT at h1
 rw [Bool.and_eq_true, decide_eq_true_eq] at h1
 exact ⟨h1.1, fun o ho => List.all_eq_true.1 h1.2 o ho⟩
section
variable {h s c : List TxnV} {f τ κ ν : Int → Int}
end
section
variable {h c : List TxnV} {f τ κ ν : Int → Int} {π ρ : Nat → Nat}
end
section
variable {h s c : List TxnV}
end
end

section
open Go.RowKit
section
variable {T : Int → Int} {l : List OpV}
end
section
variable {h : List TxnV} {L : List Nat}
def whereN (L : List Nat) (i : Nat) : Nat := L.findIdx fun x => x == i
theorem whereN_at {L : List Nat} (hd : L.Nodup) {j : Nat} (hj : j < L.length) : whereN L L[j] = j := by
 have hi : whereN L L[j] < L.length := by unfold whereN; rw [List.findIdx_lt_length]; exact ⟨_, List.getElem_mem hj, by simp⟩
 have h1 : L[whereN L L[j]] = L[j] := beq_iff_eq.1 (List.findIdx_getElem (p := fun x => x == L[j]) (xs := L) (w := hi))
 rw [List.nodup_iff_pairwise_ne, List.pairwise_iff_getElem] at hd
 rcases Nat.lt_trichotomy (whereN L L[j]) j with e | e | e
 ·exact absurd h1 (hd _ _ hi hj e)
 ·exact e
 ·exact absurd h1.symm (hd _ _ hj hi e)
theorem id_ren (l : List OpV) : l.map (renO id id) = l := by
 have : (renO id id) = id := by funext o; rfl
 rw [this, List.map_id]
end
end

section
open Go.RowKit
def opnTo (r : Nat → Bool) (l : Nat) (k : Nat) : Bool := (List.range k).all fun b => r b || !impB (l : Int) (b : Int)
def opn (r : Nat → Bool) (l : Nat) : Bool := opnTo r l l
theorem opnTo_succ (r : Nat → Bool) (l k : Nat) : opnTo r l (k + 1) = (opnTo r l k && (r k || !impB (l : Int) (k : Int))) := by
 unfold opnTo; rw [List.range_succ, List.all_append]; simp
theorem opn_miss {r : Nat → Bool} {l k : Nat} (hk : k < l) (h : (r k || !impB (l : Int) (k : Int)) = false) : opn r l = false := by
 unfold opn opnTo
 rw [List.all_eq_false]
 exact ⟨k, List.mem_range.2 hk, by rw [h]; simp⟩
theorem ret_v {a b : Bool} (h : a = b) : Ending.returned (Value.bool a) = Ending.returned (Value.bool b) := by rw [h]
theorem vopen_any (r : Nat → Bool) (l : Nat) (w : World) (hl : l ≤ 12) (hK : Kinds w) : Calls Tryz.prog 84 #[.agg (rowB r), .int .i64 (l : Int)] w fun e w' => e = .returned (.bool (opn r l)) ∧ Below w.heap.size w w' := by
 have HK := hid (fun wx (hb : Below w.heap.size w wx) => hK.below hb)
 clear hK
 go_enter Tryz.func84, Tryz.ntmps84
 go_wp2_with fail
 go_loopw [7] (fun i wr => ∃ k : Nat, k ≤ l ∧ i = .int .i64 k ∧ opnTo r l k = true ∧ BRow wr w.heap.size r ∧ Below w.heap.size w wr) (fun i _ => l - (intOf i).toNat)
 case atStart => exact ⟨0, by omega, rfl, rfl, BRow.made w r rfl rfl, (Below.refl w.heap.size w).alloc (Nat.le_refl _) _⟩
 case round =>
  obtain ⟨k, hk, rfl, hno, h0, hb⟩ := hrel
  have HNO := hid hno
  clear hno
  by_cases hlt : k < l
  ·have hki : (k : Int) < (l : Int) := by omega
   have hk12 : (k : Int) < 12 := by omega
   have hc := h0.cell (show k < 12 by omega)
   have HS := hid (opnTo_succ r l k)
   have HH := hid (fun h => opn_miss (r := r) (l := l) hlt h)
   have CI := hid (limp_any (l : Int) (k : Int) wr (HK.out _ hb))
   rw [HNO.out] at HS
   cases hr : r k
   ·rw [hr] at hc HS HH
    clear hr
    cases hm : impB (l : Int) (k : Int)
    ·rw [hm] at CI HS
     have HM : Hid (opnTo r l (k + 1) = true) := hid (by rw [HS.out]; rfl)
     clear hm HH
     go_wp2_with fail
     refine CI.out.mono ?_
     rintro e wq ⟨rfl, rfl⟩
     go_wp2_with fail
     go_roundw
     case rel => exact ⟨k + 1, by omega, by go_num, HM.out, h0, hb⟩
     case measure => simp [intOf]; omega
    ·rw [hm] at CI HH
     have HM : Hid (opn r l = false) := hid (HH.out rfl)
     clear hm HS HH
     go_wp2_with fail
     refine CI.out.mono ?_
     rintro e wq ⟨rfl, rfl⟩
     go_wp2_with fail
     go_ret
     exact ⟨ret_v HM.out.symm, hb⟩
   ·rw [hr] at hc HS
    clear hr HH CI
    have HM : Hid (opnTo r l (k + 1) = true) := hid (by rw [HS.out]; rfl)
    go_wp2_with fail
    go_roundw
    case rel => exact ⟨k + 1, by omega, by go_num, HM.out, h0, hb⟩
    case measure => simp [intOf]; omega
  ·obtain rfl : k = l := by omega
   have hki : ¬ (k : Int) < (k : Int) := by omega
   have HM : Hid (opn r k = true) := HNO
   go_wp2_with fail
   go_ret
   exact ⟨ret_v HM.out.symm, hb⟩
end

section
open Go.RowKit
def vecStep (h : List TxnV) (s : (Nat → Bool) × Nat) (l : Nat) : (Nat → Bool) × Nat := if opn s.1 l = true then (rSet s.1 l (decW h (l : Int)).2.2, s.2 + (decN h (l : Int)).2.2) else s
def vecTo (h : List TxnV) (j : Nat) : (Nat → Bool) × Nat := (List.range j).foldl (vecStep h) (noB, 0)
theorem vecTo_zero (h : List TxnV) : vecTo h 0 = (noB, 0) := rfl
theorem vecTo_succ (h : List TxnV) (j : Nat) : vecTo h (j + 1) = vecStep h (vecTo h j) j := by unfold vecTo; rw [List.range_succ, List.foldl_append]; rfl
theorem vecTo_open {h : List TxnV} {j : Nat} (ho : opn (vecTo h j).1 j = true) : vecTo h (j + 1) = (rSet (vecTo h j).1 j (decW h (j : Int)).2.2, (vecTo h j).2 + (decN h (j : Int)).2.2) := by rw [vecTo_succ]; unfold vecStep; rw [if_pos ho]
theorem vecTo_shut {h : List TxnV} {j : Nat} (ho : opn (vecTo h j).1 j = false) : vecTo h (j + 1) = vecTo h j := by rw [vecTo_succ]; unfold vecStep; rw [if_neg (by rw [ho]; simp)]
theorem vecTo_cost (h : List TxnV) {i : Nat} : ∀ {j}, i ≤ j → (vecTo h i).2 ≤ (vecTo h j).2
 | 0, hj => by have e : i = 0 := (by omega); subst e; exact Nat.le_refl _
 | j + 1, hj => by
  by_cases e : i = j + 1
  ·rw [e]; exact Nat.le_refl _
  ·have ih := vecTo_cost h (i := i) (j := j) (by omega)
   cases ho : opn (vecTo h j).1 j with
   | true => rw [vecTo_open ho]; exact Nat.le_trans ih (Nat.le_add_right _ _)
   | false => rw [vecTo_shut ho]; exact ih
end

section
open Go.RowKit
theorem least_ex (h : List TxnV) (x : Nat) (L : List Int) : ∃ X : Mat, LeastIs h x L X := by
 classical
 exact ⟨fun i j => decide (Must (startM h (x : Int) (chainR L)) (chainR L) (trB x) (pfB x) i j), fun i j _ _ => by rw [decide_eq_true_eq]⟩
section
variable {h : List TxnV}
theorem kept_implied (hc : checkI h = 0) {a b : Int} (hi : impB a b = true) {L : List Nat} (hp : L.Perm (List.range h.length)) (hk : keptL h a L = true) : keptL h b L = true := by
 obtain ⟨X, hX⟩ := least_ex h (askN a) (L.map Int.ofNat)
 obtain ⟨Y, hY⟩ := least_ex h (askN b) (L.map Int.ofNat)
 rw [← kept_holds hc a hp hX] at hk
 have hnd : (L.map Int.ofNat).Nodup := nodup_ofNat (hp.nodup_iff.2 List.nodup_range)
 have h2 := least_holds (check_zero hc).1 (implied_holds hc hnd hk hi) hY
 rwa [kept_holds hc b hp hY] at h2
theorem dec_implied (hc : checkI h = 0) {a b : Int} (hi : impB a b = true) (hk : (decW h a).2.2 = true) : (decW h b).2.2 = true := by
 rw [decW_some hc] at hk ⊢
 rw [List.find?_isSome] at hk ⊢
 obtain ⟨L, hL, hk⟩ := hk
 exact ⟨L, hL, kept_implied hc hi (orders_perm hL) hk⟩
theorem opn_no {r : Nat → Bool} {l : Nat} (ho : opn r l = false) : ∃ k, k < l ∧ r k = false ∧ impB (l : Int) (k : Int) = true := by
 unfold opn opnTo at ho
 rw [List.all_eq_false] at ho
 obtain ⟨k, hk, hn⟩ := ho
 refine ⟨k, List.mem_range.1 hk, ?_⟩
 simpa using hn
theorem shut_no (hc : checkI h = 0) {r : Nat → Bool} {l : Nat} (hr : ∀ i, i < l → r i = (decW h (i : Int)).2.2) (ho : opn r l = false) : (decW h (l : Int)).2.2 = false := by
 obtain ⟨k, hk, h1, h2⟩ := opn_no ho
 cases e : (decW h (l : Int)).2.2 with
 | false => rfl
 | true =>
  have := dec_implied hc h2 e
  rw [← hr k hk, h1] at this
  cases this
theorem vec_row (hc : checkI h = 0) : ∀ j i, (vecTo h j).1 i = (decide (i < j) && (decW h (i : Int)).2.2)
 | 0, i => by simp [vecTo_zero, noB]
 | j + 1, i => by
  have ih := vec_row hc j
  cases ho : opn (vecTo h j).1 j with
  | true =>
   rw [vecTo_open ho]
   show rSet (vecTo h j).1 j _ i = _
   unfold rSet
   by_cases e : i = j
   ·subst e; simp
   ·rw [if_neg e, ih]
    congr 1
    rw [Bool.eq_iff_iff, decide_eq_true_eq, decide_eq_true_eq]; omega
  | false =>
   rw [vecTo_shut ho, ih]
   have hn := shut_no hc (r := (vecTo h j).1) (l := j) (fun i hi => by rw [ih, decide_eq_true hi, Bool.true_and]) ho
   by_cases e : i = j
   ·subst e; rw [hn]; simp
   ·congr 1
    rw [Bool.eq_iff_iff, decide_eq_true_eq, decide_eq_true_eq]; omega
theorem vec_bound (M : Nat) (hM : ∀ l : Nat, l < 12 → (decN h (l : Int)).2.2 ≤ M) : ∀ j, j ≤ 12 → (vecTo h j).2 ≤ j * M
 | 0, _ => by rw [vecTo_zero]; exact Nat.zero_le _
 | j + 1, hj => by
  have ih := vec_bound M hM j (by omega)
  have := hM j (by omega)
  rw [Nat.succ_mul]
  cases ho : opn (vecTo h j).1 j with
  | true => rw [vecTo_open ho]; show (vecTo h j).2 + _ ≤ _; omega
  | false => rw [vecTo_shut ho]; omega
end
def accV (h : List TxnV) (i : Nat) : Bool := (decW h (i : Int)).2.2
def vecF (r : Nat → Bool) (ws : Nat → Value × Value) (i : Nat) : Value := if i < 12 then .bool (r i) else if i % 2 = 0 then (ws ((i - 12) / 2)).1 else (ws ((i - 12) / 2)).2
def vecL (r : Nat → Bool) (ws : Nat → Value × Value) : List Value := (List.range 36).map (vecF r ws)
def wZ0 : Nat → Value × Value := fun _ => (.slice none 0 0, .slice none 0 0)
def updW (ws : Nat → Value × Value) (k : Nat) (u : Value × Value) : Nat → Value × Value := fun i => if i = k then u else ws i
theorem vecL_len (r : Nat → Bool) (ws : Nat → Value × Value) : (vecL r ws).length = 36 := by unfold vecL; simp
theorem vecL_at (r : Nat → Bool) (ws : Nat → Value × Value) {i : Nat} (hi : i < 36) : (vecL r ws)[i]? = some (vecF r ws i) := by unfold vecL; simp [hi]
theorem vecL_congr {r s : Nat → Bool} {ws : Nat → Value × Value} (h : ∀ i, i < 12 → r i = s i) : vecL r ws = vecL s ws := by
 unfold vecL
 refine List.map_congr_left fun i _ => ?_
 unfold vecF
 split
 ·rename_i e; rw [h i e]
 ·rfl
theorem vecL_one {r : Nat → Bool} {ws : Nat → Value × Value} (h : ∀ i, i < 12 → (ws i).1.oneCell' = true ∧ (ws i).2.oneCell' = true) : (vecL r ws).toArray.all (·.oneCell') = true := by
 refine all_oneCell_toArray fun v hv => ?_
 unfold vecL at hv
 obtain ⟨i, hi, rfl⟩ := List.mem_map.1 hv
 have hi := List.mem_range.1 hi
 unfold vecF
 split
 ·rfl
 ·split
  ·exact (h _ (by omega)).1
  ·exact (h _ (by omega)).2
def VecAt (w : World) (g : Nat) (r : Nat → Bool) (ws : Nat → Value × Value) : Prop := ∀ i, i < 36 → w.cell? ⟨g, i, none⟩ = some (vecF r ws i) ∧ w.frozen? ⟨g, i, none⟩ = false
section
variable {w w' : World} {g : Nat} {r : Nat → Bool} {ws : Nat → Value × Value}
theorem VecAt.lt (h : VecAt w g r ws) : g < w.heap.size := block_lt (h 0 (by omega)).1
theorem VecAt.below {B : Nat} (h : VecAt w g r ws) (hb : Below B w w') (hB : g < B) : VecAt w' g r ws := fun i hi => by
 rw [hb.cell (p := ⟨g, i, none⟩) hB, hb.frozen (p := ⟨g, i, none⟩) hB]; exact h i hi
theorem VecAt.grown {row : Option Nat} (h : VecAt w g r ws) (hg : w.grownBy w' row) (hne : some g ≠ row) : VecAt w' g r ws := fun i hi => by
 obtain ⟨h1, h2⟩ := h i hi
 have hb : w'.heap[g]? = w.heap[g]? := hg.block g h.lt hne
 refine ⟨by unfold World.cell? at *; rw [hb]; exact h1, by unfold World.frozen? at *; rw [hb]; exact h2⟩
theorem VecAt.made (w : World) (t : TypeId) (r : Nat → Bool) (ws : Nat → Value × Value) : VecAt (w.alloc (.cells (vecL r ws).toArray t)) w.heap.size r ws := fun i hi => by
 have hn := heap_alloc_new w (.cells (vecL r ws).toArray t)
 refine ⟨?_, frozen_of_row _ _ _ _ _ hn⟩
 rw [cell_of_row _ _ _ _ _ _ hn]
 simpa using vecL_at r ws hi
theorem VecAt.setR (h : VecAt w g r ws) {k : Nat} (hk : k < 12) (v : Bool) : VecAt (w.setCell ⟨g, k, none⟩ (.bool v)) g (rSet r k v) ws := fun i hi => by
 rw [World.frozen?_setCell]
 refine ⟨?_, (h i hi).2⟩
 by_cases e : i = k
 ·subst e
  rw [World.cell?_setCell_same _ _ _ (h i hi).1]
  unfold vecF rSet; rw [if_pos hk, if_pos rfl]
 ·rw [World.cell?_setCell_other _ _ _ _ (fun q => by injection q with q1 q2; exact e q2.symm), (h i hi).1]
  unfold vecF rSet
  split
  ·rfl
  ·rfl
theorem VecAt.setW (h : VecAt w g r ws) {k : Nat} (hk : k < 12) (x y : Value) : VecAt (w.setCells g (12 + 2 * k) [x, y]) g r (updW ws k (x, y)) := fun i hi => by
 have e : w.setCells g (12 + 2 * k) [x, y] = (w.setCell ⟨g, 12 + 2 * k, none⟩ x).setCell ⟨g, 12 + 2 * k + 1, none⟩ y := rfl
 rw [e, World.frozen?_setCell, World.frozen?_setCell]
 refine ⟨?_, (h i hi).2⟩
 by_cases e0 : i = 12 + 2 * k
 ·subst e0
  rw [World.cell?_setCell_other _ _ _ _ (fun q => by injection q with q1 q2; omega), World.cell?_setCell_same _ _ _ (h _ hi).1]
  unfold vecF updW
  rw [if_neg (by omega), if_pos (by omega), if_pos (by omega)]
 ·by_cases e1 : i = 12 + 2 * k + 1
  ·subst e1
   have hc : (w.setCell ⟨g, 12 + 2 * k, none⟩ x).cell? ⟨g, 12 + 2 * k + 1, none⟩ = some (vecF r ws (12 + 2 * k + 1)) := by
    rw [World.cell?_setCell_other _ _ _ _ (fun q => by injection q with q1 q2; omega)]; exact (h _ hi).1
   rw [World.cell?_setCell_same _ _ _ hc]
   unfold vecF updW
   rw [if_neg (by omega), if_neg (by omega), if_pos (by omega)]
  ·rw [World.cell?_setCell_other _ _ _ _ (fun q => by injection q with q1 q2; omega), World.cell?_setCell_other _ _ _ _ (fun q => by injection q with q1 q2; omega), (h i hi).1]
   unfold vecF updW
   split
   ·rfl
   ·rw [if_neg (show ¬ (i - 12) / 2 = k by omega)]
theorem VecAt.row (h : VecAt w g r ws) : w.rangeAt g 0 (rowB r).toList := fun j v hv => by
 have hj : j < 12 := by
  have := (List.getElem?_eq_some_iff.1 hv).1
  simpa [rowB] using this
 rw [Nat.zero_add, (h j (by omega)).1, ← hv]
 unfold vecF
 rw [if_pos hj]
 simp [rowB, hj]
theorem VecAt.all (h : VecAt w g r ws) : w.rangeAt g 0 (vecL r ws) := fun j v hv => by
 have hj : j < 36 := by
  have := (List.getElem?_eq_some_iff.1 hv).1
  rwa [vecL_len] at this
 rw [Nat.zero_add, (h j hj).1, ← hv, vecL_at r ws hj]
theorem VecAt.there (h : VecAt w g r ws) {o n : Nat} (ho : o + n ≤ 36) : w.there g o n := fun j hj => by
 obtain ⟨h1, h2⟩ := h (o + j) (by omega)
 exact ⟨by rw [h1]; rfl, h2⟩
theorem VecAt.put (h : VecAt w g r ws) (s : Nat → Bool) (us : Nat → Value × Value) : VecAt (w.setCells g 0 (vecL s us)) g s us := fun i hi => by
 rw [World.frozen?_setCells]
 refine ⟨?_, (h i hi).2⟩
 have := World.cell?_setCells_in g (vecL s us) 0 w (fun j hj => by rw [vecL_len] at hj; rw [Nat.zero_add, (h j hj).1]; rfl) i (by rw [vecL_len]; exact hi)
 rw [Nat.zero_add] at this
 rw [this]
 unfold vecL; simp
end
section
variable {w w' : World} {b0 : Nat} {vo vs : Value} {l : List Int} {LL : List (List Int)}
theorem OwnW.nil (w : World) (b0 : Nat) : OwnW w b0 (.slice none 0 0) (.slice none 0 0) [] [] := ⟨World.ownsRow_nil _ _ _ _, [], OwnK.nil _ _, rfl⟩
theorem OwnW.below (h : OwnW w b0 vo vs l LL) (hb : Below w.heap.size w w') : OwnW w' b0 vo vs l LL := by
 obtain ⟨h1, KL, h2, h3⟩ := h
 exact ⟨owns_below h1 hb, KL, h2.below hb, h3⟩
theorem OwnW.base {b1 : Nat} (h : OwnW w b0 vo vs l LL) (hb : b1 ≤ b0) : OwnW w b1 vo vs l LL := by
 obtain ⟨h1, KL, h2, h3⟩ := h
 exact ⟨own_base' h1 hb, KL, h2.base hb, h3⟩
theorem own_row_ne {e : TypeId} {s n T : Nat} {v : Value} {xs : List Value} (h : w.ownsRow b0 e s v n xs) (hT : T < b0) : v.ownBlock = none ∨ v.ownBlock ≠ some T := by
 rcases h.2 with ⟨rfl, _⟩ | ⟨g, cap, cur, rfl, _, _, _⟩
 ·exact .inl rfl
 ·right
  intro e
  have := (h.lt _ e).1
  omega
theorem OwnW.kept {T : Nat} (h : OwnW w b0 vo vs l LL) (hg : w.grownBy w' (some T)) (hT : T < b0) : OwnW w' b0 vo vs l LL := by
 obtain ⟨h1, KL, h2, h3⟩ := h
 exact ⟨World.ownsRow.kept h1 hg (own_row_ne h1 hT), KL, ⟨World.ownsRow.kept h2.kr hg (own_row_ne h2.kr hT), fun p hp => World.ownsRow.kept (h2.ke p hp) hg (own_row_ne (h2.ke p hp) hT)⟩, h3⟩
theorem OwnW.far (h : OwnW w b0 vo vs l LL) {p : Addr} (hp : p.block < b0) (u : Value) : OwnW (w.setCell p u) b0 vo vs l LL := by
 obtain ⟨h1, KL, h2, h3⟩ := h
 exact ⟨pl_far h1 hp u, KL, h2.far hp u, h3⟩
theorem OwnW.cells (h : OwnW w b0 vo vs l LL) {g : Nat} (hg : g < b0) (o : Nat) (xs : List Value) : OwnW (w.setCells g o xs) b0 vo vs l LL := by
 obtain ⟨h1, KL, h2, h3⟩ := h
 exact ⟨owns_cells hg xs o w h1, KL, ⟨owns_cells hg xs o w h2.kr, fun p hp => owns_cells hg xs o w (h2.ke p hp)⟩, h3⟩
theorem OwnW.form (h : OwnW w b0 vo vs l LL) : ∃ oo n oc so m sc, vo = .slice oo n oc ∧ vs = .slice so m sc := by
 obtain ⟨h1, KL, h2, _⟩ := h
 obtain ⟨oo, oc, e1⟩ := own_form h1
 obtain ⟨so, sc, e2⟩ := own_form h2.kr
 exact ⟨oo, _, oc, so, _, sc, e1, e2⟩
end
section
variable {w0 w : World} {B b : Nat} {h : List TxnV}
theorem sdecide_own (lv : Int) (T F U : Nat) (hO : OrdIs w0 B b h) (ht : Tab w0) (hK : Kinds w0) (hc : checkI h = 0) (hb : Below w0.heap.size w0 w) (hT : w0.heap.size ≤ T) (hm : MtAt w T F U)
  (hM : (decN h lv).2.2 + 2 ≤ 1099511627776) (hU : F = 4611686018427387904 → U + (decN h lv).2.2 ≤ 4611686018427387904) (hl : Lasts F U (decN h lv).2.2) :
  Calls Tryz.prog 34 #[.pointer (some ⟨B, 0, none⟩), .int .i64 lv, .pointer (some ⟨T, 0, none⟩)] w fun e w' =>
   ∃ vo vs, e = .returned (.tuple #[.agg #[vo, vs], .bool (decW h lv).2.2, .int .i64 0]) ∧ OwnW w' w.heap.size vo vs (decW h lv).1 (decW h lv).2.1 ∧ MtAt w' T F (U + (decN h lv).2.2) ∧ w.grownBy w' (some T) := by
 refine (sdecide_any lv T F U hO ht hK hc hb hT hm hM hU).mono ?_
 rintro e w' ⟨hg, hr⟩
 rcases hr with ⟨_, hm', hr⟩ | ⟨hn, _⟩
 ·rcases hr with ⟨hd, rfl⟩ | ⟨r, vo, vs, hd, _, _, rfl, _, _, hW⟩
  ·refine ⟨_, _, by rw [decW_yes, hd]; rfl, ?_, hm', hg⟩
   unfold decW; rw [hd]; exact OwnW.nil _ _
  ·refine ⟨vo, vs, by rw [decW_yes, hd]; rfl, ?_, hm', hg⟩
   unfold decW; rw [hd]; exact hW
 ·exact (hn hl).elim
end
theorem results_vec {fn : Func} {p u : Tmp} (h : fn.results = #[.cell p 40, .tmp u]) (tmps : Array Value) (w : World) (g : Nat) (r : Nat → Bool) (ws : Nat → Value × Value)
  (hp : tmps.getD p undef = .pointer (some ⟨g, 0, none⟩)) (hg : VecAt w g r ws) : (results fn tmps).run Tryz.prog w = .ok (.tuple #[.agg (vecL r ws).toArray, tmps.getD u undef]) w := by
 have hp' : tmps[p]?.getD undef = .pointer (some ⟨g, 0, none⟩) := by simpa using hp
 simp [results, h, hp', asAddr, run_loadVar_mid w g 0 40 (vecL r ws) _ hg.all Tryz.underlying40 rfl (by kernel_rfl)]
end

section
open Go.RowKit
theorem sub_len : ∀ (l m : List Nat), l.Nodup → (∀ x ∈ l, x ∈ m) → l.length ≤ m.length
 | [], _, _, _ => Nat.zero_le _
 | a :: l, m, hd, hs => by
  have ha := hs a (List.mem_cons_self ..)
  have hd := List.nodup_cons.1 hd
  have := sub_len l (m.erase a) hd.2 fun x hx => (List.mem_erase_of_ne (fun e : x = a => hd.1 (by rw [← e]; exact hx))).2 (hs x (List.mem_cons_of_mem _ hx))
  rw [List.length_erase_of_mem ha] at this
  have hp := List.length_pos_of_mem ha
  simp only [List.length_cons]; omega
theorem least_not (R : List Nat) : ∀ n, (∀ i, i < n → i ∈ R) ∨ ∃ i, i < n ∧ i ∉ R ∧ ∀ j, j < i → j ∈ R
 | 0 => .inl fun i hi => by omega
 | n + 1 => by
  rcases least_not R n with q | ⟨i, hi, h1, h2⟩
  ·by_cases hn : n ∈ R
   ·exact .inl fun i hi => by
     rcases Nat.lt_or_ge i n with e | e
     ·exact q i e
     ·obtain rfl : i = n := by omega
      exact hn
   ·exact .inr ⟨n, by omega, hn, q⟩
  ·exact .inr ⟨i, by omega, h1, h2⟩
def firstTo (h : List TxnV) (R : List Nat) (k j : Nat) : Bool := (List.range j).all fun i => decide (i ∈ R) || !decide (sAt h i = sAt h k)
theorem firstTo_succ (h : List TxnV) (R : List Nat) (k j : Nat) : firstTo h R k (j + 1) = (firstTo h R k j && (decide (j ∈ R) || !decide (sAt h j = sAt h k))) := by
 unfold firstTo; rw [List.range_succ, List.all_append]; simp
def mayK (h : List TxnV) (R : List Nat) (k : Nat) : Bool := !decide (k ∈ R) && firstTo h R k k
def mayTo (h : List TxnV) (R : List Nat) (n : Nat) : List Nat := (List.range n).filter (mayK h R)
theorem mayTo_succ (h : List TxnV) (R : List Nat) (n : Nat) : mayTo h R (n + 1) = mayTo h R n ++ (if mayK h R n then [n] else []) := by
 unfold mayTo; rw [List.range_succ, List.filter_append]
 cases e : mayK h R n <;> simp [e]
theorem mayTo_len (h : List TxnV) (R : List Nat) (n : Nat) : (mayTo h R n).length ≤ n := by
 unfold mayTo; exact Nat.le_trans (List.length_filter_le _ _) (by simp)
structure Row9 (h : List TxnV) (R : List Nat) : Prop where
 nd : R.Nodup
 lt : ∀ i ∈ R, i < h.length
 ord : ∀ p (hp : p < R.length) j, j < R[p] → sAt h j = sAt h R[p] → j ∈ R.take p
section
variable {h : List TxnV} {R : List Nat}
theorem Row9.nil : Row9 h [] := ⟨List.nodup_nil, fun _ hi => (by cases hi), fun p hp => (by cases hp)⟩
theorem Row9.len (q : Row9 h R) : R.length ≤ h.length := by
 have := sub_len R (List.range h.length) q.nd fun i hi => List.mem_range.2 (q.lt i hi)
 simpa using this
theorem mem_may {n k : Nat} : k ∈ mayTo h R n ↔ k < n ∧ k ∉ R ∧ ∀ j, j < k → j ∈ R ∨ sAt h j ≠ sAt h k := by
 unfold mayTo mayK firstTo
 rw [List.mem_filter, List.mem_range]
 simp only [Bool.and_eq_true, Bool.not_eq_true', decide_eq_false_iff_not, List.all_eq_true, List.mem_range, Bool.or_eq_true, decide_eq_true_eq, ne_eq]
theorem Row9.snoc (q : Row9 h R) {k : Nat} (hk : k ∈ mayTo h R h.length) : Row9 h (R ++ [k]) := by
 obtain ⟨h1, h2, h3⟩ := mem_may.1 hk
 refine ⟨?_, fun i hi => ?_, fun p hp j hj hs => ?_⟩
 ·rw [List.nodup_append]
  exact ⟨q.nd, by simp, fun a ha b hb => by
   have e := List.mem_singleton.1 hb
   subst e
   exact fun e => h2 (e ▸ ha)⟩
 ·rcases List.mem_append.1 hi with hi | hi
  ·exact q.lt i hi
  ·rw [List.mem_singleton.1 hi]; exact h1
 ·rw [List.length_append, List.length_singleton] at hp
  by_cases e : p < R.length
  ·rw [List.getElem_append_left e] at hj hs
   rw [List.take_append_of_le_length (by omega)]
   exact q.ord p e j hj hs
  ·obtain rfl : p = R.length := by omega
   simp only [List.getElem_append_right (Nat.le_refl _), Nat.sub_self, List.getElem_singleton] at hj hs
   rw [List.take_append_of_le_length (by omega), List.take_length]
   rcases h3 j hj with h | h
   ·exact h
   ·exact absurd hs h
theorem may_pos (hl : R.length < h.length) : 0 < (mayTo h R h.length).length := by
 rcases least_not R h.length with hall | ⟨i, hi, h1, h2⟩
 ·have := sub_len (List.range h.length) R List.nodup_range fun x hx => hall x (List.mem_range.1 hx)
  rw [List.length_range] at this; omega
 ·exact List.length_pos_of_mem (mem_may.2 ⟨hi, h1, fun j hj => .inl (h2 j hj)⟩)
theorem Row9.mem (q : Row9 h R) (hl : R.length = h.length) {i : Nat} (hi : i < h.length) : i ∈ R := by
 by_cases e : i ∈ R
 ·exact e
 ·have := sub_len (i :: R) (List.range h.length) (List.nodup_cons.2 ⟨e, q.nd⟩) fun x hx => by
   rcases List.mem_cons.1 hx with rfl | hx
   ·exact List.mem_range.2 hi
   ·exact List.mem_range.2 (q.lt x hx)
  rw [List.length_cons, List.length_range] at this; omega
def gTo (h : List TxnV) (R : List Nat) : Nat → List TxnV
 | 0 => h
 | n + 1 => match R[n]? with
  | none => gTo h R n
  | some i => match h[i]? with
   | none => gTo h R n
   | some t => (gTo h R n).set i ⟨t.s, 2 * (n : Int), 2 * (n : Int) + 1, t.v, t.l⟩
theorem gTo_succ {n : Nat} (hn : n < R.length) (hi : R[n] < h.length) : gTo h R (n + 1) = (gTo h R n).set R[n] ⟨h[R[n]].s, 2 * (n : Int), 2 * (n : Int) + 1, h[R[n]].v, h[R[n]].l⟩ := by
 rw [gTo, List.getElem?_eq_getElem hn]
 simp only
 rw [List.getElem?_eq_getElem hi]
theorem gTo_len : ∀ n, (gTo h R n).length = h.length
 | 0 => rfl
 | n + 1 => by
  rw [gTo]
  split
  ·exact gTo_len n
  ·split
   ·exact gTo_len n
   ·rw [List.length_set]; exact gTo_len n
theorem gTo_at (q : Row9 h R) : ∀ n, n ≤ R.length → ∀ i (hi : i < h.length), (gTo h R n)[i]? = some (if whereN R i < n then ⟨h[i].s, 2 * (whereN R i : Int), 2 * (whereN R i : Int) + 1, h[i].v, h[i].l⟩ else h[i])
 | 0, _, i, hi => by rw [if_neg (by omega)]; exact List.getElem?_eq_getElem hi
 | n + 1, hn, i, hi => by
  have hlt : n < R.length := by omega
  have hr := q.lt _ (List.getElem_mem hlt)
  rw [gTo_succ hlt hr, List.getElem?_set, gTo_len]
  by_cases e : R[n] = i
  ·subst e
   rw [if_pos rfl, if_pos hi, whereN_at q.nd hlt, if_pos (by omega)]
  ·rw [if_neg e, gTo_at q n (by omega) i hi]
   have hw : whereN R i ≠ n := fun e2 => by
    have h1 : whereN R i < R.length := by omega
    have : R[whereN R i] = i := beq_iff_eq.1 (List.findIdx_getElem (p := fun x => x == i) (xs := R) (w := h1))
    simp only [e2] at this
    exact e this
   by_cases e2 : whereN R i < n
   ·rw [if_pos e2, if_pos (by omega)]
   ·rw [if_neg e2, if_neg (by omega)]
theorem gTo_all (q : Row9 h R) (hl : R.length = h.length) {i : Nat} (hi : i < h.length) : whereN R i < R.length ∧ R[whereN R i]? = some i ∧ (gTo h R R.length)[i]? = some ⟨h[i].s, 2 * (whereN R i : Int), 2 * (whereN R i : Int) + 1, h[i].v, h[i].l⟩ := by
 obtain ⟨p, hp, e⟩ := List.mem_iff_getElem.1 (q.mem hl hi)
 have hw : whereN R i = p := by rw [← e]; exact whereN_at q.nd hp
 refine ⟨by omega, by rw [hw, List.getElem?_eq_getElem hp, e], ?_⟩
 rw [gTo_at q _ (Nat.le_refl _) i hi, if_pos (by omega)]
theorem gTo_get (q : Row9 h R) (hl : R.length = h.length) {i : Nat} (hi : i < (gTo h R R.length).length) : ∃ hi' : i < h.length, (gTo h R R.length)[i] = ⟨h[i].s, 2 * (whereN R i : Int), 2 * (whereN R i : Int) + 1, h[i].v, h[i].l⟩ := by
 have hi' : i < h.length := by rw [gTo_len] at hi; exact hi
 refine ⟨hi', ?_⟩
 have := (gTo_all q hl hi').2.2
 rw [List.getElem?_eq_getElem hi] at this
 exact Option.some.inj this
theorem whereN_inj (q : Row9 h R) (hl : R.length = h.length) {i j : Nat} (hi : i < h.length) (hj : j < h.length) (e : whereN R i = whereN R j) : i = j := by
 have h1 := (gTo_all q hl hi).2.1
 rw [e, (gTo_all q hl hj).2.1] at h1
 exact (Option.some.inj h1).symm
theorem gTo_ren (q : Row9 h R) (hl : R.length = h.length) : Ren h (gTo h R R.length) id id id id := by
 refine ⟨gTo_len _, ⟨fun _ h => h, fun _ h => h, fun _ _ => rfl, fun _ _ => rfl⟩, fun j hj => ?_, fun _ _ _ _ e => e, fun _ _ _ _ e => e, rfl⟩
 show opsAt (gTo h R R.length) j = (opsAt h j).map (renO id id)
 rw [id_ren, opsAt_eq hj]
 unfold opsAt
 rw [(gTo_all q hl hj).2.2]; rfl
theorem gTo_check (hc : checkI h = 0) (q : Row9 h R) (hl : R.length = h.length) : checkI (gTo h R R.length) = 0 := by
 obtain ⟨hp, hv, hst, hse⟩ := check_rightB hc
 have h64 := (check_zero hc).1
 have hbc : ∀ t ∈ gTo h R R.length, t.b < t.c := fun t ht => by
  obtain ⟨j, hj, rfl⟩ := List.mem_iff_getElem.1 ht
  obtain ⟨hj', e⟩ := gTo_get q hl hj
  rw [e]; show (2 * (whereN R j : Int)) < 2 * (whereN R j : Int) + 1; omega
 refine (gTo_ren q hl).check hc ?_ ?_ ?_
 ·unfold partsB
  rw [List.all_eq_true]
  intro t ht
  obtain ⟨j, hj, rfl⟩ := List.mem_iff_getElem.1 ht
  obtain ⟨hj', e⟩ := gTo_get q hl hj
  have hw := (gTo_all q hl hj').1
  obtain ⟨m1, m2⟩ := may_at hp (List.getElem_mem hj')
  rw [e]
  simp only
  rw [mayT_yes ⟨m1.1, m1.2.1, by omega, by omega, by omega, m1.2.2.2.2.2.1, m1.2.2.2.2.2.2⟩]
  unfold allM
  rw [List.all_eq_true]; exact m2
 ·have hap : ∀ i j, ∀ hj : j < (gTo h R R.length).length, ∀ hi : i < j, Apart ((gTo h R R.length)[i]'(by omega)) (gTo h R R.length)[j] := by
   intro i j hj hi
   obtain ⟨hi', e1⟩ := gTo_get q hl (show i < (gTo h R R.length).length by omega)
   obtain ⟨hj', e2⟩ := gTo_get q hl hj
   have hne : whereN R i ≠ whereN R j := fun e => by have := whereN_inj q hl hi' hj' e; omega
   rw [e1, e2]
   refine ⟨?_, ?_, ?_, ?_⟩ <;> simp only <;> omega
  have := st_nodup hbc hap (gTo h R R.length).length (Nat.le_refl _)
  rw [List.take_length] at this
  exact decide_eq_true this
 ·refine ses_mk fun j hj i hi hs => ?_
  obtain ⟨hi', e1⟩ := gTo_get q hl (show i < (gTo h R R.length).length by omega)
  obtain ⟨hj', e2⟩ := gTo_get q hl hj
  rw [e1, e2] at hs ⊢
  simp only at hs ⊢
  obtain ⟨hw, hr, _⟩ := gTo_all q hl hj'
  rw [List.getElem?_eq_getElem hw] at hr
  have hr := Option.some.inj hr
  have hm := q.ord _ hw i (by rw [hr]; exact hi) (by rw [hr, sAt_eq hi', sAt_eq hj']; exact hs)
  obtain ⟨p, hp2, e⟩ := List.mem_take_iff_getElem.1 hm
  have : whereN R i = p := by rw [← e]; exact whereN_at q.nd (by omega)
  omega
theorem gTo_ok (hok : ∀ t ∈ h, t.ok) (hc : checkI h = 0) (q : Row9 h R) (hl : R.length = h.length) : ∀ t ∈ gTo h R R.length, t.ok := fun t ht => by
 have h64 := (check_zero hc).1
 obtain ⟨j, hj, rfl⟩ := List.mem_iff_getElem.1 ht
 obtain ⟨hj', e⟩ := gTo_get q hl hj
 have hw := (gTo_all q hl hj').1
 have hm := hok _ (List.getElem_mem hj')
 rw [e]
 exact ⟨⟨hm.1.1, by show IntOk (2 * (whereN R j : Int)); unfold IntOk; omega, by show IntOk (2 * (whereN R j : Int) + 1); unfold IntOk; omega⟩, hm.2⟩
theorem gTo_short (hsh : Short h) (q : Row9 h R) (hl : R.length = h.length) : Short (gTo h R R.length) := fun t ht => by
 obtain ⟨j, hj, rfl⟩ := List.mem_iff_getElem.1 ht
 obtain ⟨hj', e⟩ := gTo_get q hl hj
 rw [e]
 exact hsh h[j] (List.getElem_mem hj')
theorem no_time : ∀ l : Fin 8, (clI ((askN ((l.val : Nat) : Int) : Nat) : Int)).testBit 5 = false := by decide +kernel
theorem gTo_acc (hc : checkI h = 0) (q : Row9 h R) (hl : R.length = h.length) {l : Nat} (h8 : l < 8) : accV (gTo h R R.length) l = accV h l := by
 have hx := gTo_check hc q hl
 have hC : clI ((askN (l : Int) : Nat) : Int) < 9223372036854775808 := by have := clI_lt ((askN (l : Int) : Nat) : Int); omega
 have hs : ∀ i, i < h.length → sAt (gTo h R R.length) i = sAt h i := fun i hi => by
  unfold sAt
  rw [(gTo_all q hl hi).2.2, List.getElem?_eq_getElem hi]; rfl
 refine ((gTo_ren q hl).iso hc hx hC (fun _ i j hi hj => ?_) (fun e => ?_)).dec hc hx
 ·unfold sesP
  rw [hs i hi, hs j hj]; rfl
 ·have := no_time ⟨l, h8⟩
  simp only at this
  rw [e] at this; cases this
end
end

section
open Go.RowKit
theorem vec_zero : #[.bool false, .bool false, .bool false, .bool false, .bool false, .bool false, .bool false, .bool false, .bool false, .bool false, .bool false, .bool false, .slice none 0 0, .slice none 0 0, .slice none 0 0, .slice none 0 0, .slice none 0 0, .slice none 0 0, .slice none 0 0, .slice none 0 0, .slice none 0 0, .slice none 0 0, .slice none 0 0, .slice none 0 0, .slice none 0 0, .slice none 0 0, .slice none 0 0, .slice none 0 0, .slice none 0 0, .slice none 0 0, .slice none 0 0, .slice none 0 0, .slice none 0 0, .slice none 0 0, .slice none 0 0, .slice none 0 0] = (vecL noB wZ0).toArray := by kernel_rfl
theorem VecAt.zero (w : World) : VecAt (w.alloc (.cells #[.bool false, .bool false, .bool false, .bool false, .bool false, .bool false, .bool false, .bool false, .bool false, .bool false, .bool false, .bool false, .slice none 0 0, .slice none 0 0, .slice none 0 0, .slice none 0 0, .slice none 0 0, .slice none 0 0, .slice none 0 0, .slice none 0 0, .slice none 0 0, .slice none 0 0, .slice none 0 0, .slice none 0 0, .slice none 0 0, .slice none 0 0, .slice none 0 0, .slice none 0 0, .slice none 0 0, .slice none 0 0, .slice none 0 0, .slice none 0 0, .slice none 0 0, .slice none 0 0, .slice none 0 0, .slice none 0 0] 40)) w.heap.size noB wZ0 := by rw [vec_zero]; exact VecAt.made w _ noB wZ0
def VofRes (h : List TxnV) (F : Nat) (w : World) (e : Ending) (w' : World) : Prop :=
 Below w.heap.size w w' ∧ ((Lasts F 0 (vecTo h 12).2 ∧ ∃ ws, e = .returned (.tuple #[.agg (vecL (accV h) ws).toArray, .int .i64 0]) ∧ ∀ i, i < 12 → OwnW w' w.heap.size (ws i).1 (ws i).2 (decW h (i : Int)).1 (decW h (i : Int)).2.1) ∨
  (¬ Lasts F 0 (vecTo h 12).2 ∧ e = .returned (.tuple #[.agg (vecL noB wZ0).toArray, .int .i64 4])))
structure VecOn (h : List TxnV) (w : World) (g b0 k : Nat) (ws : Nat → Value × Value) (W : World) : Prop where
 at_ : VecAt W g (vecTo h k).1 ws
 own : ∀ i, i < 12 → OwnW W b0 (ws i).1 (ws i).2 (if i < k then (decW h (i : Int)).1 else []) (if i < k then (decW h (i : Int)).2.1 else [])
 bel : Below w.heap.size w W
section
variable {h : List TxnV} {w W W' : World} {g b0 k : Nat} {ws : Nat → Value × Value}
theorem VecOn.grown {T : Nat} (q : VecOn h w g b0 k ws W) (hg : W.grownBy W' (some T)) (hT : T < b0) (hgT : g ≠ T) (hw : w.heap.size ≤ T) : VecOn h w g b0 k ws W' :=
 ⟨q.at_.grown hg (fun e => hgT (Option.some.inj e)), fun i hi => (q.own i hi).kept hg hT, q.bel.grown hg q.bel.size (fun j hj => by cases hj; exact hw)⟩
theorem VecOn.below (q : VecOn h w g b0 k ws W) (hb : Below W.heap.size W W') : VecOn h w g b0 k ws W' := ⟨q.at_.below hb q.at_.lt, fun i hi => (q.own i hi).below hb, below_then q.bel hb⟩
theorem heap_three (w : World) (g k o : Nat) (a x y : Value) {j : Nat} (hj : j ≠ g) : ((w.setCell ⟨g, k, none⟩ a).setCells g o [x, y]).heap[j]? = w.heap[j]? := by
 have e : (w.setCell ⟨g, k, none⟩ a).setCells g o [x, y] = ((w.setCell ⟨g, k, none⟩ a).setCell ⟨g, o, none⟩ x).setCell ⟨g, o + 1, none⟩ y := rfl
 rw [e, Below.heap_setCell _ _ _ _ hj, Below.heap_setCell _ _ _ _ hj, Below.heap_setCell _ _ _ _ hj]
theorem VecAt.apart {r : Nat → Bool} (h : VecAt w g r ws) {g' : Nat} (hne : g ≠ g') (i o : Nat) (a x y : Value) : VecAt ((w.setCell ⟨g', i, none⟩ a).setCells g' o [x, y]) g r ws := fun j hj => by
 obtain ⟨h1, h2⟩ := h j hj
 have hb := heap_three w g' i o a x y hne
 exact ⟨by unfold World.cell? at *; rw [hb]; exact h1, by unfold World.frozen? at *; rw [hb]; exact h2⟩
theorem MtAt.apart {T F U : Nat} (h : MtAt w T F U) {g' : Nat} (hne : T ≠ g') (i o : Nat) (a x y : Value) : MtAt ((w.setCell ⟨g', i, none⟩ a).setCells g' o [x, y]) T F U := h.block (heap_three w g' i o a x y hne)
theorem VecOn.shut (q : VecOn h w g b0 k ws W) (hc : checkI h = 0) (ho : opn (vecTo h k).1 k = false) : VecOn h w g b0 (k + 1) ws W := by
 refine ⟨by rw [vecTo_shut ho]; exact q.at_, fun i hi => ?_, q.bel⟩
 have h1 := q.own i hi
 by_cases e : i < k
 ·rw [if_pos e] at h1; rw [if_pos e] at h1; rw [if_pos (show i < k + 1 by omega), if_pos (show i < k + 1 by omega)]; exact h1
 ·rw [if_neg e] at h1; rw [if_neg e] at h1
  by_cases e2 : i = k
  ·subst e2
   have hn := shut_no hc (r := (vecTo h i).1) (l := i) (fun j hj => by rw [vec_row hc, decide_eq_true hj, Bool.true_and]) ho
   obtain ⟨e3, e4⟩ := decW_none h (i : Int) hn
   rw [if_pos (show i < i + 1 by omega), if_pos (show i < i + 1 by omega), e3, e4]; exact h1
  ·rw [if_neg (show ¬ i < k + 1 by omega), if_neg (show ¬ i < k + 1 by omega)]; exact h1
theorem VecOn.more (q : VecOn h w g b0 k ws W) (hk : k < 12) (ho : opn (vecTo h k).1 k = true) (hgb : g < b0) (hgw : w.heap.size ≤ g) {vo vs : Value} (hW : OwnW W b0 vo vs (decW h (k : Int)).1 (decW h (k : Int)).2.1) :
  VecOn h w g b0 (k + 1) (updW ws k (vo, vs)) ((W.setCell ⟨g, k, none⟩ (.bool (decW h (k : Int)).2.2)).setCells g (12 + 2 * k) [vo, vs]) := by
 have hs : ∀ x y : Value, (W.setCells g (12 + 2 * k) [x, y]) = (W.setCell ⟨g, 12 + 2 * k, none⟩ x).setCell ⟨g, 12 + 2 * k + 1, none⟩ y := fun _ _ => rfl
 have ha := (q.at_.setR hk (decW h (k : Int)).2.2).setW hk vo vs
 have hf : ∀ {vo' vs' : Value} {l : List Int} {LL : List (List Int)}, OwnW W b0 vo' vs' l LL → OwnW ((W.setCell ⟨g, k, none⟩ (.bool (decW h (k : Int)).2.2)).setCells g (12 + 2 * k) [vo, vs]) b0 vo' vs' l LL := fun hq =>
  ((hq.far (p := ⟨g, k, none⟩) hgb _).far (p := ⟨g, 12 + 2 * k, none⟩) hgb vo).far (p := ⟨g, 12 + 2 * k + 1, none⟩) hgb vs
 refine ⟨by rw [vecTo_open ho]; exact ha, fun i hi => ?_, ?_⟩
 ·have h1 := q.own i hi
  unfold updW
  by_cases e2 : i = k
  ·subst e2
   rw [if_pos rfl, if_pos (show i < i + 1 by omega), if_pos (show i < i + 1 by omega)]
   exact hf hW
  ·rw [if_neg e2]
   by_cases e : i < k
   ·rw [if_pos e] at h1; rw [if_pos e] at h1; rw [if_pos (show i < k + 1 by omega), if_pos (show i < k + 1 by omega)]; exact hf h1
   ·rw [if_neg e] at h1; rw [if_neg e] at h1; rw [if_neg (show ¬ i < k + 1 by omega), if_neg (show ¬ i < k + 1 by omega)]; exact hf h1
 ·exact ((q.bel.setCell (p := ⟨g, k, none⟩) hgw _).setCell (p := ⟨g, 12 + 2 * k, none⟩) hgw vo).setCell (p := ⟨g, 12 + 2 * k + 1, none⟩) hgw vs
end
theorem vof_any {w0 w : World} {B b : Nat} {h : List TxnV} (much : Int) (F : Nat) (hF : fuelN much = F) (hO : OrdIs w0 B b h) (ht : Tab w0) (hK : Kinds w0) (hc : checkI h = 0) (hb : Below w0.heap.size w0 w) (hM : ∀ l : Nat, l < 12 → (decN h (l : Int)).2.2 + 2 ≤ 1099511627776) :
  Calls Tryz.prog 42 #[.pointer (some ⟨B, 0, none⟩), .int .i64 much] w fun e w' => VofRes h F w e w' := by
 have CN := hid (fun wx => fnew_any much wx)
 rw [hF] at CN
 have hw0 := hb.size
 have HB0 : Hid (∀ wx, Below w.heap.size w wx → Below w0.heap.size w0 wx) := hid (fun wx hx => hb.trans (hx.mono hb.size))
 have CO := hid (fun (r : Nat → Bool) (l : Nat) wx (hl : l ≤ 12) (hx : Below w.heap.size w wx) => vopen_any r l wx hl (hK.below (hb.trans (hx.mono hb.size))))
 have hbd : ∀ j, j ≤ 12 → (vecTo h j).2 ≤ j * 1099511627776 := vec_bound 1099511627776 (fun (l : Nat) hl => by have := hM l hl; omega)
 have CD := hid (fun (l : Nat) (T F : Nat) wx (hl : l < 12) (hx : Below w.heap.size w wx) (hT : w.heap.size ≤ T) hm (hla : Lasts F (vecTo h l).2 (decN h (l : Int)).2.2) => sdecide_own (w := wx) (l : Int) T F (vecTo h l).2 hO ht hK hc (hb.trans (hx.mono hb.size)) (Nat.le_trans hw0 hT) hm (hM l hl) (fun _ => by have h1 := hM l hl; have h2 := hbd l (by omega); have h3 : l * 1099511627776 ≤ 12 * 1099511627776 := Nat.mul_le_mul_right _ (by omega); omega) hla)
 have CZ := hid (fun (l : Nat) (T F : Nat) wx (hl : l < 12) (hx : Below w.heap.size w wx) (hT : w.heap.size ≤ T) hm (hla : ¬ Lasts F (vecTo h l).2 (decN h (l : Int)).2.2) => sdecide_no (w := wx) (l : Int) T F (vecTo h l).2 hO ht hK hc (hb.trans (hx.mono hb.size)) (Nat.le_trans hw0 hT) hm (hM l hl) hla)
 have HC := hid hc
 clear hO ht hK hc hb hM hbd hw0 hF
 go_enter Tryz.func42, Tryz.ntmps42
 go_upto_region 2 with fail
 have V1 := VecAt.zero w
 have V2 := VecAt.zero (w.alloc (.cells #[.bool false, .bool false, .bool false, .bool false, .bool false, .bool false, .bool false, .bool false, .bool false, .bool false, .bool false, .bool false, .slice none 0 0, .slice none 0 0, .slice none 0 0, .slice none 0 0, .slice none 0 0, .slice none 0 0, .slice none 0 0, .slice none 0 0, .slice none 0 0, .slice none 0 0, .slice none 0 0, .slice none 0 0, .slice none 0 0, .slice none 0 0, .slice none 0 0, .slice none 0 0, .slice none 0 0, .slice none 0 0, .slice none 0 0, .slice none 0 0, .slice none 0 0, .slice none 0 0, .slice none 0 0, .slice none 0 0] 40))
 have hs1 : (w.alloc (.cells #[.bool false, .bool false, .bool false, .bool false, .bool false, .bool false, .bool false, .bool false, .bool false, .bool false, .bool false, .bool false, .slice none 0 0, .slice none 0 0, .slice none 0 0, .slice none 0 0, .slice none 0 0, .slice none 0 0, .slice none 0 0, .slice none 0 0, .slice none 0 0, .slice none 0 0, .slice none 0 0, .slice none 0 0, .slice none 0 0, .slice none 0 0, .slice none 0 0, .slice none 0 0, .slice none 0 0, .slice none 0 0, .slice none 0 0, .slice none 0 0, .slice none 0 0, .slice none 0 0, .slice none 0 0, .slice none 0 0] 40)).heap.size = w.heap.size + 1 := by simp
 have hs2 : ((w.alloc (.cells #[.bool false, .bool false, .bool false, .bool false, .bool false, .bool false, .bool false, .bool false, .bool false, .bool false, .bool false, .bool false, .slice none 0 0, .slice none 0 0, .slice none 0 0, .slice none 0 0, .slice none 0 0, .slice none 0 0, .slice none 0 0, .slice none 0 0, .slice none 0 0, .slice none 0 0, .slice none 0 0, .slice none 0 0, .slice none 0 0, .slice none 0 0, .slice none 0 0, .slice none 0 0, .slice none 0 0, .slice none 0 0, .slice none 0 0, .slice none 0 0, .slice none 0 0, .slice none 0 0, .slice none 0 0, .slice none 0 0] 40)).alloc (.cells #[.bool false, .bool false, .bool false, .bool false, .bool false, .bool false, .bool false, .bool false, .bool false, .bool false, .bool false, .bool false, .slice none 0 0, .slice none 0 0, .slice none 0 0, .slice none 0 0, .slice none 0 0, .slice none 0 0, .slice none 0 0, .slice none 0 0, .slice none 0 0, .slice none 0 0, .slice none 0 0, .slice none 0 0, .slice none 0 0, .slice none 0 0, .slice none 0 0, .slice none 0 0, .slice none 0 0, .slice none 0 0, .slice none 0 0, .slice none 0 0, .slice none 0 0, .slice none 0 0, .slice none 0 0, .slice none 0 0] 40)).heap.size = w.heap.size + 1 + 1 := by simp
 rw [hs1] at V2
 have V1 := V1.below (box_below _ (.cells #[.bool false, .bool false, .bool false, .bool false, .bool false, .bool false, .bool false, .bool false, .bool false, .bool false, .bool false, .bool false, .slice none 0 0, .slice none 0 0, .slice none 0 0, .slice none 0 0, .slice none 0 0, .slice none 0 0, .slice none 0 0, .slice none 0 0, .slice none 0 0, .slice none 0 0, .slice none 0 0, .slice none 0 0, .slice none 0 0, .slice none 0 0, .slice none 0 0, .slice none 0 0, .slice none 0 0, .slice none 0 0, .slice none 0 0, .slice none 0 0, .slice none 0 0, .slice none 0 0, .slice none 0 0, .slice none 0 0] 40)) (by rw [hs1]; omega)
 have hb2 : Below w.heap.size w ((w.alloc (.cells #[.bool false, .bool false, .bool false, .bool false, .bool false, .bool false, .bool false, .bool false, .bool false, .bool false, .bool false, .bool false, .slice none 0 0, .slice none 0 0, .slice none 0 0, .slice none 0 0, .slice none 0 0, .slice none 0 0, .slice none 0 0, .slice none 0 0, .slice none 0 0, .slice none 0 0, .slice none 0 0, .slice none 0 0, .slice none 0 0, .slice none 0 0, .slice none 0 0, .slice none 0 0, .slice none 0 0, .slice none 0 0, .slice none 0 0, .slice none 0 0, .slice none 0 0, .slice none 0 0, .slice none 0 0, .slice none 0 0] 40)).alloc (.cells #[.bool false, .bool false, .bool false, .bool false, .bool false, .bool false, .bool false, .bool false, .bool false, .bool false, .bool false, .bool false, .slice none 0 0, .slice none 0 0, .slice none 0 0, .slice none 0 0, .slice none 0 0, .slice none 0 0, .slice none 0 0, .slice none 0 0, .slice none 0 0, .slice none 0 0, .slice none 0 0, .slice none 0 0, .slice none 0 0, .slice none 0 0, .slice none 0 0, .slice none 0 0, .slice none 0 0, .slice none 0 0, .slice none 0 0, .slice none 0 0, .slice none 0 0, .slice none 0 0, .slice none 0 0, .slice none 0 0] 40)) := below_then (box_below w (.cells #[.bool false, .bool false, .bool false, .bool false, .bool false, .bool false, .bool false, .bool false, .bool false, .bool false, .bool false, .bool false, .slice none 0 0, .slice none 0 0, .slice none 0 0, .slice none 0 0, .slice none 0 0, .slice none 0 0, .slice none 0 0, .slice none 0 0, .slice none 0 0, .slice none 0 0, .slice none 0 0, .slice none 0 0, .slice none 0 0, .slice none 0 0, .slice none 0 0, .slice none 0 0, .slice none 0 0, .slice none 0 0, .slice none 0 0, .slice none 0 0, .slice none 0 0, .slice none 0 0, .slice none 0 0, .slice none 0 0] 40)) (box_below _ (.cells #[.bool false, .bool false, .bool false, .bool false, .bool false, .bool false, .bool false, .bool false, .bool false, .bool false, .bool false, .bool false, .slice none 0 0, .slice none 0 0, .slice none 0 0, .slice none 0 0, .slice none 0 0, .slice none 0 0, .slice none 0 0, .slice none 0 0, .slice none 0 0, .slice none 0 0, .slice none 0 0, .slice none 0 0, .slice none 0 0, .slice none 0 0, .slice none 0 0, .slice none 0 0, .slice none 0 0, .slice none 0 0, .slice none 0 0, .slice none 0 0, .slice none 0 0, .slice none 0 0, .slice none 0 0, .slice none 0 0] 40))
 generalize (w.alloc (.cells #[.bool false, .bool false, .bool false, .bool false, .bool false, .bool false, .bool false, .bool false, .bool false, .bool false, .bool false, .bool false, .slice none 0 0, .slice none 0 0, .slice none 0 0, .slice none 0 0, .slice none 0 0, .slice none 0 0, .slice none 0 0, .slice none 0 0, .slice none 0 0, .slice none 0 0, .slice none 0 0, .slice none 0 0, .slice none 0 0, .slice none 0 0, .slice none 0 0, .slice none 0 0, .slice none 0 0, .slice none 0 0, .slice none 0 0, .slice none 0 0, .slice none 0 0, .slice none 0 0, .slice none 0 0, .slice none 0 0] 40)).alloc (.cells #[.bool false, .bool false, .bool false, .bool false, .bool false, .bool false, .bool false, .bool false, .bool false, .bool false, .bool false, .bool false, .slice none 0 0, .slice none 0 0, .slice none 0 0, .slice none 0 0, .slice none 0 0, .slice none 0 0, .slice none 0 0, .slice none 0 0, .slice none 0 0, .slice none 0 0, .slice none 0 0, .slice none 0 0, .slice none 0 0, .slice none 0 0, .slice none 0 0, .slice none 0 0, .slice none 0 0, .slice none 0 0, .slice none 0 0, .slice none 0 0, .slice none 0 0, .slice none 0 0, .slice none 0 0, .slice none 0 0] 40) = w2 at *
 clear hs1
 go_wp2_with fail
 refine (CN.out _).mono ?_
 rintro e w3 ⟨T, rfl, hm, hT, hb3⟩
 have hTl := hm.lt
 have q0 : VecOn h w (w.heap.size + 1) (T + 1) 0 wZ0 w3 := ⟨by rw [vecTo_zero]; exact V2.below hb3 (by omega), fun i _ => by rw [if_neg (by omega), if_neg (by omega)]; exact OwnW.nil _ _, below_then hb2 hb3⟩
 have V1 := V1.below hb3 (by omega)
 clear CN V2 hb2
 go_wp2_with fail
 go_loopw [14] (fun i wr => ∃ k : Nat, k ≤ 12 ∧ i = .int .i64 k ∧ ∃ ws, VecOn h w (w.heap.size + 1) (T + 1) k ws wr ∧ VecAt wr w.heap.size noB wZ0 ∧ MtAt wr T F (vecTo h k).2 ∧ Lasts F 0 (vecTo h k).2) (fun i _ => 12 - (intOf i).toNat)
 case atStart => exact ⟨0, by omega, rfl, wZ0, q0, V1, by rw [vecTo_zero]; exact hm, by
   rw [vecTo_zero]
   by_cases e : F = 4611686018427387904
   ·exact .inl e
   ·exact .inr (by omega)⟩
 case round =>
  obtain ⟨k, hk, rfl, ws, q, v1, hm, hla⟩ := hrel
  have hTl := hm.lt
  have hkq := q.at_.lt
  by_cases hlt : k < 12
  ·have hki : (k : Int) < 12 := by omega
   have hrow := q.at_.row
   have CO1 := hid (CO.out (vecTo h k).1 k wr (by omega) q.bel)
   cases ho : opn (vecTo h k).1 k with
   | false =>
    rw [ho] at CO1
    have HS := hid (q.shut HC.out ho)
    have HM : Hid (MtAt wr T F (vecTo h (k + 1)).2 ∧ Lasts F 0 (vecTo h (k + 1)).2) := hid (by rw [vecTo_shut ho]; exact ⟨hm, hla⟩)
    clear q hm hla ho CO CD CZ HC
    go_wp2_with (with_reducible refine wpList_load_mid rfl 33 _ rfl (w.heap.size + 1) 0 rfl (rowB (vecTo h k).1).toList _ hrow Tryz.underlying33 rfl (by kernel_rfl) ?_)
    refine CO1.out.mono ?_
    rintro e w4 ⟨rfl, h4⟩
    have HS4 := hid (HS.out.below h4)
    have HM4 := hid (HM.out.1.below h4 hTl)
    have v4 := v1.below h4 v1.lt
    have HLA := hid HM.out.2
    clear HS HM h4 v1 hrow CO1
    go_wp2_with fail
    go_roundw
    case rel => exact ⟨k + 1, by omega, by go_num, ws, HS4.out, v4, HM4.out, HLA.out⟩
    case measure => simp [intOf]; omega
   | true =>
    rw [ho] at CO1
    have HO := hid ho
    have Q := hid q
    have HM := hid hm
    have HLA := hid hla
    have HTT : Hid (w.heap.size ≤ T ∧ T ≠ w.heap.size + 1 ∧ T ≠ w.heap.size) := hid ⟨by omega, by omega, by omega⟩
    clear q hm hla ho
    go_wp2_with (with_reducible refine wpList_load_mid rfl 33 _ rfl (w.heap.size + 1) 0 rfl (rowB (vecTo h k).1).toList _ hrow Tryz.underlying33 rfl (by kernel_rfl) ?_)
    refine CO1.out.mono ?_
    rintro e w4 ⟨rfl, h4⟩
    have q4 := Q.out.below h4
    have hm4 := HM.out.below h4 hTl
    have v4 := v1.below h4 v1.lt
    clear hrow CO1 Q HM v1
    by_cases hl2 : Lasts F (vecTo h k).2 (decN h (k : Int)).2.2
    ·have CD1 := hid (CD.out k T F w4 hlt q4.bel HTT.out.1 hm4 hl2)
     have HL2 : Hid (Lasts F 0 (vecTo h (k + 1)).2) := hid (by
      rw [vecTo_open HO.out]
      rcases hl2 with e | e
      ·exact .inl e
      ·exact .inr (by show 0 + (_ + _) ≤ F; omega))
     have Q := hid q4
     have HT4 := hm4.lt
     clear q4 hm4 hl2 CO CD CZ HLA h4
     go_wp2_with fail
     refine CD1.out.mono ?_
     rintro e w5 ⟨vo, vs, rfl, hW, hm5, hg5⟩
     obtain ⟨oo, no, oc, so, ns, sc, rfl, rfl⟩ := hW.form
     have q5 := Q.out.grown hg5 (by omega) (by have := HTT.out.2.1; omega) HTT.out.1
     have v5 := v4.grown hg5 (fun e => by have := HTT.out.2.2; injection e; omega)
     have hW := hW.base (show T + 1 ≤ w4.heap.size by omega)
     have hbx := box_below w5 (.cells #[.slice oo no oc, .slice so ns sc] 37)
     have WT := WitT.made w5 (.slice oo no oc) (.slice so ns sc) 37
     have q6 := q5.below hbx
     have v6 := v5.below hbx v5.lt
     have hW := hW.below hbx
     have hm6 := hm5.below hbx hm5.lt
     have hs6 : (w5.alloc (.cells #[.slice oo no oc, .slice so ns sc] 37)).heap.size = w5.heap.size + 1 := by simp
     have hq5 := q5.at_.lt
     have hM6 : MtAt (w5.alloc (.cells #[.slice oo no oc, .slice so ns sc] 37)) T F (vecTo h (k + 1)).2 := by rw [vecTo_open HO.out]; exact hm6
     clear CD1 Q v4 hg5 hbx hm5 q5 v5 hm6
     go_upto_region 10 with fail
     generalize w5.alloc (.cells #[.slice oo no oc, .slice so ns sc] 37) = w6 at *
     generalize w5.heap.size = x5 at *
     have kd := (Below.refl w6.heap.size w6).drew
     have WT := WT.below kd
     have q7 := q6.below kd
     have v7 := v6.below kd v6.lt
     have hM7 := hM6.below kd hM6.lt
     have hW := hW.below kd
     have HQ := hid (q7.more hlt HO.out (by omega) (by omega) hW)
     have HV : Hid (VecAt w6.drew (w.heap.size + 1) (vecTo h k).1 ws) := hid q7.at_
     have HV7 := hid v7
     have HM7 := hid hM7
     have hd0 : decide ((k : Int) < 0) = false := decide_eq_false (by omega)
     have hd1 : decide ((12 : Int) ≤ (k : Int)) = false := decide_eq_false (by omega)
     have hd2 : decide (12 ≤ k) = false := decide_eq_false (by omega)
     clear hW q6 q7 v6 v7 hM6 hM7 kd
     refine wp_region_held_drew (S := fun wx => wx.cell? ⟨x5, 0, none⟩ = some (.slice oo no oc) ∧ wx.cell? ⟨x5, 1, none⟩ = some (.slice so ns sc)) (by kernel_rfl) ⟨WT.c0, WT.c1⟩ (fun hS0 => ?_)
     generalize w6.drew = wd at *
     refine tG (some 34) 0 ?vtv0x1 rfl rfl (Or.inl ⟨by rfl, ?htv0x1⟩) hS0 ?rtv0x1
     case htv0x1 => (intro w hw; obtain ⟨m0, m1⟩ := hw; go_simp; try (with_reducible rfl))
     try simp only [Act.put, zA, zB, zC]
     refine tG (some 35) 1 ?vtv1x2 rfl rfl (Or.inl ⟨by rfl, ?htv1x2⟩) hS0 ?rtv1x2
     case htv1x2 => (intro w hw; obtain ⟨m0, m1⟩ := hw; go_simp; try (with_reducible rfl))
     try simp only [Act.put, zA, zB, zC]
     refine tG (some 36) 2 ?vtv2x3 rfl rfl (Or.inl ⟨by rfl, ?htv2x3⟩) hS0 ?rtv2x3
     case htv2x3 => (intro w hw; obtain ⟨m0, m1⟩ := hw; go_simp; try (with_reducible rfl))
     try simp only [Act.put, zA, zB, zC]
     refine tG (some 37) 3 ?vtv3x4 rfl rfl (Or.inl ⟨by rfl, ?htv3x4⟩) hS0 ?rtv3x4
     case htv3x4 => (intro w hw; obtain ⟨m0, m1⟩ := hw; go_simp; try (with_reducible rfl))
     try simp only [Act.put, zA, zB, zC]
     refine tG (some 38) 4 ?vtv4x5 rfl rfl (Or.inl ⟨by rfl, ?htv4x5⟩) hS0 ?rtv4x5
     case htv4x5 => (intro w hw; obtain ⟨m0, m1⟩ := hw; go_simp; try (with_reducible rfl))
     try simp only [Act.put, zA, zB, zC]
     refine tG (some 39) 5 ?vtv5x6 rfl rfl (Or.inl ⟨by rfl, ?htv5x6⟩) hS0 ?rtv5x6
     case htv5x6 => (intro w hw; obtain ⟨m0, m1⟩ := hw; go_simp; try (with_reducible rfl))
     try simp only [Act.put, zA, zB, zC]
     refine tG (some 40) 7 ?vtv7x7 rfl rfl (Or.inl ⟨by rfl, ?htv7x7⟩) hS0 ?rtv7x7
     case htv7x7 => (intro w hw; obtain ⟨m0, m1⟩ := hw; go_simp; try (with_reducible rfl))
     try simp only [Act.put, zA, zB, zC]
     refine rD 6 rfl (fun K hK => ?_)
     have hc0 := (HV.out k (by omega)).1
     have hf0 := (HV.out k (by omega)).2
     go_simp
     have sA : (wd.setCell ⟨w.heap.size + 1, k, none⟩ (.bool (decW h (k : Int)).2.2)).cell? ⟨x5, 0, none⟩ = some (.slice oo no oc) ∧ (wd.setCell ⟨w.heap.size + 1, k, none⟩ (.bool (decW h (k : Int)).2.2)).cell? ⟨x5, 1, none⟩ = some (.slice so ns sc) := ⟨by rw [World.cell?_setCell_other _ _ _ _ (fun e => by injection e; omega)]; exact hS0.1, by rw [World.cell?_setCell_other _ _ _ _ (fun e => by injection e; omega)]; exact hS0.2⟩
     refine hK.out _ _ sA (fun _ => ?_)
     clear hK K hc0 hf0
     refine tG (some 41) 8 ?vtv8x9 rfl rfl (Or.inl ⟨by rfl, ?htv8x9⟩) sA ?rtv8x9
     case htv8x9 => (intro w hw; obtain ⟨m0, m1⟩ := hw; go_simp; try (with_reducible rfl))
     try simp only [Act.put, zA, zB, zC]
     refine rD 9 rfl (fun K hK => ?_)
     have hth : (wd.setCell ⟨w.heap.size + 1, k, none⟩ (.bool (decW h (k : Int)).2.2)).there (w.heap.size + 1) (12 + k * 2) 2 := fun j hj => by
      obtain ⟨q1, q2⟩ := (HV.out.setR hlt (decW h (k : Int)).2.2) (12 + k * 2 + j) (by omega)
      exact ⟨by rw [q1]; rfl, q2⟩
     refine wp_store_mid 37 _ _ rfl (w.heap.size + 1) (12 + k * 2) #[.slice oo no oc, .slice so ns sc] rfl rfl hth (by kernel_rfl) (by simp [Value.oneCell']) ?_
     have sB : ((wd.setCell ⟨w.heap.size + 1, k, none⟩ (.bool (decW h (k : Int)).2.2)).setCells (w.heap.size + 1) (12 + k * 2) [.slice oo no oc, .slice so ns sc]).cell? ⟨x5, 0, none⟩ = some (.slice oo no oc) ∧ ((wd.setCell ⟨w.heap.size + 1, k, none⟩ (.bool (decW h (k : Int)).2.2)).setCells (w.heap.size + 1) (12 + k * 2) [.slice oo no oc, .slice so ns sc]).cell? ⟨x5, 1, none⟩ = some (.slice so ns sc) := ⟨(World.cell?_setCells_out _ _ _ _ _ (fun hb _ => absurd hb (by show ¬ x5 = w.heap.size + 1; omega))).trans sA.1, (World.cell?_setCells_out _ _ _ _ _ (fun hb _ => absurd hb (by show ¬ x5 = w.heap.size + 1; omega))).trans sA.2⟩
     refine hK.out _ _ sB (fun _ => ?_)
     clear hK K hth
     refine wpAnyH_done (by kernel_rfl) ?_ _
     have h12 : 12 + k * 2 = 12 + 2 * k := by omega
     have HR : Hid (VecAt ((wd.setCell ⟨w.heap.size + 1, k, none⟩ (.bool (decW h (k : Int)).2.2)).setCells (w.heap.size + 1) (12 + k * 2) [.slice oo no oc, .slice so ns sc]) w.heap.size noB wZ0 ∧ MtAt ((wd.setCell ⟨w.heap.size + 1, k, none⟩ (.bool (decW h (k : Int)).2.2)).setCells (w.heap.size + 1) (12 + k * 2) [.slice oo no oc, .slice so ns sc]) T F (vecTo h (k + 1)).2) := hid ⟨HV7.out.apart (by omega) _ _ _ _ _, HM7.out.apart (by have := HTT.out.2.1; omega) _ _ _ _ _⟩
     rw [← h12] at HQ
     generalize (wd.setCell ⟨w.heap.size + 1, k, none⟩ (.bool (decW h (k : Int)).2.2)).setCells (w.heap.size + 1) (12 + k * 2) [.slice oo no oc, .slice so ns sc] = w8 at *
     go_wp2_with fail
     go_roundw
     case rel => exact ⟨k + 1, by omega, by go_num, _, HQ.out, HR.out.1, HR.out.2, HL2.out⟩
     case measure => simp [intOf]; omega
    ·have CZ1 := hid (CZ.out k T F w4 hlt q4.bel HTT.out.1 hm4 hl2)
     have HL2 : Hid (¬ Lasts F 0 (vecTo h 12).2) := hid (fun e => by
      have h1 := vecTo_cost h (i := k + 1) (j := 12) (by omega)
      rw [vecTo_open HO.out] at h1
      have h1 : (vecTo h k).2 + (decN h (k : Int)).2.2 ≤ (vecTo h 12).2 := h1
      rcases e with e | e
      ·exact hl2 (.inl e)
      ·exact hl2 (.inr (by omega)))
     have Q := hid q4
     clear q4 hm4 hl2 CO CD CZ HLA h4
     go_wp2_with fail
     refine CZ1.out.mono ?_
     rintro e w5 ⟨rfl, hm5, hg5, _⟩
     have q5 := Q.out.grown hg5 (by omega) (by have := HTT.out.2.1; omega) HTT.out.1
     have v5 := v4.grown hg5 (fun e => by have := HTT.out.2.2; injection e; omega)
     have hbx := box_below w5 (.cells #[.slice none 0 0, .slice none 0 0] 37)
     have HQB := hid (below_then q5.bel hbx)
     have v6 := v5.below hbx v5.lt
     clear CZ1 Q v4 hg5 hbx hm5 q5 v5
     go_upto_region 9 with fail
     generalize w5.alloc (.cells #[.slice none 0 0, .slice none 0 0] 37) = w6 at *
     have hth : w6.there w.heap.size 0 (#[.bool false, .bool false, .bool false, .bool false, .bool false, .bool false, .bool false, .bool false, .bool false, .bool false, .bool false, .bool false, .slice none 0 0, .slice none 0 0, .slice none 0 0, .slice none 0 0, .slice none 0 0, .slice none 0 0, .slice none 0 0, .slice none 0 0, .slice none 0 0, .slice none 0 0, .slice none 0 0, .slice none 0 0, .slice none 0 0, .slice none 0 0, .slice none 0 0, .slice none 0 0, .slice none 0 0, .slice none 0 0, .slice none 0 0, .slice none 0 0, .slice none 0 0, .slice none 0 0, .slice none 0 0, .slice none 0 0] : Array Value).size := v6.there (n := 36) (by omega)
     have hzl : vecL noB wZ0 = [.bool false, .bool false, .bool false, .bool false, .bool false, .bool false, .bool false, .bool false, .bool false, .bool false, .bool false, .bool false, .slice none 0 0, .slice none 0 0, .slice none 0 0, .slice none 0 0, .slice none 0 0, .slice none 0 0, .slice none 0 0, .slice none 0 0, .slice none 0 0, .slice none 0 0, .slice none 0 0, .slice none 0 0, .slice none 0 0, .slice none 0 0, .slice none 0 0, .slice none 0 0, .slice none 0 0, .slice none 0 0, .slice none 0 0, .slice none 0 0, .slice none 0 0, .slice none 0 0, .slice none 0 0, .slice none 0 0] := by kernel_rfl
     have HV9 := v6.put noB wZ0
     have HB9 : Below w.heap.size w (w6.setCells w.heap.size 0 (vecL noB wZ0)) := below_putC (Nat.le_refl _) _ _ _ HQB.out
     rw [hzl] at HV9 HB9
     have HV9 := hid HV9
     have HB9 := hid HB9
     have hone : (#[.bool false, .bool false, .bool false, .bool false, .bool false, .bool false, .bool false, .bool false, .bool false, .bool false, .bool false, .bool false, .slice none 0 0, .slice none 0 0, .slice none 0 0, .slice none 0 0, .slice none 0 0, .slice none 0 0, .slice none 0 0, .slice none 0 0, .slice none 0 0, .slice none 0 0, .slice none 0 0, .slice none 0 0, .slice none 0 0, .slice none 0 0, .slice none 0 0, .slice none 0 0, .slice none 0 0, .slice none 0 0, .slice none 0 0, .slice none 0 0, .slice none 0 0, .slice none 0 0, .slice none 0 0, .slice none 0 0] : Array Value).all (·.oneCell') = true := by simp [Value.oneCell']
     clear v6 hzl
     go_wp2_with (with_reducible refine wpList_store_mid rfl 40 _ _ rfl w.heap.size 0 #[.bool false, .bool false, .bool false, .bool false, .bool false, .bool false, .bool false, .bool false, .bool false, .bool false, .bool false, .bool false, .slice none 0 0, .slice none 0 0, .slice none 0 0, .slice none 0 0, .slice none 0 0, .slice none 0 0, .slice none 0 0, .slice none 0 0, .slice none 0 0, .slice none 0 0, .slice none 0 0, .slice none 0 0, .slice none 0 0, .slice none 0 0, .slice none 0 0, .slice none 0 0, .slice none 0 0, .slice none 0 0, .slice none 0 0, .slice none 0 0, .slice none 0 0, .slice none 0 0, .slice none 0 0, .slice none 0 0] rfl rfl hth (by kernel_rfl) hone ?_)
     exact bodyPost_ret (results_vec rfl _ _ _ noB wZ0 rfl HV9.out) rfl ⟨HB9.out, .inr ⟨HL2.out, rfl⟩⟩
  ·obtain rfl : k = 12 := by omega
   have hki : ¬ ((12 : Nat) : Int) < 12 := by omega
   have hall := q.at_.all
   have hth : wr.there w.heap.size 0 36 := v1.there (by omega)
   have HV9 := hid (v1.put (vecTo h 12).1 ws)
   have HB9 : Hid (Below w.heap.size w (wr.setCells w.heap.size 0 (vecL (vecTo h 12).1 ws))) := hid (below_putC (Nat.le_refl _) _ _ _ q.bel)
   have HO9 : Hid (∀ i, i < 12 → OwnW (wr.setCells w.heap.size 0 (vecL (vecTo h 12).1 ws)) w.heap.size (ws i).1 (ws i).2 (decW h (i : Int)).1 (decW h (i : Int)).2.1) := hid (fun i hi => by
    have h1 := q.own i hi
    rw [if_pos hi] at h1; rw [if_pos hi] at h1
    exact (h1.cells (g := w.heap.size) (by omega) 0 _).base (by omega))
   have HE9 : Hid (vecL (accV h) ws = vecL (vecTo h 12).1 ws) := hid (vecL_congr fun i hi => by rw [vec_row HC.out, decide_eq_true hi, Bool.true_and]; rfl)
   have hone : (vecL (vecTo h 12).1 ws).toArray.all (·.oneCell') = true := vecL_one fun i hi => by obtain ⟨_, _, _, _, _, _, e1, e2⟩ := (q.own i hi).form; rw [e1, e2]; exact ⟨rfl, rfl⟩
   have hth2 : wr.there w.heap.size 0 (vecL (vecTo h 12).1 ws).toArray.size := by rw [show (vecL (vecTo h 12).1 ws).toArray.size = 36 from vecL_len _ _]; exact hth
   have hinf : (Tryz.prog.info? 40).map (·.size) = some (vecL (vecTo h 12).1 ws).toArray.size := by rw [show (vecL (vecTo h 12).1 ws).toArray.size = 36 from vecL_len _ _]; kernel_rfl
   have hinf2 : (Tryz.prog.info? 40).map (·.size) = some (vecL (vecTo h 12).1 ws).length := by rw [vecL_len]; kernel_rfl
   go_wp2_with (first
    | (with_reducible refine wpList_load_mid rfl 40 _ rfl (w.heap.size + 1) 0 rfl (vecL (vecTo h 12).1 ws) _ hall Tryz.underlying40 rfl hinf2 ?_)
    | (with_reducible refine wpList_store_mid rfl 40 _ _ rfl w.heap.size 0 (vecL (vecTo h 12).1 ws).toArray rfl rfl hth2 hinf hone ?_))
   refine bodyPost_ret (results_vec rfl _ _ _ (vecTo h 12).1 ws rfl HV9.out) rfl ⟨HB9.out, .inl ⟨hla, ws, ?_, HO9.out⟩⟩
   rw [HE9.out]; rfl
end

section
open Go.RowKit
theorem below_app0 {B B' : Nat} {W wr w1 : World} {o : Obj} {e : TypeId} {n size : Nat} {v : Value} {xs : List Value} (hb : Below B W wr) (hB : B ≤ W.heap.size) (hown : wr.ownsRow B' e size v n xs) (hBB : B ≤ B')
  (hg : (wr.alloc o).grownBy w1 v.ownBlock) : Below B W w1 :=
 (hb.alloc (Nat.le_trans hB hb.size) o).grown hg (by have := hb.size; simp; omega) fun k hk => Nat.le_trans hBB (hown.lt k hk).1
def natV (l : List Nat) : List Value := l.map fun i : Nat => Value.int .i64 (i : Int)
theorem infoIntL : (Tryz.prog.info? 3).map (fun i => (i.zero, i.size, i.bytes)) = some (some (.int .i64 0), 1, 8) := by kernel_rfl
end

section
open Go.RowKit
section
variable {h : List TxnV}
end
theorem fuel_most : fuelN 4611686018427387904 = 4611686018427387904 := by decide +kernel
theorem info_vec (r : Nat → Bool) (ws : Nat → Value × Value) : (Tryz.prog.info? 40).map (·.size) = some (vecL r ws).length := by rw [vecL_len]; kernel_rfl
theorem info_vecA (r : Nat → Bool) (ws : Nat → Value × Value) : (Tryz.prog.info? 40).map (·.size) = some (vecL r ws).toArray.size := by rw [show (vecL r ws).toArray.size = 36 from vecL_len _ _]; kernel_rfl
theorem results_vec3 {fn : Func} {p u v : Tmp} (h : fn.results = #[.tmp u, .cell p 40, .tmp v]) (tmps : Array Value) (w : World) (g : Nat) (r : Nat → Bool) (ws : Nat → Value × Value)
  (hp : tmps.getD p undef = .pointer (some ⟨g, 0, none⟩)) (hg : VecAt w g r ws) : (results fn tmps).run Tryz.prog w = .ok (.tuple #[tmps.getD u undef, .agg (vecL r ws).toArray, tmps.getD v undef]) w := by
 have hp' : tmps[p]?.getD undef = .pointer (some ⟨g, 0, none⟩) := by simpa using hp
 simp [results, h, hp', asAddr, run_loadVar_mid w g 0 40 (vecL r ws) _ hg.all Tryz.underlying40 rfl (info_vec r ws)]
theorem vec_put (w : World) (r : Nat → Bool) (ws : Nat → Value × Value) : VecAt ((w.alloc (.cells #[.bool false, .bool false, .bool false, .bool false, .bool false, .bool false, .bool false, .bool false, .bool false, .bool false, .bool false, .bool false, .slice none 0 0, .slice none 0 0, .slice none 0 0, .slice none 0 0, .slice none 0 0, .slice none 0 0, .slice none 0 0, .slice none 0 0, .slice none 0 0, .slice none 0 0, .slice none 0 0, .slice none 0 0, .slice none 0 0, .slice none 0 0, .slice none 0 0, .slice none 0 0, .slice none 0 0, .slice none 0 0, .slice none 0 0, .slice none 0 0, .slice none 0 0, .slice none 0 0, .slice none 0 0, .slice none 0 0] 40)).setCells w.heap.size 0 (vecL r ws)) w.heap.size r ws ∧ Below w.heap.size w ((w.alloc (.cells #[.bool false, .bool false, .bool false, .bool false, .bool false, .bool false, .bool false, .bool false, .bool false, .bool false, .bool false, .bool false, .slice none 0 0, .slice none 0 0, .slice none 0 0, .slice none 0 0, .slice none 0 0, .slice none 0 0, .slice none 0 0, .slice none 0 0, .slice none 0 0, .slice none 0 0, .slice none 0 0, .slice none 0 0, .slice none 0 0, .slice none 0 0, .slice none 0 0, .slice none 0 0, .slice none 0 0, .slice none 0 0, .slice none 0 0, .slice none 0 0, .slice none 0 0, .slice none 0 0, .slice none 0 0, .slice none 0 0] 40)).setCells w.heap.size 0 (vecL r ws)) ∧ (w.alloc (.cells #[.bool false, .bool false, .bool false, .bool false, .bool false, .bool false, .bool false, .bool false, .bool false, .bool false, .bool false, .bool false, .slice none 0 0, .slice none 0 0, .slice none 0 0, .slice none 0 0, .slice none 0 0, .slice none 0 0, .slice none 0 0, .slice none 0 0, .slice none 0 0, .slice none 0 0, .slice none 0 0, .slice none 0 0, .slice none 0 0, .slice none 0 0, .slice none 0 0, .slice none 0 0, .slice none 0 0, .slice none 0 0, .slice none 0 0, .slice none 0 0, .slice none 0 0, .slice none 0 0, .slice none 0 0, .slice none 0 0] 40)).there w.heap.size 0 (vecL r ws).toArray.size :=
 ⟨(VecAt.zero w).put r ws, below_putC (Nat.le_refl _) _ _ _ (box_below w _), by rw [show (vecL r ws).toArray.size = 36 from vecL_len _ _]; exact (VecAt.zero w).there (by omega)⟩
def WitsIn (h : List TxnV) (ws : Nat → Value × Value) (b0 : Nat) (w : World) : Prop := ∀ i, i < 12 → OwnW w b0 (ws i).1 (ws i).2 (decW h (i : Int)).1 (decW h (i : Int)).2.1
section
variable {h : List TxnV} {ws : Nat → Value × Value} {b0 : Nat} {w w' : World}
theorem WitsIn.below (q : WitsIn h ws b0 w) (hb : Below w.heap.size w w') : WitsIn h ws b0 w' := fun i hi => (q i hi).below hb
theorem WitsIn.cells (q : WitsIn h ws b0 w) {g : Nat} (hg : g < b0) (o : Nat) (vs : List Value) : WitsIn h ws b0 (w.setCells g o vs) := fun i hi => (q i hi).cells hg o vs
theorem WitsIn.base (q : WitsIn h ws b0 w) {b1 : Nat} (hb : b1 ≤ b0) : WitsIn h ws b1 w := fun i hi => (q i hi).base hb
theorem WitsIn.one (q : WitsIn h ws b0 w) (r : Nat → Bool) : (vecL r ws).toArray.all (·.oneCell') = true := vecL_one fun i hi => by
 obtain ⟨_, _, _, _, _, _, e1, e2⟩ := (q i hi).form
 rw [e1, e2]; exact ⟨rfl, rfl⟩
end
theorem map_cells {α : Type} {e : α → Value} {P : Program} {k : TypeId} {w : World} {b n : Nat} {f : Int → Option α} {c g : Nat} (h : MapI e P k w b n f c) {v : Value} (hc : w.cell? ⟨g, 0, none⟩ = some v) : b ≠ g := by
 rintro rfl
 obtain ⟨D, ⟨es, clock, hh, _⟩, _⟩ := h
 unfold World.cell? at hc
 simp [hh] at hc
theorem OrdIs.apart {w : World} {B b : Nat} {h : List TxnV} (hO : OrdIs w B b h) {g : Nat} (hg : g < B) (hgb : g < b) {v : Value} (hc : w.cell? ⟨g, 0, none⟩ = some v) (o : Nat) (vs : List Value) : OrdIs (w.setCells g o vs) B b h := by
 obtain ⟨bm, m, c, vk, vr, K, R, h1, h2, h3, h4, h5, h6⟩ := hO
 refine ⟨bm, m, c, vk, vr, K, R, fun i hi => ?_, MapI.cells (map_cells h2 hc) vs o w h2, h3, h4.cells hgb o vs, h5, h6⟩
 rw [World.frozen?_setCells, cell_put (p := ⟨B, i, none⟩) (by show B ≠ g; omega)]
 exact h1 i hi
theorem vof_ok {w0 w : World} {B b : Nat} {h : List TxnV} (much : Int) (F : Nat) (hF : fuelN much = F) (hO : OrdIs w0 B b h) (ht : Tab w0) (hK : Kinds w0) (hc : checkI h = 0) (hb : Below w0.heap.size w0 w) (hM : ∀ l : Nat, l < 12 → (decN h (l : Int)).2.2 + 2 ≤ 1099511627776) (hl : Lasts F 0 (vecTo h 12).2) :
  Calls Tryz.prog 42 #[.pointer (some ⟨B, 0, none⟩), .int .i64 much] w fun e w' => (∃ ws, e = .returned (.tuple #[.agg (vecL (accV h) ws).toArray, .int .i64 0]) ∧ WitsIn h ws w.heap.size w') ∧ Below w.heap.size w w' := by
 refine (vof_any much F hF hO ht hK hc hb hM).mono ?_
 rintro e w' ⟨hb', ⟨_, ws, rfl, hw⟩ | ⟨hn, _⟩⟩
 ·exact ⟨⟨ws, rfl, hw⟩, hb'⟩
 ·exact (hn hl).elim
theorem vec_few {h : List TxnV} (hn : h.length ≤ 7) : ∀ l : Nat, l < 12 → (decN h (l : Int)).2.2 + 2 ≤ 1099511627776 := fun l _ => by
 have h1 := dec_tries h (l : Int)
 have h2 := tr_le h.length hn
 omega
theorem lawof_any (va : Value) (h : List TxnV) (w : World) (hT : Txns w va h) (hok : ∀ t ∈ h, t.ok) (hsh : Short h) (hc : checkI h = 0) (ht : Tab w) (hK : Kinds w) (hM : ∀ l : Nat, l < 12 → (decN h (l : Int)).2.2 + 2 ≤ 1099511627776) :
  Calls Tryz.prog 14 #[va] w fun e w' => (∃ B ws, e = .returned (.tuple #[.pointer (some ⟨B, 0, none⟩), .agg (vecL (accV h) ws).toArray, .bool true]) ∧ OrdIs w' B (B + 2) h ∧ WitsIn h ws w.heap.size w') ∧ Below w.heap.size w w' := by
 have hg := ht.pos
 have V3 := VecAt.zero w
 have hb1 := box_below w (.cells #[.bool false, .bool false, .bool false, .bool false, .bool false, .bool false, .bool false, .bool false, .bool false, .bool false, .bool false, .bool false, .slice none 0 0, .slice none 0 0, .slice none 0 0, .slice none 0 0, .slice none 0 0, .slice none 0 0, .slice none 0 0, .slice none 0 0, .slice none 0 0, .slice none 0 0, .slice none 0 0, .slice none 0 0, .slice none 0 0, .slice none 0 0, .slice none 0 0, .slice none 0 0, .slice none 0 0, .slice none 0 0, .slice none 0 0, .slice none 0 0, .slice none 0 0, .slice none 0 0, .slice none 0 0, .slice none 0 0] 40)
 have CO := hid (of_done va h _ (hT.below hb1) hok hsh hc)
 have HT : Hid (∀ wx, Below w.heap.size w wx → Tab wx ∧ Kinds wx) := hid (fun wx hb => ⟨ht.below hb hg, hK.below hb⟩)
 have hs1 : (w.alloc (.cells #[.bool false, .bool false, .bool false, .bool false, .bool false, .bool false, .bool false, .bool false, .bool false, .bool false, .bool false, .bool false, .slice none 0 0, .slice none 0 0, .slice none 0 0, .slice none 0 0, .slice none 0 0, .slice none 0 0, .slice none 0 0, .slice none 0 0, .slice none 0 0, .slice none 0 0, .slice none 0 0, .slice none 0 0, .slice none 0 0, .slice none 0 0, .slice none 0 0, .slice none 0 0, .slice none 0 0, .slice none 0 0, .slice none 0 0, .slice none 0 0, .slice none 0 0, .slice none 0 0, .slice none 0 0, .slice none 0 0] 40)).heap.size = w.heap.size + 1 := by simp
 have HC := hid hc
 have HM := hid hM
 clear hT hok hsh hc ht hK hM
 go_enter Tryz.func14, Tryz.ntmps14
 go_upto_region 1 with fail
 generalize w.alloc (.cells #[.bool false, .bool false, .bool false, .bool false, .bool false, .bool false, .bool false, .bool false, .bool false, .bool false, .bool false, .bool false, .slice none 0 0, .slice none 0 0, .slice none 0 0, .slice none 0 0, .slice none 0 0, .slice none 0 0, .slice none 0 0, .slice none 0 0, .slice none 0 0, .slice none 0 0, .slice none 0 0, .slice none 0 0, .slice none 0 0, .slice none 0 0, .slice none 0 0, .slice none 0 0, .slice none 0 0, .slice none 0 0, .slice none 0 0, .slice none 0 0, .slice none 0 0, .slice none 0 0, .slice none 0 0, .slice none 0 0] 40) = w1 at *
 go_wp2_with fail
 refine CO.out.mono ?_
 rintro e w2 ⟨⟨B, rfl, hB, hO⟩, h2⟩
 have hb2 := below_then hb1 h2
 have h12 := h2.size
 have V3 := V3.below h2 V3.lt
 have hTK := HT.out _ hb2
 have CV := hid (vof_ok (w := w2) 4611686018427387904 4611686018427387904 fuel_most hO hTK.1 hTK.2 HC.out (Below.refl _ _) HM.out (.inl rfl))
 have HO := hid (fun wx (hx : Below w2.heap.size w2 wx) => hO.below hx)
 clear CO hO h2 hTK hb1
 go_wp2_with fail
 refine CV.out.mono ?_
 rintro e w3 ⟨⟨ws, rfl, hW⟩, h3⟩
 obtain ⟨V7, hb7, hth⟩ := vec_put w3 (accV h) ws
 have hone := hW.one (accV h)
 have hinf := info_vecA (accV h) ws
 have h27 := below_then h3 hb7
 have HO7 := hid (HO.out _ h27)
 have W7 := hW.below hb7
 have V3 := V3.below h3 V3.lt
 have hne := V3.lt
 have V3 := V3.below hb7 V3.lt
 have hbW := below_then hb2 h27
 clear CV h3 h27 hb2 hW HO
 go_upto_region 5 with (first | (with_reducible refine wpList_store_mid rfl 40 _ _ rfl w3.heap.size 0 (vecL (accV h) ws).toArray rfl rfl hth hinf hone ?_))
 generalize (w3.alloc (.cells #[.bool false, .bool false, .bool false, .bool false, .bool false, .bool false, .bool false, .bool false, .bool false, .bool false, .bool false, .bool false, .slice none 0 0, .slice none 0 0, .slice none 0 0, .slice none 0 0, .slice none 0 0, .slice none 0 0, .slice none 0 0, .slice none 0 0, .slice none 0 0, .slice none 0 0, .slice none 0 0, .slice none 0 0, .slice none 0 0, .slice none 0 0, .slice none 0 0, .slice none 0 0, .slice none 0 0, .slice none 0 0, .slice none 0 0, .slice none 0 0, .slice none 0 0, .slice none 0 0, .slice none 0 0, .slice none 0 0] 40)).setCells w3.heap.size 0 (vecL (accV h) ws) = w7 at *
 generalize w3.heap.size = g7 at *
 have kd := (Below.refl w7.heap.size w7).drew
 have V7 := hid (V7.below kd V7.lt)
 have HO7 := hid (HO7.out.below kd)
 have W7 := W7.below kd
 have HV3 := hid (V3.below kd V3.lt)
 have hbW := below_then hbW kd
 have hinf2 := info_vec (accV h) ws
 clear V3 kd hth
 refine wp_region_held_drew (S := fun wx => wx.rangeAt g7 0 (vecL (accV h) ws)) (by kernel_rfl) V7.out.all (fun hS0 => ?_)
 generalize w7.drew = wd at *
 refine tG (some 25) 0 ?vtg0x1 rfl rfl (Or.inl ⟨by rfl, ?htg0x1⟩) hS0 ?rtg0x1
 case htg0x1 => (intro w hw; go_simp; try (with_reducible rfl))
 try simp only [Act.put, zA, zB, zC]
 refine tG (some 26) 1 _ rfl rfl (yieldsIf_load_mid (by rfl) 40 _ rfl g7 0 rfl (vecL (accV h) ws) _ (fun _ hw => hw) Tryz.underlying40 rfl hinf2) hS0 ?_
 try simp only [Act.put, zA, zB, zC]
 refine tG (some 27) 2 ?vtg2x3 rfl rfl (Or.inl ⟨by rfl, ?htg2x3⟩) hS0 ?rtg2x3
 case htg2x3 => (intro w hw; go_simp; try (with_reducible rfl))
 try simp only [Act.put, zA, zB, zC]
 refine tG (some 28) 3 ?vtg3x4 rfl rfl (Or.inl ⟨by rfl, ?htg3x4⟩) hS0 ?rtg3x4
 case htg3x4 => (intro w hw; go_simp; try (with_reducible rfl))
 try simp only [Act.put, zA, zB, zC]
 refine tG (some 2) 4 ?vtg4x5 rfl rfl (Or.inl ⟨by rfl, ?htg4x5⟩) hS0 ?rtg4x5
 case htg4x5 => (intro w hw; go_simp; try (with_reducible rfl))
 try simp only [Act.put, zA, zB, zC]
 refine rD 5 rfl (fun K hK => ?_)
 have hth := HV3.out.there (o := 0) (n := 36) (by omega)
 rw [show 36 = (vecL (accV h) ws).toArray.size from (vecL_len _ _).symm] at hth
 refine wp_store_mid 40 _ _ rfl w.heap.size 0 (vecL (accV h) ws).toArray rfl rfl hth hinf hone ?_
 have sB : (wd.setCells w.heap.size 0 (vecL (accV h) ws)).rangeAt g7 0 (vecL (accV h) ws) := World.rangeAt_setCells_apart hS0 _ _ _ (.inl (by omega))
 refine hK.out _ _ sB (fun _ => ?_)
 clear hK K hth
 refine tG (some 4) 6 ?vtg6x7 rfl rfl (Or.inl ⟨by rfl, ?htg6x7⟩) sB ?rtg6x7
 case htg6x7 => (intro w hw; go_simp; try (with_reducible rfl))
 try simp only [Act.put, List.setIfInBounds_toArray]
 refine wpAnyH_done (by kernel_rfl) ?_ _
 have HV9 := hid (HV3.out.put (accV h) ws)
 have HF : Hid (OrdIs (wd.setCells w.heap.size 0 (vecL (accV h) ws)) B (B + 2) h ∧ WitsIn h ws w.heap.size (wd.setCells w.heap.size 0 (vecL (accV h) ws)) ∧ Below w.heap.size w (wd.setCells w.heap.size 0 (vecL (accV h) ws))) := hid ⟨HO7.out.apart (by omega) (by omega) (HV3.out 0 (by omega)).1 0 _, (W7.cells (by omega) 0 _).base (by omega), below_putC (Nat.le_refl _) _ _ _ hbW⟩
 go_wp2_with fail
 refine bodyPost_ret (results_vec3 rfl _ _ _ (accV h) ws rfl HV9.out) rfl ⟨⟨B, ws, rfl, HF.out.1, HF.out.2.1⟩, HF.out.2.2⟩
end

section
open Go.RowKit
theorem infoTxn : (Tryz.prog.info? 59).map (fun i => (i.zero, i.size, i.bytes)) = some (some (.agg #[.int .i64 0, .int .i64 0, .int .i64 0, .slice none 0 0]), 4, 48) := by kernel_rfl
def OwnT (w : World) (base : Nat) (v : Value) (h : List TxnV) : Prop := w.ownsRow base 59 4 v h.length (txV h)
theorem txV_one {w : World} {v : Value} {h : List TxnV} (hT : Txns w v h) : ∀ u ∈ txV h, u.oneCell' = true := by
 intro u hu
 unfold txV at hu
 rw [List.mem_flatMap] at hu
 obtain ⟨t, ht, hu⟩ := hu
 obtain ⟨a, c, hv, _⟩ := (hT.2 t ht).form
 simp at hu
 rcases hu with rfl | rfl | rfl | rfl
 ·rfl
 ·rfl
 ·rfl
 ·rw [hv]; rfl
theorem OwnT.row {w : World} {base : Nat} {v : Value} {h : List TxnV} (hO : OwnT w base v h) : Row w v h.length 4 (txV h) := Row.of_owns hO
end

section
open Go.RowKit
theorem OwnT.setCell {w : World} {base g cap : Nat} {h h' : List TxnV} {j : Nat} {u : Value} (hO : OwnT w base (.slice (some ⟨g, 0, none⟩) h.length cap) h) (hl : h'.length = h.length) (hh : txV h' = (txV h).set j u) :
  OwnT (w.setCell ⟨g, j, none⟩ u) base (.slice (some ⟨g, 0, none⟩) h'.length cap) h' := by
 obtain ⟨h1, h2⟩ := hO
 rcases h2 with ⟨h2, _⟩ | ⟨g', cap', cur, e1, e2, hb, e3, e4, e5, e6⟩
 ·cases h2
 cases e1
 refine ⟨by rw [txV_len], .inr ⟨g, cap, cur.setIfInBounds j u, rfl, e2, ?_, by rw [hl]; exact e3, e4, by simpa using e5, ?_⟩⟩
 ·rw [Sort.setCell_eq]
  simp [Sort.mapBlock, Array.getElem?_modify, hb, Sort.onCells]
 ·rw [hl, Array.toList_setIfInBounds, List.take_set, e6, hh]
theorem OwnT.at {w : World} {base g cap : Nat} {h : List TxnV} (hO : OwnT w base (.slice (some ⟨g, 0, none⟩) h.length cap) h) {j : Nat} (hj : j < h.length * 4) :
  w.cell? ⟨g, j, none⟩ = (txV h)[j]? ∧ w.frozen? ⟨g, j, none⟩ = false := by
 constructor
 ·obtain ⟨_, ao, cap', e, _, _, hc⟩ := hO.row
  cases e
  obtain ⟨b, off, e, hcell⟩ := hc (by omega)
  cases e
  have := hcell j hj
  simpa using this
 ·obtain ⟨h1, h2⟩ := hO
  rcases h2 with ⟨h2, _⟩ | ⟨g', cap', cur, e1, e2, hb, _⟩
  ·cases h2
  cases e1
  simp [World.frozen?, hb]
theorem OwnT.split {w : World} {base : Nat} {v : Value} {h : List TxnV} (hO : OwnT w base v h) : (v = .slice none 0 0 ∧ h = []) ∨ ∃ g cap, v = .slice (some ⟨g, 0, none⟩) h.length cap ∧ base ≤ g := by
 obtain ⟨_, h2⟩ := hO
 rcases h2 with ⟨e1, e2⟩ | ⟨g, cap, cur, e1, e2, _⟩
 ·exact .inl ⟨e1, List.eq_nil_of_length_eq_zero e2⟩
 ·exact .inr ⟨g, cap, e1, e2⟩
end

section
open Go.RowKit
theorem txV_set0 : ∀ (l : List TxnV) (k : Nat) (hk : k < l.length) (z : Int), txV (l.set k ⟨z, l[k].b, l[k].c, l[k].v, l[k].l⟩) = (txV l).set (k * 4) (.int .i64 z)
 | a :: l, 0, _, z => rfl
 | a :: l, k + 1, hk, z => by
  have ih := txV_set0 l k (by simpa using hk) z
  rw [show (k + 1) * 4 = k * 4 + 1 + 1 + 1 + 1 from by omega]
  show txV (a :: l.set k _) = (Value.int .i64 a.s :: .int .i64 a.b :: .int .i64 a.c :: a.v :: txV l).set _ _
  simp only [List.set_cons_succ]
  rw [← ih]; rfl
theorem txV_set2 : ∀ (l : List TxnV) (k : Nat) (hk : k < l.length) (z : Int), txV (l.set k ⟨l[k].s, l[k].b, z, l[k].v, l[k].l⟩) = (txV l).set (k * 4 + 2) (.int .i64 z)
 | a :: l, 0, _, z => rfl
 | a :: l, k + 1, hk, z => by
  have ih := txV_set2 l k (by simpa using hk) z
  rw [show (k + 1) * 4 + 2 = (k * 4 + 2) + 1 + 1 + 1 + 1 from by omega]
  show txV (a :: l.set k _) = (Value.int .i64 a.s :: .int .i64 a.b :: .int .i64 a.c :: a.v :: txV l).set _ _
  simp only [List.set_cons_succ]
  rw [← ih]; rfl
end

end Go.Proofs.YtadihdkpoeibhaaGreatDoor
