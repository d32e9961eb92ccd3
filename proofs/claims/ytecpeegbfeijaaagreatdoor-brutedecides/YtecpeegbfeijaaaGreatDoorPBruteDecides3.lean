/- Walks and plain facts that the proof of the statement BruteDecides uses, joined: RelP RelG RelH RelI RelN RelJ RelK RelL RelO SetH SetI RelQ OrdO OrdAH RelR LeaC OrdY HisH HisI HisJ HisK HisL HisM HisN HisO OpQ TxnI. Conditions: each theorem's own. -/
import Derived.Deep.RegionHeld3
import Derived.Deep.RegionWith
import Derived.Deep.MidRow
import Derived.Deep.RegionHeld
import Derived.Deep.CutRange
import Derived.Laws.StructEq
import Derived.Test.YtecpeegbfeijaaaGreatDoorPBruteDecides0
import Derived.Test.YtecpeegbfeijaaaGreatDoorPBruteDecides1
import Derived.Test.YtecpeegbfeijaaaGreatDoorPBruteDecides2
namespace Go.Proofs.YtecpeegbfeijaaaGreatDoor
set_option maxRecDepth 100000
open Go.RowKit

abbrev Pr := Int × Int
def prV (l : List Pr) : List Value := l.flatMap fun p => [.int .i64 p.1, .int .i64 p.2]
theorem prV_len (l : List Pr) : (prV l).length = l.length * 2 := by
  induction l with
  | nil => rfl
  | cons a l ih => unfold prV at *; rw [List.flatMap_cons, List.length_append, ih, List.length_cons]; simp; omega
theorem prV_at : ∀ (l : List Pr) (k : Nat) (hk : k < l.length), (prV l)[2 * k]? = some (.int .i64 l[k].1) ∧ (prV l)[2 * k + 1]? = some (.int .i64 l[k].2)
  | [], k, hk => by simp at hk
  | a :: l, 0, _ => by unfold prV; simp
  | a :: l, k + 1, hk => by
    have := prV_at l k (by simpa using hk)
    unfold prV at *
    rw [List.flatMap_cons, show 2 * (k + 1) = 2 * k + 2 by omega]
    simpa using this
theorem prV_append (l m : List Pr) : prV (l ++ m) = prV l ++ prV m := by unfold prV; rw [List.flatMap_append]
theorem prV_oneCell (l : List Pr) : ∀ u ∈ prV l, u.oneCell' = true := by
  intro u hu
  unfold prV at hu
  obtain ⟨p, _, hp⟩ := List.mem_flatMap.1 hu
  simp at hp
  rcases hp with rfl | rfl <;> rfl
/-- The slice v holds these pairs. -/
def Prs (w : World) (v : Value) (l : List Pr) : Prop := Row w v l.length 2 (prV l)
theorem Prs.below {w w' : World} {v : Value} {l : List Pr} (h : Prs w v l) (hb : Below w.heap.size w w') : Prs w' v l := Row.below h hb
theorem Prs.of_owns {w : World} {base : Nat} {e : TypeId} {v : Value} {n : Nat} {l : List Pr} (h : w.ownsRow base e 2 v n (prV l)) : Prs w v l := by
  have hr := Row.of_owns h
  have hn : n = l.length := by have := h.1; rw [prV_len] at this; omega
  subst hn; exact hr
theorem Prs.form {w : World} {v : Value} {l : List Pr} (h : Prs w v l) : ∃ ao cap, v = .slice ao l.length cap ∧ l.length ≤ 9223372036854775807 := by
  obtain ⟨_, ao, cap, rfl, hm, _, _⟩ := h
  exact ⟨ao, cap, rfl, Nat.le_trans hm.1 hm.2⟩
theorem Prs.at {w : World} {ao : Option Addr} {n cap : Nat} {l : List Pr} (h : Prs w (.slice ao n cap) l) {k : Nat} (hk : k < l.length) :
    ∃ b off, ao = some ⟨b, off, none⟩ ∧ w.cell? ⟨b, off + k * 2, none⟩ = some (.int .i64 l[k].1) ∧ w.cell? ⟨b, off + k * 2 + 1, none⟩ = some (.int .i64 l[k].2) := by
  obtain ⟨_, ao', cap', he, hm, _, hc⟩ := h
  obtain ⟨rfl, _, _⟩ : ao = ao' ∧ n = l.length ∧ cap = cap' := by simpa using he
  obtain ⟨b, off, rfl, hcell⟩ := hc (by omega)
  obtain ⟨h1, h2⟩ := prV_at l k hk
  refine ⟨b, off, rfl, ?_, ?_⟩
  · rw [Nat.mul_comm k 2, hcell (2 * k) (by omega), h1]
  · rw [Nat.mul_comm k 2, Nat.add_assoc, hcell (2 * k + 1) (by omega), h2]

def hasP (l : List Pr) (a b : Int) : Bool := l.any fun p => p.1 == a && p.2 == b
theorem hasP_iff {l : List Pr} {a b : Int} : hasP l a b = true ↔ (a, b) ∈ l := by
  unfold hasP
  rw [List.any_eq_true]
  constructor
  · rintro ⟨⟨x, y⟩, h, e⟩
    simp at e
    obtain ⟨rfl, rfl⟩ := e
    exact h
  · intro h; exact ⟨(a, b), h, by simp⟩
theorem hasP_succ (l : List Pr) (a b : Int) (k : Nat) (hk : k < l.length) : hasP (l.take (k + 1)) a b = (hasP (l.take k) a b || (l[k].1 == a && l[k].2 == b)) := by
  unfold hasP
  rw [List.take_succ_eq_append_getElem hk, List.any_append]; simp
theorem hasP_hit (l : List Pr) (a b : Int) (k : Nat) (hk : k < l.length) (h1 : l[k].1 = a) (h2 : l[k].2 = b) : true = hasP l a b := by
  symm
  rw [hasP_iff]
  have : l[k] = (a, b) := Prod.ext h1 h2
  rw [← this]; exact List.getElem_mem hk
def putP (l : List Pr) (a b : Int) : List Pr := if hasP l a b then l else l ++ [(a, b)]
theorem mem_putP {l : List Pr} {a b : Int} {p : Pr} : p ∈ putP l a b ↔ p ∈ l ∨ p = (a, b) := by
  unfold putP
  split
  · rename_i h
    rw [hasP_iff] at h
    exact ⟨.inl, fun h' => h'.elim id (fun e => e ▸ h)⟩
  · simp
theorem putP_nodup {l : List Pr} {a b : Int} (h : l.Nodup) : (putP l a b).Nodup := by
  unfold putP
  split
  · exact h
  · rename_i hn
    rw [List.nodup_append]
    refine ⟨h, by simp, ?_⟩
    intro x hx y hy
    simp at hy
    subst hy
    rintro rfl
    exact hn (hasP_iff.2 hx)
/-- Pairs put in, one by one. -/
def putAll (o l : List Pr) : List Pr := l.foldl (fun o p => putP o p.1 p.2) o
theorem mem_putAll {p : Pr} : ∀ (l o : List Pr), p ∈ putAll o l ↔ p ∈ o ∨ p ∈ l
  | [], o => by simp [putAll]
  | q :: l, o => by
    have := mem_putAll (p := p) l (putP o q.1 q.2)
    unfold putAll at *
    rw [List.foldl_cons, this, mem_putP, List.mem_cons, or_assoc]
theorem putAll_nodup : ∀ (l : List Pr) {o : List Pr}, o.Nodup → (putAll o l).Nodup
  | [], _, h => h
  | _ :: l, _, h => putAll_nodup l (putP_nodup h)
/-- One pair, and then any of some, put in. -/
def thenOne (o : List Pr) (p : Pr) (m : List Pr) : List Pr := m.foldl (fun o q => if p.2 == q.1 then putP o p.1 q.2 else o) o
def thenP (l m : List Pr) : List Pr := l.foldl (fun o p => thenOne o p m) []
theorem mem_thenOne {x : Pr} {p : Pr} : ∀ (m o : List Pr), x ∈ thenOne o p m ↔ x ∈ o ∨ ∃ q ∈ m, p.2 = q.1 ∧ x = (p.1, q.2)
  | [], o => by simp [thenOne]
  | q :: m, o => by
    have h := mem_thenOne (x := x) (p := p) m (if p.2 == q.1 then putP o p.1 q.2 else o)
    have e : thenOne o p (q :: m) = thenOne (if p.2 == q.1 then putP o p.1 q.2 else o) p m := rfl
    rw [e, h]
    by_cases hpq : p.2 = q.1
    · have : (p.2 == q.1) = true := by simpa using hpq
      rw [if_pos this, mem_putP, or_assoc]
      apply or_congr Iff.rfl
      constructor
      · rintro (rfl | ⟨r, hr, h1, h2⟩)
        · exact ⟨q, List.mem_cons_self, hpq, rfl⟩
        · exact ⟨r, List.mem_cons_of_mem _ hr, h1, h2⟩
      · rintro ⟨r, hr, h1, h2⟩
        rcases List.mem_cons.1 hr with rfl | hr
        · exact .inl h2
        · exact .inr ⟨r, hr, h1, h2⟩
    · have : ¬ (p.2 == q.1) = true := by simpa using hpq
      rw [if_neg this]
      apply or_congr Iff.rfl
      constructor
      · rintro ⟨r, hr, h1, h2⟩; exact ⟨r, List.mem_cons_of_mem _ hr, h1, h2⟩
      · rintro ⟨r, hr, h1, h2⟩
        rcases List.mem_cons.1 hr with rfl | hr
        · exact absurd h1 hpq
        · exact ⟨r, hr, h1, h2⟩
theorem mem_thenAll {x : Pr} {m : List Pr} : ∀ (l o : List Pr), x ∈ l.foldl (fun o p => thenOne o p m) o ↔ x ∈ o ∨ ∃ p ∈ l, ∃ q ∈ m, p.2 = q.1 ∧ x = (p.1, q.2)
  | [], o => by simp
  | p :: l, o => by
    rw [List.foldl_cons, mem_thenAll l, mem_thenOne, or_assoc]
    apply or_congr Iff.rfl
    constructor
    · rintro (⟨q, hq, h⟩ | ⟨r, hr, q, hq, h⟩)
      · exact ⟨p, List.mem_cons_self, q, hq, h⟩
      · exact ⟨r, List.mem_cons_of_mem _ hr, q, hq, h⟩
    · rintro ⟨r, hr, q, hq, h⟩
      rcases List.mem_cons.1 hr with rfl | hr
      · exact .inl ⟨q, hq, h⟩
      · exact .inr ⟨r, hr, q, hq, h⟩
theorem mem_thenP {x : Pr} {l m : List Pr} : x ∈ thenP l m ↔ ∃ p ∈ l, ∃ q ∈ m, p.2 = q.1 ∧ x = (p.1, q.2) := by
  unfold thenP; rw [mem_thenAll]; simp
/-- A list without repeats that lies in another one is no longer. -/
theorem nodup_le {α : Type} [BEq α] [LawfulBEq α] : ∀ (l m : List α), l.Nodup → (∀ x ∈ l, x ∈ m) → l.length ≤ m.length
  | [], _, _, _ => by simp
  | a :: l, m, hn, hs => by
    rw [List.nodup_cons] at hn
    have ha := hs a List.mem_cons_self
    have := nodup_le l (m.erase a) hn.2 (fun x hx => by
      have hxa : x ≠ a := by rintro rfl; exact hn.1 hx
      exact (List.mem_erase_of_ne hxa).2 (hs x (List.mem_cons_of_mem _ hx)))
    rw [List.length_erase_of_mem ha] at this
    have hpos : 0 < m.length := List.length_pos_of_mem ha
    rw [List.length_cons]; omega
/-- One comes from a to b, by the pairs of a list, in one step or more. -/
inductive PathP (l : List Pr) : Int → Int → Prop
  | one {a b : Int} : (a, b) ∈ l → PathP l a b
  | more {a b c : Int} : PathP l a b → (b, c) ∈ l → PathP l a c
theorem PathP.ends {l : List Pr} {a b : Int} (h : PathP l a b) : (∃ y, (a, y) ∈ l) ∧ ∃ x, (x, b) ∈ l := by
  induction h with
  | one h => exact ⟨⟨_, h⟩, ⟨_, h⟩⟩
  | more _ h ih => exact ⟨ih.1, ⟨_, h⟩⟩
/-- One more round of the reference's closing. -/
def cloNext (o l : List Pr) : List Pr := putAll o (thenP o l)
/-- What holds of the reference's list from its first round on. -/
structure CloInv (l o : List Pr) : Prop where
  nodup : o.Nodup
  has : ∀ p ∈ l, p ∈ o
  path : ∀ a b, (a, b) ∈ o → PathP l a b
theorem CloInv.next {l o : List Pr} (h : CloInv l o) : CloInv l (cloNext o l) where
  nodup := putAll_nodup _ h.nodup
  has := fun p hp => (mem_putAll _ _).2 (.inl (h.has p hp))
  path := fun a b hab => by
    rcases (mem_putAll _ _).1 hab with h' | h'
    · exact h.path a b h'
    · obtain ⟨⟨x, y⟩, hp, ⟨u, v⟩, hq, h1, h2⟩ := mem_thenP.1 h'
      simp at h1 h2
      obtain ⟨rfl, rfl⟩ := h2
      subst h1
      exact .more (h.path _ _ hp) hq
theorem CloInv.len {l o : List Pr} (h : CloInv l o) : o.length ≤ l.length * l.length := by
  have := nodup_le o (l.flatMap fun p => l.map fun q => (p.1, q.2)) h.nodup (fun x hx => by
    obtain ⟨⟨y, hy⟩, ⟨z, hz⟩⟩ := (h.path x.1 x.2 hx).ends
    exact List.mem_flatMap.2 ⟨_, hy, List.mem_map.2 ⟨_, hz, rfl⟩⟩)
  have e : (l.flatMap fun p => l.map fun q => (p.1, q.2)).length = l.length * l.length := by
    rw [List.length_flatMap]
    have : (l.map fun p => (l.map fun q => ((p.1, q.2) : Pr)).length) = l.map fun _ => l.length := by simp
    rw [this, List.map_const']
    have hr : ∀ n k : Nat, (List.replicate n k).sum = n * k := by
      intro n k; induction n with
      | zero => simp
      | succ n ih => rw [List.replicate_succ, List.sum_cons, ih, Nat.succ_mul]; omega
    exact hr _ _
  rw [e] at this; exact this
theorem CloInv.done {l o : List Pr} (h : CloInv l o) (hd : (cloNext o l).length = o.length) (a b : Int) : (a, b) ∈ o ↔ PathP l a b := by
  constructor
  · exact h.path a b
  · intro hp
    have hsub : ∀ x ∈ cloNext o l, x ∈ o := by
      intro x hx
      by_cases hxo : x ∈ o
      · exact hxo
      · have h2 := nodup_le (x :: o) (cloNext o l) (List.nodup_cons.2 ⟨hxo, h.nodup⟩) (fun y hy => by
          rcases List.mem_cons.1 hy with rfl | hy
          · exact hx
          · exact (mem_putAll _ _).2 (.inl hy))
        rw [List.length_cons] at h2; omega
    induction hp with
    | one h' => exact h.has _ h'
    | more _ h' ih => exact hsub _ ((mem_putAll _ _).2 (.inr (mem_thenP.2 ⟨_, ih, _, h', rfl, rfl⟩)))
end Go.Proofs.YtecpeegbfeijaaaGreatDoor

namespace Go.Proofs.YtecpeegbfeijaaaGreatDoor
set_option maxRecDepth 100000
open Go.RowKit

set_option maxHeartbeats 1000000 in
theorem phas_any (v : Value) (l : List Pr) (a b : Int) (w : World) (hv : Prs w v l) :
    Calls Tryz.prog 137 #[v, .int .i64 a, .int .i64 b] w fun e w' => e = .returned (.bool (hasP l a b)) ∧ w = w' := by
  obtain ⟨ao, cap, rfl, hlen⟩ := hv.form
  go_enter Tryz.func137, Tryz.ntmps137
  go_wp2
  go_loop [7] (fun i => ∃ k : Nat, k ≤ l.length ∧ i = .int .i64 k ∧ hasP (l.take k) a b = false) (fun i => l.length - (intOf i).toNat)
  case atStart => exact ⟨0, Nat.zero_le _, rfl, by simp [hasP]⟩
  case round =>
    obtain ⟨k, hk, rfl, hno⟩ := hrel
    have HNO := Lib.hid hno; clear hno
    by_cases hlt : k < l.length
    · obtain ⟨p, off, rfl, hc1, hc2⟩ := hv.at hlt
      have HS := Lib.hid (hasP_succ l a b k hlt)
      have HH := Lib.hid (hasP_hit l a b k hlt)
      generalize l[k] = z at *
      obtain ⟨x, y⟩ := z
      simp only at hc1 hc2
      by_cases hx : x = a
      · have hx' : (x == a) = true := by simpa using hx
        have HX := Lib.hid hx
        clear hx
        by_cases hy : y = b
        · have hy' : (y == b) = true := by simpa using hy
          have HY := Lib.hid hy
          clear hy
          go_wp2
          go_ret
          exact ⟨ret_b (HH.out HX.out HY.out), rfl⟩
        · have hy' : (y == b) = false := by simpa using hy
          go_wp2
          go_round
          case rel => exact ⟨k + 1, by omega, by go_num, by rw [HS.out, HNO.out, hx', hy']; rfl⟩
          case measure => simp [intOf]; omega
      · have hx' : (x == a) = false := by simpa using hx
        go_wp2
        go_round
        case rel => exact ⟨k + 1, by omega, by go_num, by rw [HS.out, HNO.out, hx']; rfl⟩
        case measure => simp [intOf]; omega
    · go_wp2
      go_ret
      exact ⟨ret_b (by rw [← HNO.out, List.take_of_length_le (by omega)]), rfl⟩
theorem infoPair : (Tryz.prog.info? 216).map (fun i => (i.zero, i.size, i.bytes)) = some (some (.agg #[.int .i64 0, .int .i64 0]), 2, 16) := by kernel_rfl
theorem Prs.lit (w : World) (base : Nat) (a b : Int) (hb : base ≤ w.heap.size) : (w.alloc (.cells #[.int .i64 a, .int .i64 b] 216)).ownsRow base 216 2 (.slice (some ⟨w.heap.size, 0, none⟩) 1 1) 1 (prV [(a, b)]) :=
  World.ownsRow_lit (base := base) (size := 2) w #[.int .i64 a, .int .i64 b] 1 hb (by decide) rfl
set_option maxHeartbeats 1000000 in
theorem put_any (v : Value) (l : List Pr) (a b : Int) (w : World) (hv : Prs w v l) (hlen : l.length ≤ 1000000000) :
    Calls Tryz.prog 140 #[v, .int .i64 a, .int .i64 b] w fun e w' => ∃ v', e = .returned v' ∧ Prs w' v' (putP l a b) ∧ Below w.heap.size w w' := by
  obtain ⟨i0, hi, hz0, hz1, hz2⟩ := info_parts infoPair
  have C := phas_any v l a b w hv
  cases hh : hasP l a b
  · have HP : Hid (putP l a b = l ++ [(a, b)]) := Lib.hid (by unfold putP; rw [hh]; rfl)
    rw [hh] at C
    have CH := Lib.hid C
    clear C hh
    go_enter Tryz.func140, Tryz.ntmps140
    go_wp2_with fail
    refine (CH.out).mono ?_
    rintro e w' ⟨rfl, rfl⟩
    go_wp2_with (at_builtin; refine wpList_append_row rfl _ _ 124 rfl w.heap.size 216 i0 (.agg #[.int .i64 0, .int .i64 0]) 2 16 Tryz.underlying124 hi hz0 hz1 hz2 rfl (by decide) _ 0 [] rfl (World.ownsRow_lit _ _ _ (Nat.le_refl _) (by decide) rfl) _ l.length _ rfl (hv.below ((Below.refl _ _).alloc (Nat.le_refl _) _)) ?c1 ?c2 ?c3 ?c4 ?_)
    case c1 => exact prV_oneCell _
    case c2 => unfold maxLen; omega
    case c3 => omega
    case c4 => simp
    intro v5 w5 hown5 hg5
    have hb5 : Below w.heap.size w w5 := ((Below.refl w.heap.size w).alloc (Nat.le_refl _) _).grown hg5 (by simp) (by intro k hk; simp [Value.ownBlock] at hk; omega)
    clear hg5
    have hsz := hb5.size
    have hown5' : w5.ownsRow w.heap.size 216 2 v5 l.length (prV l) := by simpa using hown5
    clear hown5
    go_wp2_with (at_builtin; refine wpList_append_row rfl _ _ 124 rfl w.heap.size 216 i0 (.agg #[.int .i64 0, .int .i64 0]) 2 16 Tryz.underlying124 hi hz0 hz1 hz2 rfl (by decide) _ _ _ rfl (hown5'.alloc _) _ 1 _ rfl (Row.of_owns (Prs.lit w5 0 a b (Nat.zero_le _))) ?d1 ?d2 ?d3 ?d4 ?_)
    case d1 => exact prV_oneCell _
    case d2 => unfold maxLen; omega
    case d3 => omega
    case d4 => simp; omega
    intro v6 w6 hown6 hg6
    have hb6 := below_app hb5 (Nat.le_refl _) hown5' hg6
    clear hg6 hown5' hb5
    go_wp2
    go_ret
    refine ⟨_, rfl, ?_, hb6⟩
    rw [HP.out]
    rw [← prV_append] at hown6
    exact Prs.of_owns hown6
  · have HP : Hid (putP l a b = l) := Lib.hid (by unfold putP; rw [hh]; rfl)
    rw [hh] at C
    have CH := Lib.hid C
    clear C hh
    go_enter Tryz.func140, Tryz.ntmps140
    go_wp2_with fail
    refine (CH.out).mono ?_
    rintro e w' ⟨rfl, rfl⟩
    go_wp2_with fail
    go_ret
    exact ⟨_, rfl, by rw [HP.out]; exact hv, Below.refl _ _⟩
end Go.Proofs.YtecpeegbfeijaaaGreatDoor

namespace Go.Proofs.YtecpeegbfeijaaaGreatDoor
set_option maxRecDepth 100000
open Go.RowKit

def lenOf : Value → Nat
  | .slice _ n _ => n
  | _ => 0
theorem Prs.lenOf {w : World} {v : Value} {l : List Pr} (h : Prs w v l) : lenOf v = l.length := by
  obtain ⟨ao, cap, rfl, _⟩ := h.form
  rfl
end Go.Proofs.YtecpeegbfeijaaaGreatDoor

namespace Go.Proofs.YtecpeegbfeijaaaGreatDoor
set_option maxRecDepth 100000
open Go.RowKit

/-- Pairs are no sets: a store into a relation's block leaves them. -/
theorem Prs.grown {w w' : World} {v : Value} {l : List Pr} {g : Nat} {t : TypeId} {R : Mat} (h : Prs w v l) (hr : RelAt w g t R) (hg : w.grownBy w' (some g)) : Prs w' v l := by
  obtain ⟨hl, ao, cap, rfl, hm, hno, hc⟩ := h
  refine ⟨hl, ao, cap, rfl, hm, hno, fun hn => ?_⟩
  obtain ⟨b, off, rfl, hcell⟩ := hc hn
  refine ⟨b, off, rfl, fun i hi => ?_⟩
  have h1 := hcell i hi
  have hi' : i < (prV l).length := by rw [prV_len]; omega
  rw [List.getElem?_eq_getElem hi'] at h1 ⊢
  have hb : b ≠ g := by
    rintro rfl
    rw [cell_of_row w b _ _ _ _ hr] at h1
    have hmem : (prV l)[i] ∈ prV l := List.getElem_mem hi'
    unfold prV at hmem
    obtain ⟨p, _, hp⟩ := List.mem_flatMap.1 hmem
    by_cases ho : off + i < 64
    · rw [rowsA_at R ho] at h1
      have := Option.some.inj h1
      unfold prV at this
      rw [← this] at hp
      simp at hp
    · rw [Array.getElem?_eq_none (by rw [rowsA_size]; omega)] at h1
      cases h1
  exact hg.cell h1 (by simpa using hb)
end Go.Proofs.YtecpeegbfeijaaaGreatDoor

namespace Go.Proofs.YtecpeegbfeijaaaGreatDoor
set_option maxRecDepth 100000
open Go.RowKit

def IdxRes (l : List Int) (n : Int) (e : Ending) : Prop := (∃ (k : Nat) (hk : k < l.length), l[k] = n ∧ e = .returned (.int .i64 (k : Int))) ∨ (n ∉ l ∧ e = .returned (.int .i64 (-1)))
set_option maxHeartbeats 1000000 in
theorem index_any (v : Value) (l : List Int) (n : Int) (w : World) (hv : Ints w v l) :
    Calls Tryz.prog 185 #[v, .int .i64 n] w fun e w' => IdxRes l n e ∧ w = w' := by
  obtain ⟨ao, cap, rfl, hlen⟩ := hv.form
  go_enter Tryz.func185, Tryz.ntmps185
  go_wp2
  go_loop [8] (fun i => ∃ k : Nat, k ≤ l.length ∧ i = .int .i64 k ∧ Hid (n ∉ l.take k)) (fun i => l.length - (intOf i).toNat)
  case atStart => exact ⟨0, Nat.zero_le _, rfl, Lib.hid (by simp)⟩
  case round =>
    obtain ⟨k, hk, rfl, hno⟩ := hrel
    by_cases hlt : k < l.length
    · obtain ⟨b, off, rfl, hc⟩ := hv.at hlt
      have HS : Hid (n ≠ l[k] → n ∉ l.take (k + 1)) := Lib.hid (fun h => by rw [List.take_succ_eq_append_getElem hlt, List.mem_append, List.mem_singleton]; exact fun h' => h'.elim hno.out h)
      have HE : Hid (∀ z, z = l[k] → n = z → ∃ (k' : Nat) (hk' : k' < l.length), l[k'] = n ∧ Ending.returned (Value.int .i64 (k : Int)) = .returned (.int .i64 (k' : Int))) := Lib.hid (fun z hz hn => ⟨k, hlt, by rw [← hz, hn], rfl⟩)
      obtain ⟨z, hz⟩ : ∃ z, z = l[k] := ⟨_, rfl⟩
      rw [← hz] at hc HS
      have HZ := Lib.hid hz
      clear hz
      by_cases hzn : n = z
      · have hz' : (n == z) = true := by simpa using hzn
        have HZN := Lib.hid hzn
        clear hzn
        go_wp2
        go_ret
        exact ⟨.inl (HE.out z HZ.out HZN.out), rfl⟩
      · have hz' : (n == z) = false := by simpa using hzn
        go_wp2
        go_round
        case rel => exact ⟨k + 1, by omega, by go_num, Lib.hid (HS.out hzn)⟩
        case measure => simp [intOf]; omega
    · have HX : Hid (n ∉ l) := Lib.hid (by have := hno.out; rwa [List.take_of_length_le (by omega)] at this)
      go_wp2
      go_ret
      exact ⟨.inr ⟨HX.out, rfl⟩, rfl⟩

/-- Does nothing of a set follow on a number? -/
def emp (R : Mat) (s i : Nat) : Bool := (mkS (R i) &&& s) == 0
theorem emp_no {R : Mat} {s i : Nat} (hs : IsSet s) (h : emp R s i = false) : ∃ j, j ∈ lst s ∧ R i j = true := by
  unfold emp at h
  rw [beq_eq_false_iff_ne] at h
  have hset : IsSet (mkS (R i) &&& s) := isSet_and (isSet_mkS _)
  have hne : lst (mkS (R i) &&& s) ≠ [] := fun e => h (lst_nil hset e)
  have hm := mem_lst.1 (fst_mem hne)
  rw [Nat.testBit_and, testBit_mkS, Bool.and_eq_true, Bool.and_eq_true] at hm
  exact ⟨_, (mem_lst' hs).2 hm.2.2, hm.2.1.2⟩
theorem emp_yes {R : Mat} {s i j : Nat} (hj : j ∈ lst s) (h : R i j = true) : emp R s i = false := by
  unfold emp
  rw [beq_eq_false_iff_ne]
  intro e
  have hj' := mem_lst.1 hj
  have := congrArg (fun x => Nat.testBit x j) e
  simp [Nat.testBit_and, testBit_mkS, hj'.1, hj'.2, h] at this
/-- A set each of whose numbers stands to one of it. -/
def Suff (R : Mat) (F : Nat → Prop) : Prop := ∀ a, F a → a < 64 ∧ ∃ b, F b ∧ R a b = true
structure EndInv (R : Mat) (s : Nat) : Prop where
  set : IsSet s
  all : ∀ F, Suff R F → ∀ a, F a → a ∈ lst s
/-- One round done for the first k numbers. -/
def NxTo (R : Mat) (s : Nat) (k : Nat) (x : Nat) : Prop := IsSet x ∧ ∀ i, x.testBit i = (s.testBit i && !(((lst s).take k).contains i && emp R s i))
theorem nxTo_end {R : Mat} {s x : Nat} (hs : IsSet s) (h : NxTo R s (lst s).length x) (i : Nat) : x.testBit i = (s.testBit i && !emp R s i) := by
  rw [h.2 i, List.take_length]
  cases hb : s.testBit i
  · simp
  · have : (lst s).contains i = true := by rw [List.contains_iff_mem]; exact (mem_lst' hs).2 hb
    rw [this]; simp
theorem EndInv.next {R : Mat} {s x : Nat} (h : EndInv R s) (hx : NxTo R s (lst s).length x) : EndInv R x where
  set := hx.1
  all := fun F hF a ha => by
    obtain ⟨hlt, b, hb, hab⟩ := hF a ha
    rw [mem_lst' hx.1, nxTo_end h.set hx, (mem_lst' h.set).1 (h.all F hF a ha), emp_yes (h.all F hF b hb) hab]; rfl
theorem EndInv.done {R : Mat} {s : Nat} (h : EndInv R s) (hx : NxTo R s (lst s).length s) : ∀ a ∈ lst s, ∃ b ∈ lst s, R a b = true := by
  intro a ha
  have hb := (mem_lst' h.set).1 ha
  have := nxTo_end h.set hx a
  rw [hb] at this
  simp at this
  exact emp_no h.set this
end Go.Proofs.YtecpeegbfeijaaaGreatDoor

namespace Go.Proofs.YtecpeegbfeijaaaGreatDoor
set_option maxRecDepth 100000
open Go.RowKit

theorem getD_at (l : List Nat) (i : Nat) (h : i < l.length) : l.getD i 0 = l[i] := by simp [List.getD, h]
/-- Each number of a list stands to the next one. -/
def Edges (R : Mat) (l : List Nat) : Prop := ∀ i, i + 1 < l.length → R (l.getD i 0) (l.getD (i + 1) 0) = true
/-- The row that one has gone, and where one stands. -/
structure GoOK (R : Mat) (E : Nat) (Q : List Nat) (n : Nat) : Prop where
  nodup : Q.Nodup
  mem : ∀ x ∈ Q, x ∈ lst E
  at_ : n ∈ lst E
  edges : Edges R (Q ++ [n])
theorem GoOK.len {R : Mat} {E : Nat} {Q : List Nat} {n : Nat} (h : GoOK R E Q n) : Q.length ≤ 64 := by
  have := nodup_le Q (lst E) h.nodup h.mem
  have := lstTo_len E 64
  have : (lst E).length ≤ 64 := this
  omega
theorem GoOK.next {R : Mat} {E : Nat} {Q : List Nat} {n m : Nat} (h : GoOK R E Q n) (hn : n ∉ Q) (hm : m ∈ lst E) (hR : R n m = true) : GoOK R E (Q ++ [n]) m where
  nodup := by
    rw [List.nodup_append]
    exact ⟨h.nodup, by simp, fun x hx y hy => by simp at hy; subst hy; rintro rfl; exact hn hx⟩
  mem := fun x hx => by
    rcases List.mem_append.1 hx with hx | hx
    · exact h.mem x hx
    · simp at hx; subst hx; exact h.at_
  at_ := hm
  edges := by
    intro i hi
    have hlen : (Q ++ [n] ++ [m]).length = Q.length + 2 := by simp
    by_cases hi2 : i + 1 < (Q ++ [n]).length
    · have := h.edges i hi2
      have e1 : (Q ++ [n] ++ [m]).getD i 0 = (Q ++ [n]).getD i 0 := by
        rw [getD_at _ _ (by omega), getD_at _ _ (by omega), List.getElem_append_left]
      have e2 : (Q ++ [n] ++ [m]).getD (i + 1) 0 = (Q ++ [n]).getD (i + 1) 0 := by
        rw [getD_at _ _ (by omega), getD_at _ _ (by omega), List.getElem_append_left]
      rw [e1, e2]; exact this
    · have hi3 : i = Q.length := by simp at hi2 hi; omega
      subst hi3
      have e1 : (Q ++ [n] ++ [m]).getD Q.length 0 = n := by simp [List.getD]
      have e2 : (Q ++ [n] ++ [m]).getD (Q.length + 1) 0 = m := by simp [List.getD]
      rw [e1, e2]; exact hR
theorem Ints.drop {w : World} {g n cap : Nat} {l : List Int} (h : Ints w (.slice (some ⟨g, 0, none⟩) n cap) l) (k : Nat) (hk : k < l.length) :
    Ints w (.slice (some ⟨g, k, none⟩) (l.length - k) (cap - k)) (l.drop k) := by
  have hlen : (l.drop k).length = l.length - k := by simp
  obtain ⟨_, ao, cap', he, hm, _, hc⟩ := h
  obtain ⟨rfl, rfl, rfl⟩ : some (⟨g, 0, none⟩ : Addr) = ao ∧ n = l.length ∧ cap = cap' := by simpa using he
  refine ⟨by simp, some ⟨g, k, none⟩, cap - k, by rw [hlen], by rw [hlen]; unfold maxLen at *; omega, (fun h => by cases h), fun _ => ⟨g, k, rfl, fun i hi => ?_⟩⟩
  obtain ⟨b, off, he2, hcell⟩ := hc (by omega)
  obtain ⟨rfl, rfl⟩ : g = b ∧ 0 = off := by simpa using he2
  have := hcell (k + i) (by omega)
  rw [Nat.zero_add] at this
  rw [this, List.map_drop, List.getElem?_drop]
end Go.Proofs.YtecpeegbfeijaaaGreatDoor

namespace Go.Proofs.YtecpeegbfeijaaaGreatDoor
set_option maxRecDepth 100000
open Go.RowKit

theorem wp_load_rel {o : Oper} {a : Act} {w : World} {K : Act → World → Prop} {Q : Exit → Act → World → Prop} {g : Nat} {R : Mat} (h : RelAt w g 97 R) (x : Operand) (ho : o.op = .load 97 x)
    (hx : a.eval x = .pointer (some ⟨g, 0, none⟩)) (hn : K (a.put o.dst (.agg (rowsA R))) w) : o.wp Tryz.prog a w K Q :=
  wp_load_row 97 x ho g hx _ (rowsA R) _ _ h Tryz.underlying97 rfl (infoRel' _) hn
theorem wpList_load_rel_g {ops : Array Oper} {rest : List Oper} {o : Oper} {a : Act} {w : World} {Q : Exit → Act → World → Prop} {g : Nat} {R : Mat} (h : RelAt w g 97 R) (x : Operand) (ho : o.op = .load 97 x)
    (hw : Region.wanted o (yielded ops a.tmps) = true) (hx : a.eval x = .pointer (some ⟨g, 0, none⟩)) (hn : wpList Tryz.prog ops Q rest (a.put o.dst (.agg (rowsA R))) w) : wpList Tryz.prog ops Q (o :: rest) a w :=
  wpList_step fun K hK => by rw [if_pos hw]; exact wp_load_rel h x ho hx (hK _ _ hn)
end Go.Proofs.YtecpeegbfeijaaaGreatDoor

namespace Go.Proofs.YtecpeegbfeijaaaGreatDoor
set_option maxRecDepth 100000
open Go.RowKit

theorem inB_iff {s t : Nat} (hs : IsSet s) : inB s t = true ↔ ∀ i, i < 64 → s.testBit i = true → t.testBit i = true := by
  unfold inB
  rw [beq_iff_eq]
  constructor
  · intro h i _ hi
    have := congrArg (fun x => Nat.testBit x i) h
    simp [Nat.testBit_xor, Nat.testBit_and, hi] at this
    exact this
  · intro h
    apply set_ext (isSet_xor hs (isSet_and hs)) (by unfold IsSet; omega)
    intro i hi
    rw [Nat.testBit_xor, Nat.testBit_and]
    cases hb : s.testBit i
    · simp
    · simp [h i hi hb]
theorem hasL_iff {l : List Int} {n : Int} : hasL l n = true ↔ n ∈ l := by unfold hasL; simp
theorem below_eq (n : Int) : ofL ((List.range (min 64 n.toNat)).map Int.ofNat) = belowS n := by
  have hb : IsSet (belowS n) := by
    unfold belowS IsSet
    split
    · omega
    · split
      · omega
      · have : 2 ^ n.toNat ≤ 2 ^ 63 := Nat.pow_le_pow_right (by omega) (by omega)
        omega
  apply set_ext (isSet_ofL _) hb
  intro i hi
  rw [testBit_ofL]
  have e : hasL ((List.range (min 64 n.toNat)).map Int.ofNat) (i : Int) = decide ((i : Int) < n) := by
    rw [Bool.eq_iff_iff, hasL_iff, decide_eq_true_iff]
    constructor
    · intro h
      obtain ⟨a, ha, he⟩ := List.mem_map.1 h
      have h1 := List.mem_range.1 ha
      have h2 : (a : Int) = (i : Int) := he
      omega
    · intro h
      exact List.mem_map.2 ⟨i, List.mem_range.2 (by omega), rfl⟩
  rw [e]
  unfold belowS
  by_cases h0 : n ≤ 0
  · rw [if_pos h0]
    have : ¬ (i : Int) < n := by omega
    simp [this]
  rw [if_neg h0]
  by_cases h1 : 64 ≤ n
  · rw [if_pos h1, show (18446744073709551615 : Nat) = 2 ^ 64 - 1 from by decide, Nat.testBit_two_pow_sub_one]
    have : (i : Int) < n := by omega
    simp [this]
  · rw [if_neg h1, Nat.testBit_two_pow_sub_one, Bool.eq_iff_iff]
    simp; omega
end Go.Proofs.YtecpeegbfeijaaaGreatDoor

namespace Go.Proofs.YtecpeegbfeijaaaGreatDoor
set_option maxRecDepth 100000
open Go.RowKit

theorem nodup_map {α β : Type} (f : α → β) (hf : ∀ a b, f a = f b → a = b) : ∀ {l : List α}, l.Nodup → (l.map f).Nodup := by
  intro l h
  induction l with
  | nil => exact List.nodup_nil
  | cons a l ih =>
    rw [List.nodup_cons] at h
    rw [List.map_cons, List.nodup_cons]
    refine ⟨?_, ih h.2⟩
    intro hm
    obtain ⟨b, hb, e⟩ := List.mem_map.1 hm
    exact h.1 (hf b a e ▸ hb)
/-- The pairs are the relation's, each once. -/
def Rep (R : Mat) (m : List Pr) : Prop := m.Nodup ∧ ∀ a b, (a, b) ∈ m ↔ ∃ i j : Nat, i < 64 ∧ j < 64 ∧ a = (i : Int) ∧ b = (j : Int) ∧ R i j = true
theorem addM_iff (R : Mat) (a b : Int) (i j : Nat) (hi : i < 64) (hj : j < 64) : addM R a b i j = true ↔ R i j = true ∨ (a = (i : Int) ∧ b = (j : Int)) := by
  unfold addM
  split
  · rename_i h
    have h1 := (mayB_iff a).1 h.1
    have h2 := (mayB_iff b).1 h.2
    unfold rowSet
    by_cases e : i = a.toNat
    · rw [if_pos e, ← e, Bool.or_eq_true, decide_eq_true_iff]
      apply or_congr Iff.rfl
      constructor
      · intro h; omega
      · intro h; omega
    · rw [if_neg e]
      constructor
      · exact .inl
      · rintro (h | h)
        · exact h
        · omega
  · rename_i h
    constructor
    · exact .inl
    · rintro (h' | ⟨rfl, rfl⟩)
      · exact h'
      · exact absurd ⟨(mayB_iff _).2 (by omega), (mayB_iff _).2 (by omega)⟩ h
theorem hasR_rep {R : Mat} {m : List Pr} (h : Rep R m) (a b : Int) : hasR R a b = true ↔ (a, b) ∈ m := by
  rw [h.2]
  unfold hasR
  rw [Bool.and_eq_true, mayB_iff]
  constructor
  · rintro ⟨ha, hb⟩
    unfold hasB at hb
    rw [Bool.and_eq_true, decide_eq_true_iff, testBit_mkS, Bool.and_eq_true] at hb
    exact ⟨a.toNat, b.toNat, by omega, by omega, by omega, by omega, hb.2.2⟩
  · rintro ⟨i, j, hi, hj, rfl, rfl, h⟩
    refine ⟨by omega, ?_⟩
    rw [Int.toNat_natCast, hasB_mkS _ _ hj]; exact h
theorem PathP.cons {l : List Pr} {a b c : Int} (h : (a, b) ∈ l) (k : PathP l b c) : PathP l a c := by
  induction k with
  | one h' => exact .more (.one h) h'
  | more _ h' ih => exact .more ih h'
end Go.Proofs.YtecpeegbfeijaaaGreatDoor

namespace Go.Proofs.YtecpeegbfeijaaaGreatDoor
set_option maxRecDepth 100000
open Go.RowKit

theorem prsRow_iff (S : Nat → Nat → Bool) (a : Nat) (R : Mat) (i j : Nat) (hi : i < 64) (hj : j < 64) : ∀ b, prsRow S a R b i j = true ↔ R i j = true ∨ (i = a ∧ j < b ∧ S i j = true)
  | 0 => by simp [prsRow]
  | b + 1 => by
    have ih := prsRow_iff S a R i j hi hj b
    cases hs : S a b with
    | true =>
      rw [prsRow_hit R hs, addM_iff _ _ _ _ _ hi hj, ih]
      constructor
      · rintro ((h | ⟨h1, h2, h3⟩) | ⟨h1, h2⟩)
        · exact .inl h
        · exact .inr ⟨h1, by omega, h3⟩
        · have e1 : i = a := by omega
          have e2 : j = b := by omega
          subst e1 e2
          exact .inr ⟨rfl, by omega, hs⟩
      · rintro (h | ⟨h1, h2, h3⟩)
        · exact .inl (.inl h)
        · by_cases e : j = b
          · exact .inr ⟨by omega, by omega⟩
          · exact .inl (.inr ⟨h1, by omega, h3⟩)
    | false =>
      rw [prsRow_miss R hs, ih]
      constructor
      · rintro (h | ⟨h1, h2, h3⟩)
        · exact .inl h
        · exact .inr ⟨h1, by omega, h3⟩
      · rintro (h | ⟨h1, h2, h3⟩)
        · exact .inl h
        · refine .inr ⟨h1, ?_, h3⟩
          by_cases e : j = b
          · subst h1 e; rw [hs] at h3; cases h3
          · omega
theorem prsTo_iff (S : Nat → Nat → Bool) (n : Nat) (i j : Nat) (hi : i < 64) (hj : j < 64) : ∀ a, prsTo S n a i j = true ↔ i < a ∧ j < n ∧ S i j = true
  | 0 => by simp [prsTo, noR]
  | a + 1 => by
    have ih := prsTo_iff S n i j hi hj a
    show prsRow S a (prsTo S n a) n i j = true ↔ _
    rw [prsRow_iff S a _ i j hi hj, ih]
    constructor
    · rintro (⟨h1, h2⟩ | ⟨h1, h2⟩)
      · exact ⟨by omega, h2⟩
      · exact ⟨by omega, h2⟩
    · rintro ⟨h1, h2⟩
      by_cases e : i = a
      · exact .inr ⟨e, h2⟩
      · exact .inl ⟨by omega, h2⟩
theorem wpList_load_part {ops : Array Oper} {rest : List Oper} {o : Oper} {a : Act} {w : World} {Q : Exit → Act → World → Prop} {B k : Nat} {R : Mat} (h : w.rangeAt B k (rowsA R).toList) (x : Operand) (ho : o.op = .load 97 x)
    (hw : Region.wanted o (yielded ops a.tmps) = true) (hx : a.eval x = .pointer (some ⟨B, k, none⟩)) (hn : wpList Tryz.prog ops Q rest (a.put o.dst (.agg (rowsA R))) w) : wpList Tryz.prog ops Q (o :: rest) a w :=
  wpList_step fun K hK => by
    rw [if_pos hw]
    refine wp_load_mid 97 x ho B k hx (rowsA R).toList _ h Tryz.underlying97 rfl (by rw [Array.length_toList]; exact infoRel' R) ?_
    rw [Array.toArray_toList]
    exact hK _ _ hn
end Go.Proofs.YtecpeegbfeijaaaGreatDoor

namespace Go.Proofs.YtecpeegbfeijaaaGreatDoor
set_option maxRecDepth 100000
open Go.RowKit

theorem takeG {P : Program} {ops : Array Oper} {Q : Exit → Act → World → Prop} {md : Region.Mode} {S : World → Prop} (d : Option Tmp) {i : Nat} {oi : Oper} {v : Value} {fuel : Nat} {listed : Array Bool} {a : Act} {w : World} (hi : ops[i]? = some oi) (hd : oi.dst = d)
    (hs : Region.noSelect ops = true) (hf : Region.free md ops listed i = true) (hr : (Region.ready md ops listed).contains i = true)
    (hQ : ∀ c a w, Q (.panic c) (a.put oi.dst v) w → Q (.panic c) a w) (hy : YieldsIf P ops S oi v a) (hS : S w)
    (h : wpAnyH P md ops Q S fuel (listed.setIfInBounds i true) (a.put d v) w) : wpAnyH P md ops Q S (fuel + 1) listed a w := by
  subst hd; exact wpAnyH_take hi hs hf hr hQ hy hS h
theorem yields_load_part {ops : Array Oper} {S : World → Prop} {o : Oper} {a : Act} {B k : Nat} {R : Mat} (hw : Region.wanted o (yielded ops a.tmps) = true) (x : Operand) (ho : o.op = .load 97 x)
    (hx : a.eval x = .pointer (some ⟨B, k, none⟩)) (hS : ∀ w, S w → w.rangeAt B k (rowsA R).toList) : YieldsIf Tryz.prog ops S o (.agg (rowsA R)) a := by
  have h := yieldsIf_load_mid (P := Tryz.prog) hw 97 x ho B k hx (rowsA R).toList _ hS Tryz.underlying97 rfl (by rw [Array.length_toList]; exact infoRel' R)
  rw [Array.toArray_toList] at h
  exact h
/-- The block of what follows of a history, without what it reaches. -/
def OrdB (w : World) (B : Nat) (h : List TxnV) : Prop := ∃ vm vk vr, OrdAt w B h.length (sesM h) (timM h) (froM h) vm vk vr (soundTo h h.length)
theorem OrdIs.blk {w : World} {B b : Nat} {h : List TxnV} (hO : OrdIs w B b h) : OrdB w B h := by
  obtain ⟨bm, m, c, vk, vr, K, R, h1, _⟩ := hO
  exact ⟨_, _, _, h1⟩
theorem OrdB.rS {w : World} {B : Nat} {h : List TxnV} (hO : OrdB w B h) : w.rangeAt B 1 (rowsA (sesM h)).toList := by obtain ⟨_, _, _, h⟩ := hO; exact h.rS
theorem OrdB.rT {w : World} {B : Nat} {h : List TxnV} (hO : OrdB w B h) : w.rangeAt B 65 (rowsA (timM h)).toList := by obtain ⟨_, _, _, h⟩ := hO; exact h.rT
theorem OrdB.rF {w : World} {B : Nat} {h : List TxnV} (hO : OrdB w B h) : w.rangeAt B 129 (rowsA (froM h)).toList := by obtain ⟨_, _, _, h⟩ := hO; exact h.rF
theorem OrdB.cN {w : World} {B : Nat} {h : List TxnV} (hO : OrdB w B h) : w.cell? ⟨B, 0, none⟩ = some (.int .i64 h.length) := by obtain ⟨_, _, _, h⟩ := hO; exact h.cN
theorem OrdB.cS {w : World} {B : Nat} {h : List TxnV} (hO : OrdB w B h) : w.cell? ⟨B, 196, none⟩ = some (.bool (soundTo h h.length)) := by obtain ⟨_, _, _, h⟩ := hO; exact h.cS
theorem OrdB.below {w w' : World} {B : Nat} {h : List TxnV} (hO : OrdB w B h) (hb : Below w.heap.size w w') : OrdB w' B h := by
  obtain ⟨vm, vk, vr, h1⟩ := hO
  exact ⟨_, _, _, h1.below hb h1.lt⟩
theorem OrdB.other {w : World} {B : Nat} {h : List TxnV} (hO : OrdB w B h) {k : Addr} (hk : B ≠ k.block) (v : Value) : OrdB (w.setCell k v) B h := by
  obtain ⟨vm, vk, vr, h1⟩ := hO
  exact ⟨_, _, _, h1.other hk v⟩
end Go.Proofs.YtecpeegbfeijaaaGreatDoor

namespace Go.Proofs.YtecpeegbfeijaaaGreatDoor
set_option maxRecDepth 100000
open Go.RowKit

theorem Ints.take {w : World} {ao : Option Addr} {n cap : Nat} {l : List Int} (h : Ints w (.slice ao n cap) l) (k : Nat) (hk : k ≤ l.length) (hk0 : ao = none → cap = 0) :
    Ints w (.slice ao k cap) (l.take k) := by
  have hlen : (l.take k).length = k := by simp; omega
  obtain ⟨_, ao', cap', he, hm, hno, hc⟩ := h
  obtain ⟨rfl, rfl, rfl⟩ : ao = ao' ∧ n = l.length ∧ cap = cap' := by simpa using he
  refine ⟨by simp, ao, cap, by rw [hlen], by rw [hlen]; omega, (fun h => ⟨by rw [hlen]; have := hno h; omega, hk0 h⟩), fun hn => ?_⟩
  obtain ⟨b, off, rfl, hcell⟩ := hc (by omega)
  refine ⟨b, off, rfl, fun i hi => ?_⟩
  rw [hcell i (by omega), List.map_take, List.getElem?_take, if_pos (by omega)]
theorem Ints.full {w : World} {v : Value} {l : List Int} (h : Ints w v l) : ∃ ao cap, v = .slice ao l.length cap ∧ (l.length ≤ cap ∧ cap ≤ 9223372036854775807) ∧ (ao = none → l.length = 0 ∧ cap = 0) := by
  obtain ⟨_, ao, cap, rfl, hm, hno, _⟩ := h
  exact ⟨ao, cap, rfl, hm, hno⟩
theorem zero_block (w : World) : RelAt (w.alloc (.cells #[.int .u64 0, .int .u64 0, .int .u64 0, .int .u64 0, .int .u64 0, .int .u64 0, .int .u64 0, .int .u64 0, .int .u64 0, .int .u64 0, .int .u64 0, .int .u64 0, .int .u64 0, .int .u64 0, .int .u64 0, .int .u64 0, .int .u64 0, .int .u64 0, .int .u64 0, .int .u64 0, .int .u64 0, .int .u64 0, .int .u64 0, .int .u64 0, .int .u64 0, .int .u64 0, .int .u64 0, .int .u64 0, .int .u64 0, .int .u64 0, .int .u64 0, .int .u64 0, .int .u64 0, .int .u64 0, .int .u64 0, .int .u64 0, .int .u64 0, .int .u64 0, .int .u64 0, .int .u64 0, .int .u64 0, .int .u64 0, .int .u64 0, .int .u64 0, .int .u64 0, .int .u64 0, .int .u64 0, .int .u64 0, .int .u64 0, .int .u64 0, .int .u64 0, .int .u64 0, .int .u64 0, .int .u64 0, .int .u64 0, .int .u64 0, .int .u64 0, .int .u64 0, .int .u64 0, .int .u64 0, .int .u64 0, .int .u64 0, .int .u64 0, .int .u64 0] 97)) w.heap.size 97 noR :=
  RelAt.made w _ noR rfl (by rw [rowsA_none]; rfl)
end Go.Proofs.YtecpeegbfeijaaaGreatDoor

namespace Go.Proofs.YtecpeegbfeijaaaGreatDoor
set_option maxRecDepth 100000
open Go.RowKit

theorem RelAt.far {w : World} {g g' : Nat} {t : TypeId} {R : Mat} (h : RelAt w g t R) (hne : g ≠ g') (cs : Array Value) : RelAt (w.setRow g' cs) g t R := by
  unfold RelAt at *; rw [setRow_other _ _ _ _ hne]; exact h
theorem wp_store_rel {o : Oper} {a : Act} {w : World} {K : Act → World → Prop} {Q : Exit → Act → World → Prop} {g : Nat} {S : Mat} (h : RelAt w g 97 S) (R : Mat) (x y : Operand) (ho : o.op = .store 97 x y)
    (hx : a.eval x = .pointer (some ⟨g, 0, none⟩)) (hy : a.eval y = .agg (rowsA R)) (hn : K (a.put o.dst undef) (w.setRow g (rowsA R))) : o.wp Tryz.prog a w K Q :=
  wp_store_row 97 x y ho g (rowsA R) hx hy _ _ h (infoRel' _) (by rw [rowsA_size, rowsA_size]) (rows_one _) hn
theorem ret_rel {R S : Mat} (h : R = S) : Ending.returned (.agg (rowsA R)) = .returned (.agg (rowsA S)) := by rw [h]
/-- What must be seen whatever the order is, by the two bits of what is asked. -/
def baseQ (h : List TxnV) (q1 q2 : Int) : Mat := if q2 = 0 then (if q1 = 0 then froM h else orR (froM h) (sesM h)) else orR (if q1 = 0 then froM h else orR (froM h) (sesM h)) (timM h)
def baseM (h : List TxnV) (x : Int) : Mat := baseQ h (bits .and .i64 x 1) (bits .and .i64 x 32)
set_option maxRecDepth 100000 in
set_option maxHeartbeats 8000000 in
theorem lbase_any (x : Int) (h : List TxnV) (B : Nat) (w : World) (hO : OrdB w B h) :
    Calls Tryz.prog 95 #[.pointer (some ⟨B, 0, none⟩), .int .i64 x] w fun e w' => e = .returned (.agg (rowsA (baseM h x))) ∧ Below w.heap.size w w' := by
  have HO := Lib.hid (fun wx (hx : Below w.heap.size w wx) => hO.below hx)
  obtain ⟨q1, h1⟩ : ∃ q, bits .and .i64 x 1 = q := ⟨_, rfl⟩
  obtain ⟨q2, h2⟩ : ∃ q, bits .and .i64 x 32 = q := ⟨_, rfl⟩
  have HQ : Hid (baseM h x = baseQ h q1 q2) := Lib.hid (by unfold baseM; rw [h1, h2])
  have z0 := zero_block w
  have z1 := zero_block (w.alloc (.cells #[.int .u64 0, .int .u64 0, .int .u64 0, .int .u64 0, .int .u64 0, .int .u64 0, .int .u64 0, .int .u64 0, .int .u64 0, .int .u64 0, .int .u64 0, .int .u64 0, .int .u64 0, .int .u64 0, .int .u64 0, .int .u64 0, .int .u64 0, .int .u64 0, .int .u64 0, .int .u64 0, .int .u64 0, .int .u64 0, .int .u64 0, .int .u64 0, .int .u64 0, .int .u64 0, .int .u64 0, .int .u64 0, .int .u64 0, .int .u64 0, .int .u64 0, .int .u64 0, .int .u64 0, .int .u64 0, .int .u64 0, .int .u64 0, .int .u64 0, .int .u64 0, .int .u64 0, .int .u64 0, .int .u64 0, .int .u64 0, .int .u64 0, .int .u64 0, .int .u64 0, .int .u64 0, .int .u64 0, .int .u64 0, .int .u64 0, .int .u64 0, .int .u64 0, .int .u64 0, .int .u64 0, .int .u64 0, .int .u64 0, .int .u64 0, .int .u64 0, .int .u64 0, .int .u64 0, .int .u64 0, .int .u64 0, .int .u64 0, .int .u64 0, .int .u64 0] 97))
  rw [show (w.alloc (.cells #[.int .u64 0, .int .u64 0, .int .u64 0, .int .u64 0, .int .u64 0, .int .u64 0, .int .u64 0, .int .u64 0, .int .u64 0, .int .u64 0, .int .u64 0, .int .u64 0, .int .u64 0, .int .u64 0, .int .u64 0, .int .u64 0, .int .u64 0, .int .u64 0, .int .u64 0, .int .u64 0, .int .u64 0, .int .u64 0, .int .u64 0, .int .u64 0, .int .u64 0, .int .u64 0, .int .u64 0, .int .u64 0, .int .u64 0, .int .u64 0, .int .u64 0, .int .u64 0, .int .u64 0, .int .u64 0, .int .u64 0, .int .u64 0, .int .u64 0, .int .u64 0, .int .u64 0, .int .u64 0, .int .u64 0, .int .u64 0, .int .u64 0, .int .u64 0, .int .u64 0, .int .u64 0, .int .u64 0, .int .u64 0, .int .u64 0, .int .u64 0, .int .u64 0, .int .u64 0, .int .u64 0, .int .u64 0, .int .u64 0, .int .u64 0, .int .u64 0, .int .u64 0, .int .u64 0, .int .u64 0, .int .u64 0, .int .u64 0, .int .u64 0, .int .u64 0] 97)).heap.size = w.heap.size + 1 from by simp] at z1
  have hb1 := box_below w (.cells #[.int .u64 0, .int .u64 0, .int .u64 0, .int .u64 0, .int .u64 0, .int .u64 0, .int .u64 0, .int .u64 0, .int .u64 0, .int .u64 0, .int .u64 0, .int .u64 0, .int .u64 0, .int .u64 0, .int .u64 0, .int .u64 0, .int .u64 0, .int .u64 0, .int .u64 0, .int .u64 0, .int .u64 0, .int .u64 0, .int .u64 0, .int .u64 0, .int .u64 0, .int .u64 0, .int .u64 0, .int .u64 0, .int .u64 0, .int .u64 0, .int .u64 0, .int .u64 0, .int .u64 0, .int .u64 0, .int .u64 0, .int .u64 0, .int .u64 0, .int .u64 0, .int .u64 0, .int .u64 0, .int .u64 0, .int .u64 0, .int .u64 0, .int .u64 0, .int .u64 0, .int .u64 0, .int .u64 0, .int .u64 0, .int .u64 0, .int .u64 0, .int .u64 0, .int .u64 0, .int .u64 0, .int .u64 0, .int .u64 0, .int .u64 0, .int .u64 0, .int .u64 0, .int .u64 0, .int .u64 0, .int .u64 0, .int .u64 0, .int .u64 0, .int .u64 0] 97)
  have z0 := (z0.alloc (.cells #[.int .u64 0, .int .u64 0, .int .u64 0, .int .u64 0, .int .u64 0, .int .u64 0, .int .u64 0, .int .u64 0, .int .u64 0, .int .u64 0, .int .u64 0, .int .u64 0, .int .u64 0, .int .u64 0, .int .u64 0, .int .u64 0, .int .u64 0, .int .u64 0, .int .u64 0, .int .u64 0, .int .u64 0, .int .u64 0, .int .u64 0, .int .u64 0, .int .u64 0, .int .u64 0, .int .u64 0, .int .u64 0, .int .u64 0, .int .u64 0, .int .u64 0, .int .u64 0, .int .u64 0, .int .u64 0, .int .u64 0, .int .u64 0, .int .u64 0, .int .u64 0, .int .u64 0, .int .u64 0, .int .u64 0, .int .u64 0, .int .u64 0, .int .u64 0, .int .u64 0, .int .u64 0, .int .u64 0, .int .u64 0, .int .u64 0, .int .u64 0, .int .u64 0, .int .u64 0, .int .u64 0, .int .u64 0, .int .u64 0, .int .u64 0, .int .u64 0, .int .u64 0, .int .u64 0, .int .u64 0, .int .u64 0, .int .u64 0, .int .u64 0, .int .u64 0] 97)).far (g' := w.heap.size + 1) (by omega) (rowsA (froM h))
  have hb2 := below_setRow (hb1.alloc hb1.size (.cells #[.int .u64 0, .int .u64 0, .int .u64 0, .int .u64 0, .int .u64 0, .int .u64 0, .int .u64 0, .int .u64 0, .int .u64 0, .int .u64 0, .int .u64 0, .int .u64 0, .int .u64 0, .int .u64 0, .int .u64 0, .int .u64 0, .int .u64 0, .int .u64 0, .int .u64 0, .int .u64 0, .int .u64 0, .int .u64 0, .int .u64 0, .int .u64 0, .int .u64 0, .int .u64 0, .int .u64 0, .int .u64 0, .int .u64 0, .int .u64 0, .int .u64 0, .int .u64 0, .int .u64 0, .int .u64 0, .int .u64 0, .int .u64 0, .int .u64 0, .int .u64 0, .int .u64 0, .int .u64 0, .int .u64 0, .int .u64 0, .int .u64 0, .int .u64 0, .int .u64 0, .int .u64 0, .int .u64 0, .int .u64 0, .int .u64 0, .int .u64 0, .int .u64 0, .int .u64 0, .int .u64 0, .int .u64 0, .int .u64 0, .int .u64 0, .int .u64 0, .int .u64 0, .int .u64 0, .int .u64 0, .int .u64 0, .int .u64 0, .int .u64 0, .int .u64 0] 97)) (g := w.heap.size + 1) (by omega) (rowsA (froM h))
  have q0 := (HO.out _ hb1).rF
  have n0 := (HO.out _ hb1).cN
  clear hO hb1
  go_enter Tryz.func95, Tryz.ntmps95
  go_upto_region 2 with (first
    | (with_reducible refine wpList_load_part q0 _ rfl (by kernel_rfl) rfl ?_)
    | (with_reducible refine wpList_store_rel z1 (froM h) rfl _ _ rfl rfl rfl ?_))
  have z1 := z1.setRow (froM h)
  clear q0 n0
  generalize World.setRow _ _ _ = w2 at *
  have hb := hb2
  clear hb2
  by_cases e1 : q1 = 0
  · subst e1
    go_upto_region 4 with fail
    by_cases e2 : q2 = 0
    · subst e2
      go_upto_region 6 with fail
      have HE : Hid ((froM h) = baseM h x) := Lib.hid (by rw [HQ.out]; unfold baseQ; rw [if_pos rfl, if_pos rfl])
      clear HQ HO
      go_wp2_with (first | (with_reducible refine wpList_load_rel z1 rfl _ rfl rfl ?_) | (with_reducible refine wpList_store_rel z0 (froM h) rfl _ _ rfl rfl rfl ?_))
      have h3 := z0.setRow (froM h)
      exact bodyPost_ret (results_rel rfl _ _ _ _ rfl h3) rfl ⟨ret_rel HE.out, below_setRow hb (Nat.le_refl _) _⟩
    · go_upto_region 5 with fail
      have kd := (Below.refl w2.heap.size w2).drew
      have HV : Hid (∀ wx, Below w2.heap.size w2 wx → RelAt wx (w.heap.size + 1) 97 (froM h)) := Lib.hid (fun wx hx => z1.below hx z1.lt)
      have HZ : Hid (∀ wx, Below w2.heap.size w2 wx → RelAt wx w.heap.size 97 noR) := Lib.hid (fun wx hx => z0.below hx z0.lt)
      have HB := Lib.hid (fun wx (hx : Below w2.heap.size w2 wx) => hb.trans (hx.mono hb.size))
      have HSB := Lib.hid (fun wx (hx : Below w2.heap.size w2 wx) => HO.out wx (hb.trans (hx.mono hb.size)))
      have HSF : Hid (∀ wx, Below w2.heap.size w2 wx → ∀ (cs : Array Value), OrdB (wx.setRow (w.heap.size + 1) cs) B h) := Lib.hid (fun wx hx cs => HO.out _ (below_setRow (hb.trans (hx.mono hb.size)) (by omega) cs))
      clear z1 z0 hb
      refine wp_region_held_drew (S := fun wx => OrdB wx B h) (by kernel_rfl) (HSB.out _ kd) (fun hS0 => ?_)
      refine takeG (some 23) (i := 1) (v := ?vbw21) rfl rfl (by kernel_rfl) (by kernel_rfl) (by kernel_rfl) (fun _ _ _ h => h) (Or.inl ⟨by rfl, ?hbw21⟩) hS0 ?rbw21
      case hbw21 => (intro w hw; go_simp; try (with_reducible rfl))
      try simp only [Act.put, List.setIfInBounds_toArray, List.set_cons_zero, List.set_cons_succ]
      refine takeG (some 24) (i := 2) (v := ?vbw22) rfl rfl (by kernel_rfl) (by kernel_rfl) (by kernel_rfl) (fun _ _ _ h => h) (Or.inl ⟨by rfl, ?hbw22⟩) hS0 ?rbw22
      case hbw22 => (intro w hw; have hn := hw.cN; go_simp; try (with_reducible rfl))
      try simp only [Act.put, List.setIfInBounds_toArray, List.set_cons_zero, List.set_cons_succ]
      refine takeG (some 25) (i := 3) (v := ?vbw23) rfl rfl (by kernel_rfl) (by kernel_rfl) (by kernel_rfl) (fun _ _ _ h => h) (Or.inl ⟨by rfl, ?hbw23⟩) hS0 ?rbw23
      case hbw23 => (intro w hw; have hn := hw.cN; go_simp; try (with_reducible rfl))
      try simp only [Act.put, List.setIfInBounds_toArray, List.set_cons_zero, List.set_cons_succ]
      refine takeG (some 26) (i := 4) (v := _) rfl rfl (by kernel_rfl) (by kernel_rfl) (by kernel_rfl) (fun _ _ _ h => h) (yields_load_part (by rfl) _ rfl rfl (fun wx hx => OrdB.rT hx)) hS0 ?_
      try simp only [Act.put, List.setIfInBounds_toArray, List.set_cons_zero, List.set_cons_succ]
      refine wpAnyH_ready (rs := [0]) (by kernel_rfl) (by simp) ?_
      refine AllReadyH.cons rfl (fun K hK => ?_) AllReadyH.nil
      rw [if_pos (by rfl)]
      refine wp_load_rel (HV.out _ kd) _ rfl rfl ?_
      refine hK.out _ _ hS0 (fun _ => ?_)
      clear hK K
      refine wpAnyH_ready (rs := [5]) (by kernel_rfl) (by simp) ?_
      refine AllReadyH.cons rfl (fun K hK => ?_) AllReadyH.nil
      go_simp
      refine (union_any (froM h) (timM h) _).mono ?_
      rintro e qbw21 ⟨rfl, hqbw21⟩
      show K _ _
      have kbw21 := below_then kd hqbw21
      have sbw21 := HSB.out _ kbw21
      refine hK.out _ _ sbw21 (fun _ => ?_)
      clear hK K
      refine wpAnyH_ready (rs := [6]) (by kernel_rfl) (by simp) ?_
      refine AllReadyH.cons rfl (fun K hK => ?_) AllReadyH.nil
      rw [if_pos (by rfl)]
      refine wp_store_rel (HV.out _ kbw21) (orR (froM h) (timM h)) _ _ rfl rfl rfl ?_
      refine hK.out _ _ (HSF.out _ kbw21 _) (fun _ => ?_)
      clear hK K
      refine wpAnyH_done (by kernel_rfl) ?_ _
      have z1 := (HV.out _ kbw21).setRow (orR (froM h) (timM h))
      have z0 := (HZ.out _ kbw21).far (g' := w.heap.size + 1) (by omega) (rowsA (orR (froM h) (timM h)))
      have hb := below_setRow (HB.out _ kbw21) (g := w.heap.size + 1) (by omega) (rowsA (orR (froM h) (timM h)))
      generalize World.setRow _ _ _ = w2' at *
      clear HV HZ HB HSB HSF kd
      have HE : Hid ((orR (froM h) (timM h)) = baseM h x) := Lib.hid (by rw [HQ.out]; unfold baseQ; rw [if_neg e2, if_pos rfl])
      clear HQ HO
      go_wp2_with (first | (with_reducible refine wpList_load_rel z1 rfl _ rfl rfl ?_) | (with_reducible refine wpList_store_rel z0 (orR (froM h) (timM h)) rfl _ _ rfl rfl rfl ?_))
      have h3 := z0.setRow (orR (froM h) (timM h))
      exact bodyPost_ret (results_rel rfl _ _ _ _ rfl h3) rfl ⟨ret_rel HE.out, below_setRow hb (Nat.le_refl _) _⟩
  · go_upto_region 3 with fail
    have kd := (Below.refl w2.heap.size w2).drew
    have HV : Hid (∀ wx, Below w2.heap.size w2 wx → RelAt wx (w.heap.size + 1) 97 (froM h)) := Lib.hid (fun wx hx => z1.below hx z1.lt)
    have HZ : Hid (∀ wx, Below w2.heap.size w2 wx → RelAt wx w.heap.size 97 noR) := Lib.hid (fun wx hx => z0.below hx z0.lt)
    have HB := Lib.hid (fun wx (hx : Below w2.heap.size w2 wx) => hb.trans (hx.mono hb.size))
    have HSB := Lib.hid (fun wx (hx : Below w2.heap.size w2 wx) => HO.out wx (hb.trans (hx.mono hb.size)))
    have HSF : Hid (∀ wx, Below w2.heap.size w2 wx → ∀ (cs : Array Value), OrdB (wx.setRow (w.heap.size + 1) cs) B h) := Lib.hid (fun wx hx cs => HO.out _ (below_setRow (hb.trans (hx.mono hb.size)) (by omega) cs))
    clear z1 z0 hb
    refine wp_region_held_drew (S := fun wx => OrdB wx B h) (by kernel_rfl) (HSB.out _ kd) (fun hS0 => ?_)
    refine takeG (some 14) (i := 1) (v := ?va1) rfl rfl (by kernel_rfl) (by kernel_rfl) (by kernel_rfl) (fun _ _ _ h => h) (Or.inl ⟨by rfl, ?ha1⟩) hS0 ?ra1
    case ha1 => (intro w hw; go_simp; try (with_reducible rfl))
    try simp only [Act.put, List.setIfInBounds_toArray, List.set_cons_zero, List.set_cons_succ]
    refine takeG (some 15) (i := 2) (v := ?va2) rfl rfl (by kernel_rfl) (by kernel_rfl) (by kernel_rfl) (fun _ _ _ h => h) (Or.inl ⟨by rfl, ?ha2⟩) hS0 ?ra2
    case ha2 => (intro w hw; have hn := hw.cN; go_simp; try (with_reducible rfl))
    try simp only [Act.put, List.setIfInBounds_toArray, List.set_cons_zero, List.set_cons_succ]
    refine takeG (some 16) (i := 3) (v := ?va3) rfl rfl (by kernel_rfl) (by kernel_rfl) (by kernel_rfl) (fun _ _ _ h => h) (Or.inl ⟨by rfl, ?ha3⟩) hS0 ?ra3
    case ha3 => (intro w hw; have hn := hw.cN; go_simp; try (with_reducible rfl))
    try simp only [Act.put, List.setIfInBounds_toArray, List.set_cons_zero, List.set_cons_succ]
    refine takeG (some 17) (i := 4) (v := _) rfl rfl (by kernel_rfl) (by kernel_rfl) (by kernel_rfl) (fun _ _ _ h => h) (yields_load_part (by rfl) _ rfl rfl (fun wx hx => OrdB.rS hx)) hS0 ?_
    try simp only [Act.put, List.setIfInBounds_toArray, List.set_cons_zero, List.set_cons_succ]
    refine wpAnyH_ready (rs := [0]) (by kernel_rfl) (by simp) ?_
    refine AllReadyH.cons rfl (fun K hK => ?_) AllReadyH.nil
    rw [if_pos (by rfl)]
    refine wp_load_rel (HV.out _ kd) _ rfl rfl ?_
    refine hK.out _ _ hS0 (fun _ => ?_)
    clear hK K
    refine wpAnyH_ready (rs := [5]) (by kernel_rfl) (by simp) ?_
    refine AllReadyH.cons rfl (fun K hK => ?_) AllReadyH.nil
    go_simp
    refine (union_any (froM h) (sesM h) _).mono ?_
    rintro e qa1 ⟨rfl, hqa1⟩
    show K _ _
    have ka1 := below_then kd hqa1
    have sa1 := HSB.out _ ka1
    refine hK.out _ _ sa1 (fun _ => ?_)
    clear hK K
    refine wpAnyH_ready (rs := [6]) (by kernel_rfl) (by simp) ?_
    refine AllReadyH.cons rfl (fun K hK => ?_) AllReadyH.nil
    rw [if_pos (by rfl)]
    refine wp_store_rel (HV.out _ ka1) (orR (froM h) (sesM h)) _ _ rfl rfl rfl ?_
    refine hK.out _ _ (HSF.out _ ka1 _) (fun _ => ?_)
    clear hK K
    refine wpAnyH_done (by kernel_rfl) ?_ _
    have z1 := (HV.out _ ka1).setRow (orR (froM h) (sesM h))
    have z0 := (HZ.out _ ka1).far (g' := w.heap.size + 1) (by omega) (rowsA (orR (froM h) (sesM h)))
    have hb := below_setRow (HB.out _ ka1) (g := w.heap.size + 1) (by omega) (rowsA (orR (froM h) (sesM h)))
    generalize World.setRow _ _ _ = w2' at *
    clear HV HZ HB HSB HSF kd
    go_upto_region 4 with fail
    by_cases e2 : q2 = 0
    · subst e2
      go_upto_region 6 with fail
      have HE : Hid ((orR (froM h) (sesM h)) = baseM h x) := Lib.hid (by rw [HQ.out]; unfold baseQ; rw [if_pos rfl, if_neg e1])
      clear HQ HO
      go_wp2_with (first | (with_reducible refine wpList_load_rel z1 rfl _ rfl rfl ?_) | (with_reducible refine wpList_store_rel z0 (orR (froM h) (sesM h)) rfl _ _ rfl rfl rfl ?_))
      have h3 := z0.setRow (orR (froM h) (sesM h))
      exact bodyPost_ret (results_rel rfl _ _ _ _ rfl h3) rfl ⟨ret_rel HE.out, below_setRow hb (Nat.le_refl _) _⟩
    · go_upto_region 5 with fail
      have kd := (Below.refl w2'.heap.size w2').drew
      have HV : Hid (∀ wx, Below w2'.heap.size w2' wx → RelAt wx (w.heap.size + 1) 97 (orR (froM h) (sesM h))) := Lib.hid (fun wx hx => z1.below hx z1.lt)
      have HZ : Hid (∀ wx, Below w2'.heap.size w2' wx → RelAt wx w.heap.size 97 noR) := Lib.hid (fun wx hx => z0.below hx z0.lt)
      have HB := Lib.hid (fun wx (hx : Below w2'.heap.size w2' wx) => hb.trans (hx.mono hb.size))
      have HSB := Lib.hid (fun wx (hx : Below w2'.heap.size w2' wx) => HO.out wx (hb.trans (hx.mono hb.size)))
      have HSF : Hid (∀ wx, Below w2'.heap.size w2' wx → ∀ (cs : Array Value), OrdB (wx.setRow (w.heap.size + 1) cs) B h) := Lib.hid (fun wx hx cs => HO.out _ (below_setRow (hb.trans (hx.mono hb.size)) (by omega) cs))
      clear z1 z0 hb
      refine wp_region_held_drew (S := fun wx => OrdB wx B h) (by kernel_rfl) (HSB.out _ kd) (fun hS0 => ?_)
      refine takeG (some 23) (i := 1) (v := ?vbw2'1) rfl rfl (by kernel_rfl) (by kernel_rfl) (by kernel_rfl) (fun _ _ _ h => h) (Or.inl ⟨by rfl, ?hbw2'1⟩) hS0 ?rbw2'1
      case hbw2'1 => (intro w hw; go_simp; try (with_reducible rfl))
      try simp only [Act.put, List.setIfInBounds_toArray, List.set_cons_zero, List.set_cons_succ]
      refine takeG (some 24) (i := 2) (v := ?vbw2'2) rfl rfl (by kernel_rfl) (by kernel_rfl) (by kernel_rfl) (fun _ _ _ h => h) (Or.inl ⟨by rfl, ?hbw2'2⟩) hS0 ?rbw2'2
      case hbw2'2 => (intro w hw; have hn := hw.cN; go_simp; try (with_reducible rfl))
      try simp only [Act.put, List.setIfInBounds_toArray, List.set_cons_zero, List.set_cons_succ]
      refine takeG (some 25) (i := 3) (v := ?vbw2'3) rfl rfl (by kernel_rfl) (by kernel_rfl) (by kernel_rfl) (fun _ _ _ h => h) (Or.inl ⟨by rfl, ?hbw2'3⟩) hS0 ?rbw2'3
      case hbw2'3 => (intro w hw; have hn := hw.cN; go_simp; try (with_reducible rfl))
      try simp only [Act.put, List.setIfInBounds_toArray, List.set_cons_zero, List.set_cons_succ]
      refine takeG (some 26) (i := 4) (v := _) rfl rfl (by kernel_rfl) (by kernel_rfl) (by kernel_rfl) (fun _ _ _ h => h) (yields_load_part (by rfl) _ rfl rfl (fun wx hx => OrdB.rT hx)) hS0 ?_
      try simp only [Act.put, List.setIfInBounds_toArray, List.set_cons_zero, List.set_cons_succ]
      refine wpAnyH_ready (rs := [0]) (by kernel_rfl) (by simp) ?_
      refine AllReadyH.cons rfl (fun K hK => ?_) AllReadyH.nil
      rw [if_pos (by rfl)]
      refine wp_load_rel (HV.out _ kd) _ rfl rfl ?_
      refine hK.out _ _ hS0 (fun _ => ?_)
      clear hK K
      refine wpAnyH_ready (rs := [5]) (by kernel_rfl) (by simp) ?_
      refine AllReadyH.cons rfl (fun K hK => ?_) AllReadyH.nil
      go_simp
      refine (union_any (orR (froM h) (sesM h)) (timM h) _).mono ?_
      rintro e qbw2'1 ⟨rfl, hqbw2'1⟩
      show K _ _
      have kbw2'1 := below_then kd hqbw2'1
      have sbw2'1 := HSB.out _ kbw2'1
      refine hK.out _ _ sbw2'1 (fun _ => ?_)
      clear hK K
      refine wpAnyH_ready (rs := [6]) (by kernel_rfl) (by simp) ?_
      refine AllReadyH.cons rfl (fun K hK => ?_) AllReadyH.nil
      rw [if_pos (by rfl)]
      refine wp_store_rel (HV.out _ kbw2'1) (orR (orR (froM h) (sesM h)) (timM h)) _ _ rfl rfl rfl ?_
      refine hK.out _ _ (HSF.out _ kbw2'1 _) (fun _ => ?_)
      clear hK K
      refine wpAnyH_done (by kernel_rfl) ?_ _
      have z1 := (HV.out _ kbw2'1).setRow (orR (orR (froM h) (sesM h)) (timM h))
      have z0 := (HZ.out _ kbw2'1).far (g' := w.heap.size + 1) (by omega) (rowsA (orR (orR (froM h) (sesM h)) (timM h)))
      have hb := below_setRow (HB.out _ kbw2'1) (g := w.heap.size + 1) (by omega) (rowsA (orR (orR (froM h) (sesM h)) (timM h)))
      generalize World.setRow _ _ _ = w2'' at *
      clear HV HZ HB HSB HSF kd
      have HE : Hid ((orR (orR (froM h) (sesM h)) (timM h)) = baseM h x) := Lib.hid (by rw [HQ.out]; unfold baseQ; rw [if_neg e2, if_neg e1])
      clear HQ HO
      go_wp2_with (first | (with_reducible refine wpList_load_rel z1 rfl _ rfl rfl ?_) | (with_reducible refine wpList_store_rel z0 (orR (orR (froM h) (sesM h)) (timM h)) rfl _ _ rfl rfl rfl ?_))
      have h3 := z0.setRow (orR (orR (froM h) (sesM h)) (timM h))
      exact bodyPost_ret (results_rel rfl _ _ _ _ rfl h3) rfl ⟨ret_rel HE.out, below_setRow hb (Nat.le_refl _) _⟩
end Go.Proofs.YtecpeegbfeijaaaGreatDoor

namespace Go.Proofs.YtecpeegbfeijaaaGreatDoor
set_option maxRecDepth 100000
open Go.RowKit

/-- Who writes to one of these keys. -/
def rivS (F : Int → Option Nat) (xs : List Int) : Nat := xs.foldl (fun s x => s ||| (F x).getD 0) 0
theorem rivS_snoc (F : Int → Option Nat) (xs : List Int) (k : Nat) (hk : k < xs.length) : rivS F (xs.take (k + 1)) = rivS F (xs.take k) ||| (F xs[k]).getD 0 := by
  unfold rivS; rw [List.take_succ_eq_append_getElem hk, List.foldl_append]; rfl
theorem isSet_or2 {a b : Nat} (ha : IsSet a) (hb : IsSet b) : IsSet (a ||| b) := by
  unfold IsSet at *
  exact Nat.or_lt_two_pow (n := 64) ha hb
theorem rivS_set {F : Int → Option Nat} (hA : AllSet F) (xs : List Int) : ∀ k, k ≤ xs.length → IsSet (rivS F (xs.take k))
  | 0, _ => by unfold rivS IsSet; simp
  | k + 1, hk => by rw [rivS_snoc F xs k (by omega)]; exact isSet_or2 (rivS_set hA xs k (by omega)) (hA _)
section
variable {w : World} {B bm m c : Nat} {n : Int} {S T F : Mat} {vk vr : Value} {sd : Bool} {Fm : Int → Option Nat} {K : List KRow}
set_option maxHeartbeats 8000000 in
theorem orivals_none (i : Int) (hO : OrdAt w B n S T F (.map (some bm)) vk vr sd) (hK : Rws w vk K) (hi : i < 0 ∨ K.length ≤ i) :
    Calls Tryz.prog 179 #[.pointer (some ⟨B, 0, none⟩), .int .i64 i] w fun e w' => e = .returned (.int .u64 0) ∧ Below w.heap.size w w' := by
  have q1 := hO.cK
  obtain ⟨ao, cap, rfl⟩ := hK.form
  have hf : hi = hi := rfl
  clear hO hK hf
  by_cases h0 : i < 0
  · go_enter Tryz.func179, Tryz.ntmps179
    go_wp2_with fail
    go_ret
    exact ⟨rfl, Below.refl _ _⟩
  · have h1 : (K.length : Int) ≤ i := by omega
    go_enter Tryz.func179, Tryz.ntmps179
    go_wp2_with fail
    go_ret
    exact ⟨rfl, Below.refl _ _⟩
set_option maxHeartbeats 8000000 in
theorem orivals_any (i : Nat) (hO : OrdAt w B n S T F (.map (some bm)) vk vr sd) (hM : MapI eS Tryz.prog 3 w bm m Fm c) (hA : AllSet Fm) (hK : Rws w vk K) (hk : ∀ p ∈ K, ∀ x ∈ p.2, InI x) (hi : i < K.length) :
    Calls Tryz.prog 179 #[.pointer (some ⟨B, 0, none⟩), .int .i64 i] w fun e w' => e = .returned (.int .u64 ((woS (rivS Fm K[i].2) (i : Int) : Nat) : Int)) ∧ Below w.heap.size w w' := by
  have q1 := hO.cK
  have q2 := hO.cM
  obtain ⟨ao, cap, rfl⟩ := hK.form
  obtain ⟨g, o, hao, c0, hin⟩ := hK.at hi
  cases hao
  have hii : (i : Int) < (K.length : Int) := by omega
  have HIK := Lib.hid (hk _ (List.getElem_mem hi))
  have HIN := Lib.hid (fun wx (hx : Below w.heap.size w wx) => hin.below hx)
  have HM := Lib.hid (fun wx (hx : Below w.heap.size w wx) => hM.below hx)
  have HC := Lib.hid (fun wx (hx : Below w.heap.size w wx) => (hx.cell (p := ⟨B, 193, none⟩) (block_lt q2)).trans q2)
  have HA := Lib.hid hA
  generalize K[i] = p at *
  obtain ⟨v, xs⟩ := p
  simp only at c0 hin HIK HIN
  obtain ⟨ax, cx, rfl, hxl⟩ := hin.form
  clear hO hM hA hK hk hin
  go_enter Tryz.func179, Tryz.ntmps179
  go_wp2_with fail
  have e1 : decide ((i : Int) < 0) = false := decide_eq_false (by omega)
  have e2 : decide (K.length ≤ i) = false := decide_eq_false (by omega)
  simp only [e1, e2, Bool.or_self]
  clear e1 e2 c0 q1 hii
  go_loopw [5, 27] (fun s j wr => ∃ k : Nat, k ≤ xs.length ∧ j = .int .i64 k ∧ s = .int .u64 ((rivS Fm (xs.take k) : Nat) : Int) ∧ Below w.heap.size w wr) (fun _ j _ => xs.length - (intOf j).toNat)
  case atStart => exact ⟨0, by omega, rfl, rfl, Below.refl _ _⟩
  case round =>
    obtain ⟨k, hk, rfl, rfl, hb⟩ := hrel
    have hset := rivS_set HA.out xs k hk
    by_cases hlt : k < xs.length
    · have hki : (k : Int) < (xs.length : Int) := by omega
      obtain ⟨g2, o2, hao2, e0⟩ := (HIN.out _ hb).at hlt
      cases hao2
      have HS := Lib.hid (rivS_snoc Fm xs k hlt)
      have hkv := HIK.out xs[k] (List.getElem_mem hlt)
      have hset2 := HA.out xs[k]
      have hM2 := HM.out _ hb
      have q3 := HC.out _ hb
      generalize xs[k] = x at *
      generalize rivS Fm (xs.take k) = a at *
      have HR := Lib.hid (Go.bits_or_u64_nat a ((Fm x).getD 0) hset hset2)
      go_wp2_with (at_lookup; refine wpList_lookI _ rfl _ _ 98 rfl 3 95 keyI mapIS 0 (zeroS _) _ _ _ _ rfl hM2 _ rfl hkv ?_; simp only [eS])
      go_roundw
      case rel => exact ⟨k + 1, by omega, by go_num, by rw [HS.out]; exact congrArg _ HR.out, hb⟩
      case measure => simp [intOf]; omega
    · have hk2 : k = xs.length := by omega
      subst hk2
      rw [List.take_length] at *
      have CW := Lib.hid (fun wx => wo_any (rivS Fm xs) (i : Int) wx hset)
      go_wp2_with fail
      refine (CW.out _).mono ?_
      rintro e w1 ⟨rfl, rfl⟩
      go_wp2_with fail
      go_ret
      exact ⟨rfl, hb⟩
end
end Go.Proofs.YtecpeegbfeijaaaGreatDoor

namespace Go.Proofs.YtecpeegbfeijaaaGreatDoor
set_option maxRecDepth 100000
open Go.RowKit

set_option maxHeartbeats 4000000 in
theorem mayop_any (wr : Bool) (key val : Int) (w : World) :
    Calls Tryz.prog 154 #[.agg #[.bool wr, .int .i64 key, .int .i64 val]] w fun e w' => e = .returned (.bool (mayO ⟨wr, key, val⟩)) ∧ Below w.heap.size w w' := by
  have hi : mayO ⟨wr, key, val⟩ = true ↔ (0 ≤ key ∧ key < 64) ∧ (0 ≤ val ∧ val ≤ 2147483647) ∧ (wr = true → val ≠ 0) := mayO_iff ⟨wr, key, val⟩
  have hb := box_below w (.cells #[.bool wr, .int .i64 key, .int .i64 val] 55)
  have NO : Hid (¬ ((0 ≤ key ∧ key < 64) ∧ (0 ≤ val ∧ val ≤ 2147483647) ∧ (wr = true → val ≠ 0)) → false = mayO ⟨wr, key, val⟩) := Lib.hid (fun h => by
    cases hm : mayO ⟨wr, key, val⟩
    · rfl
    · exact absurd (hi.1 hm) h)
  by_cases d1 : key < 0
  · have H := Lib.hid (NO.out (by omega))
    go_enter Tryz.func154, Tryz.ntmps154
    go_wp2_with fail
    go_ret
    exact ⟨ret_b H.out, hb⟩
  by_cases d2 : (63 : Int) < key
  · have H := Lib.hid (NO.out (by omega))
    go_enter Tryz.func154, Tryz.ntmps154
    go_wp2_with fail
    go_ret
    exact ⟨ret_b H.out, hb⟩
  by_cases d3 : val < 0
  · have H := Lib.hid (NO.out (by omega))
    go_enter Tryz.func154, Tryz.ntmps154
    go_wp2_with fail
    go_ret
    exact ⟨ret_b H.out, hb⟩
  by_cases d4 : (2147483647 : Int) < val
  · have H := Lib.hid (NO.out (by omega))
    go_enter Tryz.func154, Tryz.ntmps154
    go_wp2_with fail
    go_ret
    exact ⟨ret_b H.out, hb⟩
  cases wr
  · have H : Hid (true = mayO ⟨false, key, val⟩) := Lib.hid (hi.2 ⟨by omega, by omega, fun h => by cases h⟩).symm
    clear hi NO
    go_enter Tryz.func154, Tryz.ntmps154
    go_wp2_with fail
    go_ret
    exact ⟨ret_b H.out, hb⟩
  · by_cases d5 : val = 0
    · have H := Lib.hid (NO.out (fun h => h.2.2 rfl d5))
      subst d5
      clear hi NO
      go_enter Tryz.func154, Tryz.ntmps154
      go_wp2_with fail
      go_ret
      exact ⟨ret_b H.out, hb⟩
    · have H : Hid (true = mayO ⟨true, key, val⟩) := Lib.hid (hi.2 ⟨by omega, by omega, fun _ => d5⟩).symm
      have d6 : (val != 0) = true := by simpa using d5
      clear hi NO d5
      go_enter Tryz.func154, Tryz.ntmps154
      go_wp2_with fail
      go_ret
      exact ⟨ret_b H.out, hb⟩
set_option maxHeartbeats 8000000 in
theorem maytxn_any (s b c : Int) (va : Value) (l : List OpV) (w : World) (ha : Ops w va l) :
    Calls Tryz.prog 105 #[.agg #[.int .i64 s, .int .i64 b, .int .i64 c, va]] w fun e w' => e = .returned (.bool (mayT s b c l)) ∧ Below w.heap.size w w' := by
  obtain ⟨ao, cap, rfl, hal⟩ := ha.form
  have hb0 := (Below.refl w.heap.size w).alloc (Nat.le_refl _) (.cells #[.int .i64 s, .int .i64 b, .int .i64 c, .slice ao l.length cap] 59)
  have hA0 := At.new w (.cells #[.int .i64 s, .int .i64 b, .int .i64 c, .slice ao l.length cap] 59)
  have NO : Hid (¬ (0 ≤ s ∧ s < 64 ∧ 0 ≤ b ∧ b < c ∧ c ≤ 2147483647 ∧ 1 ≤ l.length ∧ l.length ≤ 64) → false = mayT s b c l) := Lib.hid (fun h => (mayT_no h).symm)
  by_cases d1 : s < 0
  · have H := Lib.hid (NO.out (by omega))
    go_enter Tryz.func105, Tryz.ntmps105
    go_wp2_with fail
    go_ret
    exact ⟨ret_b H.out, hb0⟩
  by_cases d2 : (63 : Int) < s
  · have H := Lib.hid (NO.out (by omega))
    go_enter Tryz.func105, Tryz.ntmps105
    go_wp2_with fail
    go_ret
    exact ⟨ret_b H.out, hb0⟩
  by_cases d3 : b < 0
  · have H := Lib.hid (NO.out (by omega))
    go_enter Tryz.func105, Tryz.ntmps105
    go_wp2_with fail
    go_ret
    exact ⟨ret_b H.out, hb0⟩
  by_cases d4 : c ≤ b
  · have H := Lib.hid (NO.out (by omega))
    go_enter Tryz.func105, Tryz.ntmps105
    go_wp2_with fail
    go_ret
    exact ⟨ret_b H.out, hb0⟩
  by_cases d5 : (2147483647 : Int) < c
  · have H := Lib.hid (NO.out (by omega))
    go_enter Tryz.func105, Tryz.ntmps105
    go_wp2_with fail
    go_ret
    exact ⟨ret_b H.out, hb0⟩
  by_cases d6 : (l.length : Int) < 1
  · have H := Lib.hid (NO.out (by omega))
    go_enter Tryz.func105, Tryz.ntmps105
    go_wp2_with fail
    go_ret
    exact ⟨ret_b H.out, hb0⟩
  by_cases d7 : (64 : Int) < (l.length : Int)
  · have H := Lib.hid (NO.out (by omega))
    go_enter Tryz.func105, Tryz.ntmps105
    go_wp2_with fail
    go_ret
    exact ⟨ret_b H.out, hb0⟩
  have YES : Hid (mayT s b c l = allM l) := Lib.hid (mayT_yes (by omega))
  clear NO
  go_enter Tryz.func105, Tryz.ntmps105
  go_wp2_with fail
  clear d1 d2 d3 d4 d5 d6 d7
  go_loopw [3] (fun i wr => ∃ k : Nat, k ≤ l.length ∧ i = .int .i64 k ∧ allM (l.take k) = true ∧ At wr w.heap.size (.cells #[.int .i64 s, .int .i64 b, .int .i64 c, .slice ao l.length cap] 59) ∧ Below w.heap.size w wr) (fun i _ => l.length - (intOf i).toNat)
  case atStart => exact ⟨0, by omega, rfl, rfl, hA0, hb0⟩
  case round =>
    obtain ⟨k, hk, rfl, hal2, hA, hb⟩ := hrel
    have HA := Lib.hid hal2
    clear hal2 hb0 hA0
    obtain ⟨q0, q1, q2, q3⟩ := hA.cells4
    by_cases hlt : k < l.length
    · have hki : (k : Int) < (l.length : Int) := by omega
      obtain ⟨g, o, hao, c0, c1, c2⟩ := (ha.below hb).at hlt
      cases hao
      have HS := Lib.hid (allM_succ l k hlt)
      have HNO := Lib.hid (allM_no l k hlt)
      generalize l[k] = x at *
      obtain ⟨xw, xk, xv⟩ := x
      try simp only at c0 c1 c2
      have CR := Lib.hid (mayop_any xw xk xv wr)
      generalize mayO ⟨xw, xk, xv⟩ = q at *
      go_wp2_with fail
      refine (CR.out).mono ?_
      rintro e w1 ⟨rfl, hb1⟩
      have hb2 := below_then hb hb1
      have hA1 := hA.below hb1
      clear CR q0 q1 q2 q3
      cases q
      · have H : Hid (false = mayT s b c l) := Lib.hid (by rw [YES.out, HNO.out rfl])
        go_wp2_with fail
        go_ret
        exact ⟨ret_b H.out, hb2⟩
      · have H : Hid (allM (l.take (k + 1)) = true) := Lib.hid (by rw [HS.out, HA.out]; rfl)
        go_wp2_with fail
        go_roundw
        case rel => exact ⟨k + 1, by omega, by go_num, H.out, hA1, hb2⟩
        case measure => simp [intOf]; omega
    · have hkl : k = l.length := by omega
      have H : Hid (true = mayT s b c l) := Lib.hid (by have := HA.out; rw [hkl, List.take_length] at this; rw [YES.out, this])
      go_wp2_with fail
      go_ret
      exact ⟨ret_b H.out, hb⟩
/-- How often a value is written. -/
def tmO (x : Int) (l : List OpV) : Nat := (wv l).count x
def tmH (x : Int) (h : List TxnV) : Nat := (wvH h).count x
theorem tmO_succ (x : Int) (l : List OpV) (k : Nat) (hk : k < l.length) : tmO x (l.take (k + 1)) = tmO x (l.take k) + (if l[k].wr = true ∧ l[k].val = x then 1 else 0) := by
  unfold tmO
  rw [take_snoc l k hk, wv_snoc, List.count_append]
  cases hw : l[k].wr
  · simp
  · by_cases e : l[k].val = x <;> simp [e]
theorem tmH_succ (x : Int) (h : List TxnV) (k : Nat) (hk : k < h.length) : tmH x (h.take (k + 1)) = tmH x (h.take k) + tmO x h[k].l := by
  unfold tmH tmO; rw [wvH_succ h k hk, List.count_append]
theorem tmO_le (x : Int) (l : List OpV) (k : Nat) : tmO x (l.take k) ≤ k := by
  unfold tmO
  have h1 := List.count_le_length (a := x) (l := wv (l.take k))
  have h2 := wv_len (l.take k)
  rw [List.length_take] at h2
  omega
theorem tmH_le (x : Int) (h : List TxnV) : tmH x h ≤ opsN h := by
  unfold tmH
  have h1 := List.count_le_length (a := x) (l := wvH h)
  have h2 : (wvH h).length ≤ opsN h := by
    unfold wvH opsN
    rw [List.length_flatMap]
    clear h1
    induction h with
    | nil => simp
    | cons t h ih =>
      have := wv_len t.l
      simp only [List.map_cons, List.sum_cons]
      omega
  omega
set_option maxHeartbeats 8000000 in
theorem times_any (va : Value) (h : List TxnV) (x : Int) (w : World) (hT : Txns w va h) (hn : opsN h ≤ 100000) :
    Calls Tryz.prog 106 #[va, .int .i64 x] w fun e w' => e = .returned (.int .i64 (tmH x h)) ∧ Below w.heap.size w w' := by
  obtain ⟨ao, cap, rfl, hal⟩ := hT.form
  go_enter Tryz.func106, Tryz.ntmps106
  go_wp2_with fail
  go_loopw [5, 6] (fun n i wr => ∃ k : Nat, k ≤ h.length ∧ i = .int .i64 k ∧ n = .int .i64 (tmH x (h.take k)) ∧ w = wr) (fun _ i _ => h.length - (intOf i).toNat)
  case atStart => exact ⟨0, by omega, rfl, by simp [tmH, wvH], rfl⟩
  case round =>
    obtain ⟨k, hk, rfl, rfl, rfl⟩ := hrel
    by_cases hlt : k < h.length
    · have hki : (k : Int) < (h.length : Int) := by omega
      obtain ⟨g, o, hao, c0, c1, c2, c3⟩ := hT.at hlt
      cases hao
      have HS := Lib.hid (tmH_succ x h k hlt)
      have hle1 := tmH_le x (h.take k)
      have hle2 := opsN_le h k
      have hle3 := opsN_at h k hlt
      obtain ⟨ai, capi, hv, hli⟩ := (hT.ops hlt).form
      have hO := hT.ops hlt
      rw [hv] at c3 hO
      generalize h[k].l = l at *
      generalize tmH x (h.take k) = m at *
      clear hv c0 c1 c2 hT
      go_wp2_with fail
      go_loopw [5, 7] (fun n i wx => ∃ j : Nat, j ≤ l.length ∧ i = .int .i64 j ∧ n = .int .i64 ((m + tmO x (l.take j) : Nat)) ∧ w = wx) (fun _ i _ => l.length - (intOf i).toNat)
      case atStart => exact ⟨0, by omega, rfl, by simp [tmO, wv], rfl⟩
      case round =>
        obtain ⟨j, hj, rfl, rfl, rfl⟩ := hrel
        have htj := tmO_le x l j
        by_cases hltj : j < l.length
        · have hkj : (j : Int) < (l.length : Int) := by omega
          obtain ⟨g2, o2, hao2, e0, e1, e2⟩ := hO.at hltj
          cases hao2
          have HSJ := Lib.hid (tmO_succ x l j hltj)
          generalize l[j] = y at *
          obtain ⟨yw, yk, yv⟩ := y
          try simp only at e0 e1 e2
          generalize tmO x (l.take j) = n at *
          cases yw with
          | false =>
            have H : Hid (tmO x (l.take (j + 1)) = n) := Lib.hid (by rw [HSJ.out]; simp)
            clear HSJ
            go_wp2_with fail
            go_roundw
            case rel => exact ⟨j + 1, by omega, by go_num, by rw [H.out], by first | rfl | trivial⟩
            case measure => simp [intOf]; omega
          | true =>
            by_cases hx : yv = x
            · have H : Hid (tmO x (l.take (j + 1)) = n + 1) := Lib.hid (by rw [HSJ.out]; simp [hx])
              subst hx
              clear HSJ
              go_wp2_with fail
              go_roundw
              case rel => exact ⟨j + 1, by omega, by go_num, by rw [H.out]; go_num, by first | rfl | trivial⟩
              case measure => simp [intOf]; omega
            · have H : Hid (tmO x (l.take (j + 1)) = n) := Lib.hid (by rw [HSJ.out]; simp [hx])
              have hx' : (yv == x) = false := by simpa using hx
              clear HSJ hx
              go_wp2_with fail
              go_roundw
              case rel => exact ⟨j + 1, by omega, by go_num, by rw [H.out], by first | rfl | trivial⟩
              case measure => simp [intOf]; omega
        · have hj2 : j = l.length := by omega
          subst hj2
          have H : Hid (tmH x (h.take (k + 1)) = m + tmO x (l.take l.length)) := Lib.hid (by rw [HS.out, List.take_length])
          generalize tmO x (l.take l.length) = n at *
          go_wp2_with fail
          go_roundw
          case rel => exact ⟨k + 1, by omega, by go_num, by rw [H.out], by first | rfl | trivial⟩
          case measure => simp [intOf]; omega
    · have hkl : k = h.length := by omega
      subst hkl
      have H : Hid ((tmH x (h.take h.length) : Int) = tmH x h) := Lib.hid (by rw [List.take_length])
      generalize tmH x (h.take h.length) = n at *
      go_wp2_with fail
      go_ret
      exact ⟨ret_int H.out, Below.refl _ _⟩
end Go.Proofs.YtecpeegbfeijaaaGreatDoor

namespace Go.Proofs.YtecpeegbfeijaaaGreatDoor
set_option maxRecDepth 100000
open Go.RowKit

def isWr (key x : Int) (o : OpV) : Bool := o.wr && (o.key == key && o.val == x)
/-- Who writes a value to a key; -1: nobody does. -/
def wrI (key x : Int) (h : List TxnV) : Int := match h.findIdx? (fun t => t.l.any (isWr key x)) with
  | some i => i
  | none => -1
theorem wrI_hit {key x : Int} {h : List TxnV} {k j : Nat} (hk : k < h.length) (hj : j < h[k].l.length) (hn : ∀ i, ∀ hi : i < k, (h[i]'(by omega)).l.any (isWr key x) = false) (hh : isWr key x h[k].l[j] = true) : wrI key x h = k := by
  unfold wrI
  have : h.findIdx? (fun t => t.l.any (isWr key x)) = some k := by
    rw [List.findIdx?_eq_some_iff_getElem]
    exact ⟨hk, List.any_eq_true.2 ⟨_, List.getElem_mem hj, hh⟩, fun i hi => by rw [hn i hi]; simp⟩
  rw [this]
theorem wrI_none {key x : Int} {h : List TxnV} (hn : ∀ i, ∀ hi : i < h.length, h[i].l.any (isWr key x) = false) : wrI key x h = -1 := by
  unfold wrI
  have : h.findIdx? (fun t => t.l.any (isWr key x)) = none := by
    rw [List.findIdx?_eq_none_iff]
    intro t ht
    obtain ⟨i, hi, rfl⟩ := List.getElem_of_mem ht
    exact hn i hi
  rw [this]
theorem wrI_nonneg {key x : Int} {h : List TxnV} : wrI key x h < 0 ↔ ∀ t ∈ h, ∀ o ∈ t.l, isWr key x o = false := by
  unfold wrI
  cases hf : h.findIdx? (fun t => t.l.any (isWr key x)) with
  | none =>
    rw [List.findIdx?_eq_none_iff] at hf
    simp only [Int.reduceNeg, Int.reduceLT, true_iff]
    intro t ht o ho
    have := List.any_eq_false.1 (hf t ht) o ho
    simpa using this
  | some i =>
    rw [List.findIdx?_eq_some_iff_getElem] at hf
    obtain ⟨hi, h1, _⟩ := hf
    constructor
    · intro h2; simp only at h2; omega
    · intro h2
      obtain ⟨o, ho, hw⟩ := List.any_eq_true.1 h1
      rw [h2 _ (List.getElem_mem hi) o ho] at hw
      cases hw
set_option maxHeartbeats 8000000 in
theorem writer_any (va : Value) (h : List TxnV) (key x : Int) (w : World) (hT : Txns w va h) :
    Calls Tryz.prog 85 #[va, .int .i64 key, .int .i64 x] w fun e w' => e = .returned (.int .i64 (wrI key x h)) ∧ Below w.heap.size w w' := by
  obtain ⟨ao, cap, rfl, hal⟩ := hT.form
  have HT := Lib.hid (fun wx (hx : Below w.heap.size w wx) => hT.below hx)
  have HHIT : Hid (∀ k j, ∀ hk : k < h.length, ∀ hj : j < h[k].l.length, (∀ i, ∀ hi : i < k, (h[i]'(by omega)).l.any (isWr key x) = false) → isWr key x h[k].l[j] = true → (k : Int) = wrI key x h) := Lib.hid (fun k j hk hj hn hh => (wrI_hit hk hj hn hh).symm)
  have HNONE : Hid ((∀ i, ∀ hi : i < h.length, h[i].l.any (isWr key x) = false) → (-1 : Int) = wrI key x h) := Lib.hid (fun hn => (wrI_none hn).symm)
  clear hT
  go_enter Tryz.func85, Tryz.ntmps85
  go_wp2_with fail
  go_loopw [7] (fun i wr => ∃ k : Nat, k ≤ h.length ∧ i = .int .i64 k ∧ (∀ i, ∀ _ : i < k, ∀ hi2 : i < h.length, h[i].l.any (isWr key x) = false) ∧ Below w.heap.size w wr) (fun i _ => h.length - (intOf i).toNat)
  case atStart => exact ⟨0, by omega, rfl, by omega, Below.refl _ _⟩
  case round =>
    obtain ⟨k, hk, rfl, hN, hb⟩ := hrel
    have HN := Lib.hid hN
    clear hN
    by_cases hlt : k < h.length
    · have hki : (k : Int) < (h.length : Int) := by omega
      obtain ⟨g, o, hao, c0, c1, c2, c3⟩ := (HT.out _ hb).at hlt
      cases hao
      have HOP := Lib.hid (fun wx (hx : Below w.heap.size w wx) => (HT.out wx hx).ops hlt)
      have HAT := Lib.hid (fun wx (hx : Below w.heap.size w wx) => (HT.out wx hx).at hlt)
      have HHK := Lib.hid (fun j hj hh => HHIT.out k j hlt hj (fun i hi => HN.out i hi (by omega)) hh)
      have HLK : Hid (h[k].l.any (isWr key x) = false → ∀ i, ∀ _ : i < k + 1, ∀ hi2 : i < h.length, h[i].l.any (isWr key x) = false) := Lib.hid (fun hh i hi hi2 => by
        rcases Nat.lt_or_eq_of_le (Nat.le_of_lt_succ hi) with h1 | rfl
        · exact HN.out i h1 hi2
        · exact hh)
      obtain ⟨ai, capi, hv, hli⟩ := ((HT.out _ hb).ops hlt).form
      rw [hv] at HOP c3 HAT
      generalize h[k].l = l at *
      clear hv c0 c1 c2 c3 HHIT HNONE
      go_wp2_with fail
      go_loopw [8] (fun i wx => ∃ j : Nat, j ≤ l.length ∧ i = .int .i64 j ∧ ((l.take j).any (isWr key x) = false) ∧ Below w.heap.size w wx) (fun i _ => l.length - (intOf i).toNat)
      case atStart => exact ⟨0, by omega, rfl, rfl, hb⟩
      case round =>
        obtain ⟨j, hj, rfl, hA, hb2⟩ := hrel
        have HA := Lib.hid hA
        clear hA hb
        obtain ⟨_, _, hao, c0, c1, c2, c3⟩ := HAT.out _ hb2
        cases hao
        clear c0 c1 c2
        by_cases hltj : j < l.length
        · have hkj : (j : Int) < (l.length : Int) := by omega
          obtain ⟨g2, o2, hao2, e0, e1, e2⟩ := (HOP.out _ hb2).at hltj
          cases hao2
          have HS : Hid ((l.take (j + 1)).any (isWr key x) = ((l.take j).any (isWr key x) || isWr key x l[j])) := Lib.hid (by rw [take_snoc l j hltj, List.any_append]; simp)
          have HH := Lib.hid (HHK.out j hltj)
          generalize l[j] = y at *
          obtain ⟨yw, yk, yv⟩ := y
          try simp only at e0 e1 e2
          have hb3 := hb2.alloc hb2.size (.cells #[.bool yw, .int .i64 yk, .int .i64 yv] 55)
          clear HHK
          cases yw with
          | false =>
            have H : Hid ((l.take (j + 1)).any (isWr key x) = false) := Lib.hid (by rw [HS.out, HA.out]; rfl)
            clear HS HH
            go_wp2_with fail
            go_roundw
            case rel => exact ⟨j + 1, by omega, by go_num, H.out, hb3⟩
            case measure => simp [intOf]; omega
          | true =>
            by_cases hyk : yk = key
            · subst hyk
              by_cases hyv : yv = x
              · have H := Lib.hid (HH.out (by subst hyv; unfold isWr; simp))
                subst hyv
                clear HS HH
                go_wp2_with fail
                go_ret
                exact ⟨ret_int H.out, hb3⟩
              · have H : Hid ((l.take (j + 1)).any (isWr yk x) = false) := Lib.hid (by rw [HS.out, HA.out]; unfold isWr; simp [hyv])
                have hyv' : (yv == x) = false := by simpa using hyv
                clear HS HH hyv
                go_wp2_with fail
                go_roundw
                case rel => exact ⟨j + 1, by omega, by go_num, H.out, hb3⟩
                case measure => simp [intOf]; omega
            · have H : Hid ((l.take (j + 1)).any (isWr key x) = false) := Lib.hid (by rw [HS.out, HA.out]; unfold isWr; simp [hyk])
              have hyk' : (yk == key) = false := by simpa using hyk
              clear HS HH hyk
              go_wp2_with fail
              go_roundw
              case rel => exact ⟨j + 1, by omega, by go_num, H.out, hb3⟩
              case measure => simp [intOf]; omega
        · have hj2 : j = l.length := by omega
          subst hj2
          have H := Lib.hid (HLK.out (by have := HA.out; rwa [List.take_length] at this))
          go_wp2_with fail
          go_roundw
          case rel => exact ⟨k + 1, by omega, by go_num, H.out, hb2⟩
          case measure => simp [intOf]; omega
    · have hkl : k = h.length := by omega
      subst hkl
      have H := Lib.hid (HNONE.out (fun i hi => HN.out i hi hi))
      clear HHIT HNONE
      go_wp2_with fail
      go_ret
      exact ⟨ret_int H.out, hb⟩
end Go.Proofs.YtecpeegbfeijaaaGreatDoor

namespace Go.Proofs.YtecpeegbfeijaaaGreatDoor
set_option maxRecDepth 100000
open Go.RowKit

/-- Do two transactions' stamps, and their sessions', go beside each other? -/
def apartB (a t : TxnV) : Bool := (a.b != t.b && (a.b != t.c && (a.c != t.b && a.c != t.c))) && !(a.s == t.s && decide (t.b < a.c))
def opR (h : List TxnV) (o : OpV) : Bool := if o.wr then tmH o.val h == 1 else o.val == 0 || !decide (wrI o.key o.val h < 0)
def rowR (h : List TxnV) (k : Nat) (t : TxnV) : Bool := mayT t.s t.b t.c t.l && ((h.take k).all (fun a => apartB a t) && t.l.all (opR h))
def mayRef (h : List TxnV) : Bool := (List.range h.length).all fun k => match h[k]? with
  | some t => rowR h k t
  | none => true
theorem mayRef_no {h : List TxnV} {k : Nat} (hk : k < h.length) (hn : rowR h k h[k] = false) : mayRef h = false := by
  unfold mayRef
  rw [List.all_eq_false]
  exact ⟨k, List.mem_range.2 hk, by rw [List.getElem?_eq_getElem hk]; simp [hn]⟩
theorem mayRef_yes {h : List TxnV} (hn : ∀ k, ∀ hk : k < h.length, rowR h k h[k] = true) : mayRef h = true := by
  unfold mayRef
  rw [List.all_eq_true]
  intro k hk
  have := List.mem_range.1 hk
  rw [List.getElem?_eq_getElem this]; exact hn k this
theorem rowR_a {h : List TxnV} {k : Nat} {t : TxnV} (hn : mayT t.s t.b t.c t.l = false) : rowR h k t = false := by unfold rowR; rw [hn]; rfl
theorem rowR_b {h : List TxnV} {k : Nat} {t : TxnV} {j : Nat} (hj : j < k) (hk : k ≤ h.length) (hn : apartB (h[j]'(by omega)) t = false) : rowR h k t = false := by
  unfold rowR
  have : (h.take k).all (fun a => apartB a t) = false := List.all_eq_false.2 ⟨h[j]'(by omega), by rw [List.mem_take_iff_getElem]; exact ⟨j, by omega, rfl⟩, by simp [hn]⟩
  rw [this]; simp
theorem rowR_c {h : List TxnV} {k : Nat} {t : TxnV} {j : Nat} (hj : j < t.l.length) (hn : opR h t.l[j] = false) : rowR h k t = false := by
  unfold rowR
  have : t.l.all (opR h) = false := List.all_eq_false.2 ⟨t.l[j], List.getElem_mem hj, by simp [hn]⟩
  rw [this]; simp
set_option maxHeartbeats 16000000 in
theorem rmay_any (va : Value) (h : List TxnV) (w : World) (hT : Txns w va h) (hn : opsN h ≤ 100000) :
    Calls Tryz.prog 54 #[va] w fun e w' => e = .returned (.bool (mayRef h)) ∧ Below w.heap.size w w' := by
  obtain ⟨ao, cap, rfl, hal⟩ := hT.form
  have HT := Lib.hid (fun wx (hx : Below w.heap.size w wx) => hT.below hx)
  have HNO : Hid (∀ k, ∀ hk : k < h.length, rowR h k h[k] = false → false = mayRef h) := Lib.hid (fun k hk hh => (mayRef_no hk hh).symm)
  have HTM : Hid (∀ x wx, Below w.heap.size w wx → Calls Tryz.prog 106 #[.slice ao h.length cap, .int .i64 x] wx fun e w' => e = .returned (.int .i64 (tmH x h)) ∧ Below wx.heap.size wx w') := Lib.hid (fun x wx hx => times_any _ h x wx (hT.below hx) hn)
  have HWR : Hid (∀ key x wx, Below w.heap.size w wx → Calls Tryz.prog 85 #[.slice ao h.length cap, .int .i64 key, .int .i64 x] wx fun e w' => e = .returned (.int .i64 (wrI key x h)) ∧ Below wx.heap.size wx w') := Lib.hid (fun key x wx hx => writer_any _ h key x wx (hT.below hx))
  clear hT
  go_enter Tryz.func54, Tryz.ntmps54
  go_wp2_with fail
  go_loopw [3] (fun i wr => ∃ k : Nat, k ≤ h.length ∧ i = .int .i64 k ∧ (∀ j, ∀ _ : j < k, ∀ hj : j < h.length, rowR h j h[j] = true) ∧ Below w.heap.size w wr) (fun i _ => h.length - (intOf i).toNat)
  case atStart => exact ⟨0, by omega, rfl, by omega, Below.refl _ _⟩
  case round =>
    obtain ⟨k, hk, rfl, hN, hb⟩ := hrel
    have HN := Lib.hid hN
    clear hN
    by_cases hlt : k < h.length
    · have hki : (k : Int) < (h.length : Int) := by omega
      obtain ⟨g, o, hao, c0, c1, c2, c3⟩ := (HT.out _ hb).at hlt
      cases hao
      have HOP := Lib.hid (fun wx (hx : Below w.heap.size w wx) => (HT.out wx hx).ops hlt)
      have HAT := Lib.hid (fun wx (hx : Below w.heap.size w wx) => (HT.out wx hx).at hlt)
      have HAJ := Lib.hid (fun wx (hx : Below w.heap.size w wx) j (hj : j < h.length) => (HT.out wx hx).at hj)
      have HNK := Lib.hid (HNO.out k hlt)
      have HLK : Hid (rowR h k h[k] = true → ∀ i, ∀ _ : i < k + 1, ∀ hi2 : i < h.length, rowR h i h[i] = true) := Lib.hid (fun hh i hi hi2 => by
        rcases Nat.lt_or_eq_of_le (Nat.le_of_lt_succ hi) with h1 | rfl
        · exact HN.out i h1 hi2
        · exact hh)
      have HJV : Hid (∀ wx, Below w.heap.size w wx → ∀ j, ∀ hj : j < h.length, ∃ a' m' c', (h[j]).v = .slice a' m' c') := Lib.hid (fun wx hx j hj => by
        obtain ⟨a', c', hv', _⟩ := ((HT.out wx hx).ops hj).form
        exact ⟨a', _, c', hv'⟩)
      generalize ht : h[k] = t at *
      have HTK := Lib.hid ht
      clear ht
      obtain ⟨s, b, c, v, l⟩ := t
      simp only at c0 c1 c2 c3 HOP HAT
      obtain ⟨ai, capi, rfl, hli⟩ := (HOP.out _ hb).form
      have CM := Lib.hid (maytxn_any s b c _ l wr (HOP.out _ hb))
      clear HN
      cases hm : mayT s b c l
      · have H := Lib.hid (HNK.out (rowR_a hm))
        rw [hm] at CM
        clear hm HNK HLK HNO
        go_wp2_with fail
        refine (CM.out).mono ?_
        rintro e w1 ⟨rfl, hb1⟩
        have hb2 := below_then hb hb1
        go_wp2_with fail
        go_ret
        exact ⟨ret_b H.out, hb2⟩
      rw [hm] at CM
      have HM := Lib.hid hm
      clear hm
      go_wp2_with fail
      refine (CM.out).mono ?_
      rintro e w1 ⟨rfl, hb1⟩
      have hb2 := below_then hb hb1
      clear CM hb hb1 c0 c1 c2 c3
      go_wp2_with fail
      go_loopw [4] (fun i wx => ∃ j : Nat, j ≤ k ∧ i = .int .i64 j ∧ ((h.take j).all (fun a => apartB a ⟨s, b, c, .slice ai l.length capi, l⟩) = true) ∧ Below w.heap.size w wx) (fun i _ => k - (intOf i).toNat)
      case atStart => exact ⟨0, by omega, rfl, rfl, hb2⟩
      case round =>
        obtain ⟨j, hj, rfl, hA, hb3⟩ := hrel
        have HA := Lib.hid hA
        clear hA hb2
        by_cases hltj : j < k
        · have hkj : (j : Int) < (k : Int) := by omega
          have hjl : j < h.length := by omega
          have hjl' : (j : Int) < (h.length : Int) := by omega
          obtain ⟨_, _, hao, c0, c1, c2, c3⟩ := HAJ.out _ hb3 j hjl
          cases hao
          have HS : Hid ((h.take (j + 1)).all (fun a => apartB a ⟨s, b, c, .slice ai l.length capi, l⟩) = ((h.take j).all (fun a => apartB a ⟨s, b, c, .slice ai l.length capi, l⟩) && apartB h[j] ⟨s, b, c, .slice ai l.length capi, l⟩)) := Lib.hid (by rw [List.take_succ_eq_append_getElem hjl, List.all_append]; simp)
          have HB := Lib.hid (fun hh => HNK.out (rowR_b hltj hk hh))
          obtain ⟨a1, m1, cap1, hv1⟩ := HJV.out _ hb3 j hjl
          rw [hv1] at c3
          generalize h[j] = u at *
          obtain ⟨us, ub, uc, uv, ul⟩ := u
          simp only at c0 c1 c2 hv1
          subst hv1
          have hb4 := hb3.alloc hb3.size (.cells #[.int .i64 us, .int .i64 ub, .int .i64 uc, .slice a1 m1 cap1] 59)
          have hb5 := hb4.alloc hb4.size (.cells #[.int .i64 s, .int .i64 b, .int .i64 c, .slice ai l.length capi] 59)
          obtain ⟨_, _, hao, e0, e1, e2, e3⟩ := HAT.out _ hb4
          cases hao
          have HAP : Hid (apartB ⟨us, ub, uc, .slice a1 m1 cap1, ul⟩ ⟨s, b, c, .slice ai l.length capi, l⟩ = ((ub != b && (ub != c && (uc != b && uc != c))) && !(us == s && decide (b < uc)))) := Lib.hid rfl
          generalize apartB ⟨us, ub, uc, .slice a1 m1 cap1, ul⟩ ⟨s, b, c, .slice ai l.length capi, l⟩ = q at *
          cases b1 : ub == b
          case true =>
            have H := Lib.hid (HB.out (by rw [HAP.out]; simp [bne, b1]))
            clear HLK HNO HNK HB HAP HS
            go_wp2_with fail
            go_ret
            exact ⟨ret_b H.out, hb5⟩
          cases b2 : ub == c
          case true =>
            have H := Lib.hid (HB.out (by rw [HAP.out]; simp [bne, b1, b2]))
            clear HLK HNO HNK HB HAP HS
            go_wp2_with fail
            go_ret
            exact ⟨ret_b H.out, hb5⟩
          cases b3 : uc == b
          case true =>
            have H := Lib.hid (HB.out (by rw [HAP.out]; simp [bne, b1, b2, b3]))
            clear HLK HNO HNK HB HAP HS
            go_wp2_with fail
            go_ret
            exact ⟨ret_b H.out, hb5⟩
          cases b4 : uc == c
          case true =>
            have H := Lib.hid (HB.out (by rw [HAP.out]; simp [bne, b1, b2, b3, b4]))
            clear HLK HNO HNK HB HAP HS
            go_wp2_with fail
            go_ret
            exact ⟨ret_b H.out, hb5⟩
          cases b5 : us == s
          case false =>
            have H : Hid ((h.take (j + 1)).all (fun a => apartB a ⟨s, b, c, .slice ai l.length capi, l⟩) = true) := Lib.hid (by rw [HS.out, HA.out, HAP.out]; simp [bne, b1, b2, b3, b4, b5])
            clear HB HAP HS
            go_wp2_with fail
            go_roundw
            case rel => exact ⟨j + 1, by omega, by go_num, H.out, hb5⟩
            case measure => simp [intOf]; omega
          by_cases d6 : b < uc
          · have H := Lib.hid (HB.out (by rw [HAP.out]; simp [bne, b1, b2, b3, b4, b5, d6]))
            clear HLK HNO HNK HB HAP HS
            go_wp2_with fail
            go_ret
            exact ⟨ret_b H.out, hb5⟩
          · have H : Hid ((h.take (j + 1)).all (fun a => apartB a ⟨s, b, c, .slice ai l.length capi, l⟩) = true) := Lib.hid (by rw [HS.out, HA.out, HAP.out]; simp [bne, b1, b2, b3, b4, b5, d6])
            clear HB HAP HS
            go_wp2_with fail
            go_roundw
            case rel => exact ⟨j + 1, by omega, by go_num, H.out, hb5⟩
            case measure => simp [intOf]; omega
        · have hjk : j = k := by omega
          subst hjk
          have HRO : Hid (rowR h j ⟨s, b, c, .slice ai l.length capi, l⟩ = l.all (opR h)) := Lib.hid (by unfold rowR; rw [HM.out, HA.out]; rfl)
          have HOO := Lib.hid (fun i hi hh => HNK.out (rowR_c (j := i) hi hh))
          clear HNK HM HA HJV HAJ
          go_wp2_with fail
          go_loopw [7] (fun i wx => ∃ m : Nat, m ≤ l.length ∧ i = .int .i64 m ∧ (l.take m).all (opR h) = true ∧ Below w.heap.size w wx) (fun i _ => l.length - (intOf i).toNat)
          case atStart => exact ⟨0, by omega, rfl, rfl, hb3⟩
          case round =>
            obtain ⟨m, hm, rfl, hA, hb4⟩ := hrel
            have HA := Lib.hid hA
            clear hA hb3
            obtain ⟨_, _, hao, c0, c1, c2, c3⟩ := HAT.out _ hb4
            cases hao
            clear c0 c1 c2
            by_cases hltm : m < l.length
            · have hkm : (m : Int) < (l.length : Int) := by omega
              obtain ⟨g2, o2, hao2, e0, e1, e2⟩ := (HOP.out _ hb4).at hltm
              cases hao2
              have HS : Hid ((l.take (m + 1)).all (opR h) = ((l.take m).all (opR h) && opR h l[m])) := Lib.hid (by rw [take_snoc l m hltm, List.all_append]; simp)
              have HB := Lib.hid (HOO.out m hltm)
              generalize l[m] = y at *
              obtain ⟨yw, yk, yv⟩ := y
              try simp only at e0 e1 e2
              have hb5 := hb4.alloc hb4.size (.cells #[.bool yw, .int .i64 yk, .int .i64 yv] 55)
              have HOR : Hid (opR h ⟨yw, yk, yv⟩ = if yw then tmH yv h == 1 else yv == 0 || !decide (wrI yk yv h < 0)) := Lib.hid rfl
              generalize opR h ⟨yw, yk, yv⟩ = q at *
              cases yw with
              | true =>
                simp only [if_true] at HOR
                have CT := Lib.hid (HTM.out yv _ hb5)
                generalize tmH yv h = n at *
                cases hn1 : n == 1
                · have H := Lib.hid (HB.out (by rw [HOR.out, hn1]))
                  have hn2 : ((n : Int) != 1) = true := by simp at hn1 ⊢; omega
                  clear HLK HNO HOO HB HOR HS hn1
                  go_wp2_with fail
                  refine (CT.out).mono ?_
                  rintro e w6 ⟨rfl, hb6⟩
                  have hb7 := below_then hb5 hb6
                  go_wp2_with fail
                  go_ret
                  exact ⟨ret_b H.out, hb7⟩
                · have H : Hid ((l.take (m + 1)).all (opR h) = true) := Lib.hid (by rw [HS.out, HA.out, HOR.out, hn1]; rfl)
                  obtain rfl : n = 1 := by simpa using hn1
                  change Hid (Calls _ _ _ _ fun e w' => e = .returned (.int .i64 1) ∧ _) at CT
                  clear HB HOR HS hn1
                  obtain ⟨x0, x1, x2⟩ := opBlock wr (.bool true) (.int .i64 yk) (.int .i64 yv) 55
                  go_wp2_with fail
                  refine (CT.out).mono ?_
                  rintro e w6 ⟨rfl, hb6⟩
                  have hb7 := below_then hb5 hb6
                  have z0 := (hb6.cell (p := ⟨wr.heap.size, 0, none⟩) (block_lt x0)).trans x0
                  have z1 := (hb6.cell (p := ⟨wr.heap.size, 1, none⟩) (block_lt x1)).trans x1
                  have z2 := (hb6.cell (p := ⟨wr.heap.size, 2, none⟩) (block_lt x2)).trans x2
                  clear x0 x1 x2
                  go_wp2_with fail
                  go_roundw
                  case rel => exact ⟨m + 1, by omega, by go_num, H.out, hb7⟩
                  case measure => simp [intOf]; omega
              | false =>
                simp only [Bool.false_eq_true, if_false] at HOR
                cases hz : yv == 0
                · have hz2 : (yv != 0) = true := by simp [bne, hz]
                  have CW := Lib.hid (HWR.out yk yv _ hb5)
                  generalize wrI yk yv h = n at *
                  by_cases hneg : n < 0
                  · have H := Lib.hid (HB.out (by rw [HOR.out, hz]; simp [hneg]))
                    clear HLK HNO HOO HB HOR HS
                    go_wp2_with fail
                    refine (CW.out).mono ?_
                    rintro e w6 ⟨rfl, hb6⟩
                    have hb7 := below_then hb5 hb6
                    go_wp2_with fail
                    go_ret
                    exact ⟨ret_b H.out, hb7⟩
                  · have H : Hid ((l.take (m + 1)).all (opR h) = true) := Lib.hid (by rw [HS.out, HA.out, HOR.out, hz]; simp [hneg])
                    clear HB HOR HS
                    go_wp2_with fail
                    refine (CW.out).mono ?_
                    rintro e w6 ⟨rfl, hb6⟩
                    have hb7 := below_then hb5 hb6
                    go_wp2_with fail
                    go_roundw
                    case rel => exact ⟨m + 1, by omega, by go_num, H.out, hb7⟩
                    case measure => simp [intOf]; omega
                · have hz2 : (yv != 0) = false := by simp [bne, hz]
                  have H : Hid ((l.take (m + 1)).all (opR h) = true) := Lib.hid (by rw [HS.out, HA.out, HOR.out, hz]; rfl)
                  clear HB HOR HS
                  go_wp2_with fail
                  go_roundw
                  case rel => exact ⟨m + 1, by omega, by go_num, H.out, hb5⟩
                  case measure => simp [intOf]; omega
            · have hm2 : m = l.length := by omega
              subst hm2
              have H := Lib.hid (HLK.out (by rw [HRO.out]; have := HA.out; rwa [List.take_length] at this))
              go_wp2_with fail
              go_roundw
              case rel => exact ⟨j + 1, by omega, by go_num, H.out, hb4⟩
              case measure => simp [intOf]; omega
    · have hkl : k = h.length := by omega
      subst hkl
      have H : Hid (true = mayRef h) := Lib.hid (mayRef_yes (fun k hk => HN.out k hk hk)).symm
      clear HNO HTM HWR
      go_wp2_with fail
      go_ret
      exact ⟨ret_b H.out, hb⟩
end Go.Proofs.YtecpeegbfeijaaaGreatDoor

namespace Go.Proofs.YtecpeegbfeijaaaGreatDoor
set_option maxRecDepth 100000
open Go.RowKit

/-- All writes, one behind the other. -/
def wrs (h : List TxnV) : List OpV := h.flatMap fun t => t.l.filter (·.wr)
theorem wvH_map (h : List TxnV) : wvH h = (wrs h).map (·.val) := by unfold wvH wrs wv; rw [List.map_flatMap]
theorem wrs_mem {h : List TxnV} {o : OpV} : o ∈ wrs h ↔ ∃ t ∈ h, o ∈ t.l ∧ o.wr = true := by unfold wrs; simp
theorem inj_val : ∀ {L : List OpV}, (L.map (·.val)).Nodup → ∀ {o p : OpV}, o ∈ L → p ∈ L → o.val = p.val → o = p
  | a :: L, hd, o, p, ho, hp, e => by
    rw [List.map_cons, List.nodup_cons] at hd
    rcases List.mem_cons.1 ho with rfl | ho
    · rcases List.mem_cons.1 hp with rfl | hp
      · rfl
      · exact absurd (List.mem_map.2 ⟨p, hp, e.symm⟩) hd.1
    · rcases List.mem_cons.1 hp with hpe | hp
      · exact absurd (List.mem_map.2 ⟨o, ho, by rw [e, hpe]⟩) hd.1
      · exact inj_val hd.2 ho hp e
theorem okW_inj {h : List TxnV} (hw : okW h = true) {o p : OpV} (ho : o ∈ wrs h) (hp : p ∈ wrs h) (e : o.val = p.val) : o = p := by
  unfold okW at hw
  rw [decide_eq_true_eq, wvH_map] at hw
  exact inj_val hw ho hp e
theorem okW_count {h : List TxnV} : okW h = true ↔ ∀ t ∈ h, ∀ o ∈ t.l, o.wr = true → tmH o.val h = 1 := by
  unfold okW tmH
  rw [decide_eq_true_eq]
  constructor
  · intro hd t ht o ho hw
    rw [List.Nodup.count hd, if_pos]
    rw [wvH_map]
    exact List.mem_map.2 ⟨o, wrs_mem.2 ⟨t, ht, ho, hw⟩, rfl⟩
  · intro hc
    rw [List.nodup_iff_count]
    intro x
    by_cases hx : x ∈ wvH h
    · have hx2 := hx
      rw [wvH_map] at hx2
      obtain ⟨o, ho, rfl⟩ := List.mem_map.1 hx2
      obtain ⟨t, ht, ho2, hw⟩ := wrs_mem.1 ho
      exact Nat.le_of_eq (hc t ht o ho2 hw)
    · rw [List.count_eq_zero_of_not_mem hx]; omega
/-- What is told of each value is a write that there is. -/
def Real (h : List TxnV) (F : Int → Option WV) : Prop := ∀ x u, F x = some u → ∃ o ∈ wrs h, o.val = x ∧ o.key = u.key
theorem real_put {h : List TxnV} {F : Int → Option WV} (hF : Real h F) {o : OpV} (ho : o ∈ wrs h) (i : Int) (b : Bool) : Real h (putF F o.val ⟨i, o.key, b⟩) := by
  intro x u hx
  unfold putF at hx
  split at hx
  · rename_i e
    cases hx
    exact ⟨o, ho, e.symm, rfl⟩
  · exact hF x u hx
theorem real_add {h : List TxnV} (i : Int) : ∀ (l : List OpV) (F : Int → Option WV), Real h F → (∀ o ∈ l, o.wr = true → o ∈ wrs h) → Real h (addF i F l)
  | [], F, hF, _ => hF
  | a :: l, F, hF, hl => by
    show Real h (addF i (addOne i F a) l)
    refine real_add i l _ ?_ (fun o ho => hl o (List.mem_cons_of_mem _ ho))
    unfold addOne
    split
    · rename_i hw
      exact real_put hF (hl a List.mem_cons_self hw) i false
    · exact hF
theorem real_fin {h : List TxnV} (i : Int) : ∀ (l : List OpV) (F : Int → Option WV), Real h F → (∀ o ∈ l, o ∈ wrs h) → Real h (finF i F l)
  | [], F, hF, _ => hF
  | a :: l, F, hF, hl => by
    show Real h (finF i (putF F a.val ⟨i, a.key, true⟩) l)
    exact real_fin i l _ (real_put hF (hl a List.mem_cons_self) i true) (fun o ho => hl o (List.mem_cons_of_mem _ ho))
theorem refWrites_mem {l : List OpV} {o : OpV} (h : o ∈ refWrites l) : o ∈ l ∧ o.wr = true := by
  unfold refWrites at h
  obtain ⟨k, _, hk⟩ := upTo_mem.1 h
  have := lastW_key (l := l) (x := k) hk
  exact ⟨this.2.2, this.2.1⟩
theorem real_wr (h : List TxnV) : ∀ k, k ≤ h.length → Real h (wrTo h k)
  | 0, _ => fun x u hx => by simp [wrTo] at hx
  | k + 1, hk => by
    have hlt : k < h.length := by omega
    rw [wrTo_succ, opsAt_eq hlt]
    have hm : ∀ o ∈ h[k].l, o.wr = true → o ∈ wrs h := fun o ho hw => wrs_mem.2 ⟨_, List.getElem_mem hlt, ho, hw⟩
    exact real_fin _ _ _ (real_add _ _ _ (real_wr h k (by omega)) hm) (fun o ho => hm o (refWrites_mem ho).1 (refWrites_mem ho).2)
theorem dom_add (i : Int) : ∀ (l : List OpV) (F : Int → Option WV) (x : Int), (addF i F l x).isSome = ((F x).isSome || decide (x ∈ wv l))
  | [], F, x => by simp [addF, wv]
  | a :: l, F, x => by
    show (addF i (addOne i F a) l x).isSome = _
    rw [dom_add i l]
    have hc : wv (a :: l) = (if a.wr then [a.val] else []) ++ wv l := by
      unfold wv
      cases hw : a.wr <;> simp [hw]
    rw [hc]
    unfold addOne putF
    cases hw : a.wr
    · simp
    · by_cases e : x = a.val <;> simp [e]
theorem dom_fin (i : Int) : ∀ (l : List OpV) (F : Int → Option WV) (x : Int), (finF i F l x).isSome = ((F x).isSome || decide (x ∈ l.map (·.val)))
  | [], F, x => by simp [finF]
  | a :: l, F, x => by
    show (finF i (putF F a.val ⟨i, a.key, true⟩) l x).isSome = _
    rw [dom_fin i l]
    unfold putF
    by_cases e : x = a.val <;> simp [e]
theorem dom_wr (h : List TxnV) : ∀ k, k ≤ h.length → ∀ x, (wrTo h k x).isSome = decide (x ∈ wvH (h.take k))
  | 0, _ => fun x => by simp [wrTo, wvH]
  | k + 1, hk => fun x => by
    have hlt : k < h.length := by omega
    rw [wrTo_succ, opsAt_eq hlt, dom_fin, dom_add, dom_wr h k (by omega), wvH_succ h k hlt]
    have : x ∈ (refWrites h[k].l).map (·.val) → x ∈ wv h[k].l := fun hx => by
      obtain ⟨o, ho, rfl⟩ := List.mem_map.1 hx
      exact wv_mem.2 ⟨o, (refWrites_mem ho).1, (refWrites_mem ho).2, rfl⟩
    rw [Bool.eq_iff_iff]
    simp only [Bool.or_eq_true, decide_eq_true_eq, List.mem_append]
    constructor
    · rintro ((h1 | h1) | h1)
      · exact .inl h1
      · exact .inr h1
      · exact .inr (this h1)
    · rintro (h1 | h1)
      · exact .inl (.inl h1)
      · exact .inl (.inr h1)
theorem rd_iff {h : List TxnV} (hw : okW h = true) (o : OpV) : rdOk (wrTo h h.length) o = (o.wr || o.val == 0 || !decide (wrI o.key o.val h < 0)) := by
  unfold rdOk
  cases hv : (o.wr || o.val == 0)
  · rw [Bool.false_or, Bool.false_or]
    have hd := dom_wr h h.length (Nat.le_refl _) o.val
    rw [List.take_length] at hd
    cases hF : wrTo h h.length o.val with
    | none =>
      rw [hF] at hd
      simp only
      symm
      rw [Bool.not_eq_false', decide_eq_true_eq, wrI_nonneg]
      intro t ht p hp
      unfold isWr
      cases hpw : p.wr
      · rfl
      · have hne : ¬ p.val = o.val := fun e => by
          have : o.val ∈ wvH h := by rw [wvH_map]; exact List.mem_map.2 ⟨p, wrs_mem.2 ⟨t, ht, hp, hpw⟩, e⟩
          simp [this] at hd
        simp [hne]
    | some u =>
      obtain ⟨p, hp, e1, e2⟩ := real_wr h h.length (Nat.le_refl _) _ _ hF
      simp only
      rw [Bool.eq_iff_iff, beq_iff_eq, Bool.not_eq_true', decide_eq_false_iff_not, wrI_nonneg]
      constructor
      · intro e hn
        obtain ⟨t, ht, hp2, hpw⟩ := wrs_mem.1 hp
        have := hn t ht p hp2
        unfold isWr at this
        simp [hpw, e1, e2, e] at this
      · intro hn
        have : ∃ q ∈ wrs h, q.key = o.key ∧ q.val = o.val := Classical.byContradiction fun hno => hn fun t ht q hq => by
          unfold isWr
          cases hqw : q.wr
          · rfl
          · cases hqk : q.key == o.key
            · rfl
            · cases hqv : q.val == o.val
              · rfl
              · exact absurd ⟨q, wrs_mem.2 ⟨t, ht, hq, hqw⟩, by simpa using hqk, by simpa using hqv⟩ hno
        obtain ⟨q, hq, e3, e4⟩ := this
        have := okW_inj hw hp hq (by rw [e1, e4])
        subst this
        rw [← e2, e3]
  · rfl
/-- Stamps that are unlike. -/
def Apart (a t : TxnV) : Prop := a.b ≠ t.b ∧ a.b ≠ t.c ∧ a.c ≠ t.b ∧ a.c ≠ t.c
theorem apartB_iff (a t : TxnV) : apartB a t = true ↔ Apart a t ∧ ¬ (a.s = t.s ∧ t.b < a.c) := by
  unfold apartB Apart
  simp only [Bool.and_eq_true, bne_iff_ne, Bool.not_eq_true', Bool.and_eq_false_iff, beq_eq_false_iff_ne, decide_eq_false_iff_not, Classical.not_and_iff_not_or_not, ne_eq]
theorem stL_mem {h : List TxnV} {x : Int} : x ∈ stL h ↔ ∃ t ∈ h, x = t.b ∨ x = t.c := by unfold stL; simp
theorem st_take {h : List TxnV} {k : Nat} (hd : (stL (h.take k)).Nodup) : ∀ i j, ∀ hj : j < k, ∀ hk : k ≤ h.length, ∀ hi : i < j, Apart (h[i]'(by omega)) (h[j]'(by omega)) := by
  intro i j hj hk hi
  have e : stL (h.take k) = stL (h.take (j + 1)) ++ stL ((h.take k).drop (j + 1)) := by
    unfold stL
    rw [← List.flatMap_append]
    congr 1
    rw [show h.take (j + 1) = (h.take k).take (j + 1) from by rw [List.take_take]; congr 1; omega]
    exact (List.take_append_drop _ _).symm
  rw [e] at hd
  have h1 := (List.nodup_append.1 hd).1
  rw [stL_succ h j (by omega)] at h1
  have h2 := (List.nodup_append.1 h1).2.2
  have mem : h[i]'(by omega) ∈ h.take j := by rw [List.mem_take_iff_getElem]; exact ⟨i, by omega, rfl⟩
  have mb : (h[i]'(by omega)).b ∈ stL (h.take j) := stL_mem.2 ⟨_, mem, .inl rfl⟩
  have mc : (h[i]'(by omega)).c ∈ stL (h.take j) := stL_mem.2 ⟨_, mem, .inr rfl⟩
  exact ⟨h2 _ mb _ (by simp), h2 _ mb _ (by simp), h2 _ mc _ (by simp), h2 _ mc _ (by simp)⟩
theorem st_nodup {h : List TxnV} (hbc : ∀ t ∈ h, t.b < t.c) (ha : ∀ i j, ∀ hj : j < h.length, ∀ hi : i < j, Apart (h[i]'(by omega)) h[j]) : ∀ k, k ≤ h.length → (stL (h.take k)).Nodup
  | 0, _ => by simp [stL]
  | k + 1, hk => by
    have hlt : k < h.length := by omega
    rw [stL_succ h k hlt, List.nodup_append]
    refine ⟨st_nodup hbc ha k (by omega), ?_, ?_⟩
    · have := hbc _ (List.getElem_mem hlt)
      simp; omega
    · intro x hx y hy
      obtain ⟨t, ht, hxt⟩ := stL_mem.1 hx
      rw [List.mem_take_iff_getElem] at ht
      obtain ⟨i, hi, rfl⟩ := ht
      have hA := ha i k hlt (by omega)
      unfold Apart at hA
      simp at hy
      rcases hxt with rfl | rfl <;> rcases hy with rfl | rfl
      · exact hA.1
      · exact hA.2.1
      · exact hA.2.2.1
      · exact hA.2.2.2
end Go.Proofs.YtecpeegbfeijaaaGreatDoor

namespace Go.Proofs.YtecpeegbfeijaaaGreatDoor
set_option maxRecDepth 100000
open Go.RowKit

theorem endF_find (h : List TxnV) (s : Int) : ∀ k, k ≤ h.length → match endF (h.take k) s with
    | none => ∀ j, ∀ hj : j < k, ∀ hk : k ≤ h.length, (h[j]'(by omega)).s ≠ s
    | some e => ∃ m, ∃ hm : m < k, ∃ hk : k ≤ h.length, (h[m]'(by omega)).s = s ∧ (h[m]'(by omega)).c = e ∧ ∀ j, ∀ hj : j < k, m < j → (h[j]'(by omega)).s ≠ s
  | 0, _ => by simp [endF]
  | k + 1, hk => by
    have hlt : k < h.length := by omega
    have ih := endF_find h s k (by omega)
    rw [endF_succ h k hlt]
    unfold putF
    by_cases e : s = h[k].s
    · rw [if_pos e]
      exact ⟨k, by omega, hk, e.symm, rfl, fun j hj hmj => by omega⟩
    · rw [if_neg e]
      cases hF : endF (h.take k) s with
      | none =>
        rw [hF] at ih
        intro j hj hk2
        rcases Nat.lt_or_eq_of_le (Nat.le_of_lt_succ hj) with h1 | rfl
        · exact ih j h1 (by omega)
        · exact fun e2 => e e2.symm
      | some c =>
        rw [hF] at ih
        obtain ⟨m, hm, hk2, h1, h2, h3⟩ := ih
        refine ⟨m, by omega, hk, h1, h2, fun j hj hmj => ?_⟩
        rcases Nat.lt_or_eq_of_le (Nat.le_of_lt_succ hj) with h4 | rfl
        · exact h3 j h4 hmj
        · exact fun e2 => e e2.symm
theorem ses_all {h : List TxnV} (hs : sesB h = true) (hbc : ∀ t ∈ h, t.b < t.c) : ∀ j, ∀ hj : j < h.length, ∀ i, ∀ hi : i < j, (h[i]'(by omega)).s = h[j].s → (h[i]'(by omega)).c < h[j].b := by
  intro j
  induction j using Nat.strongRecOn with
  | ind j ih =>
    intro hj i hi e
    have h1 := List.all_eq_true.1 hs j (List.mem_range.2 hj)
    rw [sesOk_at hj] at h1
    have h2 := endF_find h h[j].s j (by omega)
    cases hF : endF (h.take j) h[j].s with
    | none =>
      rw [hF] at h2
      exact absurd e (h2 i hi (by omega))
    | some c =>
      rw [hF] at h1 h2
      obtain ⟨m, hm, hk2, e1, e2, e3⟩ := h2
      simp only [decide_eq_true_eq] at h1
      rcases Nat.lt_trichotomy i m with h4 | rfl | h4
      · have h5 := ih m hm (by omega) i h4 (by rw [e1]; exact e)
        have h6 := hbc _ (List.getElem_mem (show m < h.length by omega))
        omega
      · omega
      · exact absurd e (e3 i hi h4)
theorem ses_mk {h : List TxnV} (ha : ∀ j, ∀ hj : j < h.length, ∀ i, ∀ hi : i < j, (h[i]'(by omega)).s = h[j].s → (h[i]'(by omega)).c < h[j].b) : sesB h = true := by
  refine sesB_all fun j hj => ?_
  rw [sesOk_at hj]
  have h2 := endF_find h h[j].s j (by omega)
  cases hF : endF (h.take j) h[j].s with
  | none => rfl
  | some c =>
    rw [hF] at h2
    obtain ⟨m, hm, hk2, e1, e2, e3⟩ := h2
    simp only [decide_eq_true_eq]
    rw [← e2]; exact ha j hj m hm e1
theorem mayT_bc {t : TxnV} (h : mayT t.s t.b t.c t.l = true) : t.b < t.c := by
  unfold mayT at h
  simp only [Bool.and_eq_true, decide_eq_true_eq] at h
  exact h.1.2.2.2.1
theorem right_ref (h : List TxnV) : rightB h = mayRef h := by
  rw [Bool.eq_iff_iff]
  constructor
  · intro hr
    unfold rightB at hr
    simp only [Bool.and_eq_true] at hr
    obtain ⟨hp, hv, hst, hse⟩ := hr
    unfold valuesB at hv
    simp only [Bool.and_eq_true] at hv
    obtain ⟨hw, hro⟩ := hv
    have hP : ∀ t ∈ h, mayT t.s t.b t.c t.l = true := List.all_eq_true.1 hp
    have hbc : ∀ t ∈ h, t.b < t.c := fun t ht => mayT_bc (hP t ht)
    refine mayRef_yes fun k hk => ?_
    unfold rowR
    rw [hP _ (List.getElem_mem hk), Bool.true_and, Bool.and_eq_true]
    constructor
    · rw [List.all_eq_true]
      intro a ha
      rw [List.mem_take_iff_getElem] at ha
      obtain ⟨i, hi, rfl⟩ := ha
      rw [apartB_iff]
      unfold stampsB at hst
      rw [decide_eq_true_eq, ← List.take_length (l := h)] at hst
      refine ⟨st_take hst i k hk (Nat.le_refl _) (by omega), fun hh => ?_⟩
      have := ses_all hse hbc k hk i (by omega) hh.1
      omega
    · rw [List.all_eq_true]
      intro o ho
      unfold opR
      cases how : o.wr
      · have h1 := List.all_eq_true.1 (List.all_eq_true.1 hro _ (List.getElem_mem hk)) o ho
        rw [rd_iff hw o, how] at h1
        simpa using h1
      · simp only [if_true, beq_iff_eq]
        exact okW_count.1 hw _ (List.getElem_mem hk) o ho how
  · intro hm
    have hrow : ∀ k, ∀ hk : k < h.length, rowR h k h[k] = true := fun k hk => by
      have := List.all_eq_true.1 hm k (List.mem_range.2 hk)
      rwa [List.getElem?_eq_getElem hk] at this
    have hP : ∀ t ∈ h, mayT t.s t.b t.c t.l = true := fun t ht => by
      obtain ⟨k, hk, rfl⟩ := List.getElem_of_mem ht
      have := hrow k hk
      unfold rowR at this
      simp only [Bool.and_eq_true] at this
      exact this.1
    have hbc : ∀ t ∈ h, t.b < t.c := fun t ht => mayT_bc (hP t ht)
    have hA : ∀ i j, ∀ hj : j < h.length, ∀ hi : i < j, Apart (h[i]'(by omega)) h[j] ∧ ¬ ((h[i]'(by omega)).s = h[j].s ∧ h[j].b < (h[i]'(by omega)).c) := fun i j hj hi => by
      have := hrow j hj
      unfold rowR at this
      simp only [Bool.and_eq_true] at this
      exact (apartB_iff _ _).1 (List.all_eq_true.1 this.2.1 _ (by rw [List.mem_take_iff_getElem]; exact ⟨i, by omega, rfl⟩))
    have hO : ∀ t ∈ h, ∀ o ∈ t.l, opR h o = true := fun t ht => by
      obtain ⟨k, hk, rfl⟩ := List.getElem_of_mem ht
      have := hrow k hk
      unfold rowR at this
      simp only [Bool.and_eq_true] at this
      exact List.all_eq_true.1 this.2.2
    have hw : okW h = true := okW_count.2 fun t ht o ho how => by
      have := hO t ht o ho
      unfold opR at this
      rw [how] at this
      simpa using this
    unfold rightB
    simp only [Bool.and_eq_true]
    refine ⟨List.all_eq_true.2 hP, ?_, ?_, ?_⟩
    · unfold valuesB
      rw [hw, Bool.true_and, List.all_eq_true]
      intro t ht
      unfold rowOk
      rw [List.all_eq_true]
      intro o ho
      rw [rd_iff hw o]
      have := hO t ht o ho
      unfold opR at this
      cases how : o.wr
      · rw [how] at this
        simpa using this
      · rfl
    · unfold stampsB
      rw [decide_eq_true_eq]
      have := st_nodup hbc (fun i j hj hi => (hA i j hj hi).1) h.length (Nat.le_refl _)
      rwa [List.take_length] at this
    · refine ses_mk fun j hj i hi e => ?_
      obtain ⟨h1, h2⟩ := hA i j hj hi
      have h3 : ¬ h[j].b < (h[i]'(by omega)).c := fun hh => h2 ⟨e, hh⟩
      have h4 := h1.2.2.1
      omega
def checkR (h : List TxnV) : Int := if 64 < h.length ∨ 1024 < opsN h then 3 else if mayRef h then 0 else 2
theorem check_ref (h : List TxnV) : checkI h = checkR h := by unfold checkI checkR; rw [right_ref]
end Go.Proofs.YtecpeegbfeijaaaGreatDoor

namespace Go.Proofs.YtecpeegbfeijaaaGreatDoor
set_option maxRecDepth 100000
open Go.RowKit

set_option maxHeartbeats 4000000 in
theorem rcheck_any (va : Value) (h : List TxnV) (w : World) (hT : Txns w va h) (hsh : Short h) :
    Calls Tryz.prog 15 #[va] w fun e w' => e = .returned (.int .i64 (checkR h)) ∧ Below w.heap.size w w' := by
  obtain ⟨ao, cap, rfl, hal⟩ := hT.form
  by_cases hbig : 64 < h.length
  · have hbig' : (64 : Int) < (h.length : Int) := by omega
    have H : Hid ((3 : Int) = checkR h) := Lib.hid (by unfold checkR; rw [if_pos (.inl hbig)])
    go_enter Tryz.func15, Tryz.ntmps15
    go_wp2_with fail
    go_ret
    exact ⟨ret_int H.out, Below.refl _ _⟩
  have hbf : decide ((64 : Int) < (h.length : Int)) = false := by simp; omega
  have hle := opsN_short h hsh
  have CO := Lib.hid (count_any _ h w hT (by omega))
  have HT := Lib.hid (fun wx (hx : Below w.heap.size w wx) => hT.below hx)
  clear hT hsh
  go_enter Tryz.func15, Tryz.ntmps15
  go_wp2_with fail
  refine (CO.out).mono ?_
  rintro e w1 ⟨rfl, hb1⟩
  clear CO
  by_cases hov : 1024 < opsN h
  · have hov' : (1024 : Int) < (opsN h : Int) := by omega
    have H : Hid ((3 : Int) = checkR h) := Lib.hid (by unfold checkR; rw [if_pos (.inr hov)])
    go_wp2_with fail
    go_ret
    exact ⟨ret_int H.out, hb1⟩
  have hov' : decide ((1024 : Int) < (opsN h : Int)) = false := by simp; omega
  have HCK : Hid (checkR h = if mayRef h then 0 else 2) := Lib.hid (by unfold checkR; rw [if_neg (by omega)])
  have CM := Lib.hid (rmay_any _ h w1 (HT.out _ hb1) (by omega))
  generalize mayRef h = q at *
  go_wp2_with fail
  refine (CM.out).mono ?_
  rintro e w2 ⟨rfl, hb2⟩
  have hb3 := below_then hb1 hb2
  clear CM
  cases q
  · have H : Hid ((2 : Int) = checkR h) := Lib.hid (by rw [HCK.out]; rfl)
    go_wp2_with fail
    go_ret
    exact ⟨ret_int H.out, hb3⟩
  · have H : Hid ((0 : Int) = checkR h) := Lib.hid (by rw [HCK.out]; rfl)
    go_wp2_with fail
    go_ret
    exact ⟨ret_int H.out, hb3⟩
theorem Row.take {w : World} {ao : Option Addr} {n size cap : Nat} {cs : List Value} (h : Row w (.slice ao n cap) n size cs) {k : Nat} (hk : k ≤ n) : Row w (.slice ao k cap) k size (cs.take (k * size)) := by
  obtain ⟨hl, ao', cap', he, hm, hno, hc⟩ := h
  obtain ⟨rfl, rfl⟩ : ao = ao' ∧ cap = cap' := by simpa using he
  have hks : k * size ≤ n * size := Nat.mul_le_mul_right _ hk
  refine ⟨by rw [List.length_take]; omega, ao, cap, rfl, ⟨by omega, hm.2⟩, fun h0 => ⟨by have := hno h0; omega, (hno h0).2⟩, fun h0 => ?_⟩
  obtain ⟨b, off, hb, hcell⟩ := hc (by omega)
  exact ⟨b, off, hb, fun i hi => by rw [hcell i (by omega), List.getElem?_take, if_pos hi]⟩
theorem txV_take : ∀ (h : List TxnV) (k : Nat), txV (h.take k) = (txV h).take (k * 4)
  | [], _ => by simp [txV]
  | t :: h, 0 => by simp [txV]
  | t :: h, k + 1 => by
    have := txV_take h k
    have e : (k + 1) * 4 = k * 4 + 1 + 1 + 1 + 1 := by omega
    unfold txV at this ⊢
    rw [e, List.take_succ_cons, List.flatMap_cons, List.flatMap_cons, this]
    simp
theorem Txns.take {w : World} {ao : Option Addr} {n cap : Nat} {h : List TxnV} (hT : Txns w (.slice ao n cap) h) {k : Nat} (hk : k ≤ h.length) : Txns w (.slice ao k cap) (h.take k) := by
  obtain ⟨hR, hO⟩ := hT
  have hn : n = h.length := by obtain ⟨_, ao', cap', he, _⟩ := hR; simp at he; exact he.2.1
  subst hn
  have hl : (h.take k).length = k := by rw [List.length_take]; omega
  refine ⟨?_, fun t ht => hO t (List.mem_of_mem_take ht)⟩
  rw [hl, txV_take]; exact hR.take hk
end Go.Proofs.YtecpeegbfeijaaaGreatDoor

namespace Go.Proofs.YtecpeegbfeijaaaGreatDoor
set_option maxRecDepth 100000
open Go.RowKit

instance : DecidableEq OpV := fun a b => by
  obtain ⟨a1, a2, a3⟩ := a
  obtain ⟨b1, b2, b3⟩ := b
  exact if h : a1 = b1 ∧ a2 = b2 ∧ a3 = b3 then .isTrue (by obtain ⟨rfl, rfl, rfl⟩ := h; rfl) else .isFalse (fun e => by cases e; exact h ⟨rfl, rfl, rfl⟩)
end Go.Proofs.YtecpeegbfeijaaaGreatDoor
