/- Walks and plain facts that the proof of the statement CanonNames uses, joined: CanG HisW HisY OrdAG CanH RenA RenB RenC ArgN SeqA BoxN RenD RenE RenG. Conditions: each theorem's own. -/
import Derived.Deep.SlicePairs
import Derived.Lib.SmallJoins
import Derived.Deep.AppendLies
import Derived.RangeFuncBox
import Derived.LoopNIn
import Derived.LoopIn
import Derived.TacticsInMore
import Derived.OwnWalkIn
import Derived.Maps.AppendAt
import Derived.Maps.OwnIn
import Derived.Test.YtipmfhgdeghmjaaGreatPCanonNames0
import Derived.Test.YtipmfhgdeghmjaaGreatPCanonNames1
namespace Go.Proofs.YtipmfhgdeghmjaaGreat
set_option maxHeartbeats 32000000
set_option maxRecDepth 100000
set_option linter.unusedSimpArgs false
set_option linter.unusedVariables false
open Lib (hid)
section
open Go.RowKit
theorem grown_cells {g : Nat} : ∀ (vs : List Value) (o : Nat) (w : World), w.grownBy (w.setCells g o vs) (some g)
 | [], _, _ => ⟨rfl, rfl, rfl, Nat.le_refl _, fun _ _ _ => rfl⟩
 | x :: r, o, w => by rw [World.setCells]; exact (grown_setC w ⟨g, o, none⟩ x).trans (grown_cells r (o + 1) _)
theorem own_first {w : World} {base : Nat} {v : Value} {l : List OpV} (h : Own w base v l) (hl : 0 < l.length) : ∃ g2 cp2, v = .slice (some ⟨g2, 0, none⟩) l.length cp2 ∧ base ≤ g2 := by
 obtain ⟨h1, h2⟩ := h
 rcases h2 with ⟨_, h2⟩ | ⟨g, cap, cur, e1, e2, _⟩
 ·rw [h2] at hl; cases hl
 ·exact ⟨g, cap, e1, e2⟩
section
variable {s : List TxnV} {g cap base base2 bM bS bK bV nM cM : Nat} {i k iO iS kK kV : Nat} {W : World}
theorem CanF.apart_at (f : CanF s g base base2 bM bS bK bV) {j : Nat} (hi : i < s.length) (hj : j < s.length) (hne : j ≠ i) {b : Nat} (hb : s[i].v.ownBlock = some b) : s[j].v.ownBlock ≠ some b := by
 have ha := List.pairwise_iff_getElem.1 f.apart
 rcases Nat.lt_or_ge j i with e | e
 ·intro h; exact ha j i hj hi e b h hb
 ·exact ha i j hi hj (by omega) b hb
theorem CanI.op (f : CanF s g base base2 bM bS bK bV) (q : CanI s g cap base base2 bM bS bK bV nM cM i k iO iS (k + 1) (k + 1) W) (hi : i < s.length) (hk : k < (opsAt s i).length) {g2 n2 cp2 : Nat} (hv : s[i].v = .slice (some ⟨g2, 0, none⟩) n2 cp2) (o : OpV) (ho : o = cOp (s.map txE) (opsAt s i)[k]) :
  CanI s g cap base base2 bM bS bK bV nM cM i (k + 1) iO iS (k + 1) (k + 1) (W.setCells g2 (k * 3) [.bool o.wr, .int .i64 o.key, .int .i64 o.val]) := by
 have h1 := f.gM; have h2 := f.MS; have h3 := f.SK; have h4 := f.KV; have h5 := f.g2
 have hgr := grown_cells (g := g2) [.bool o.wr, .int .i64 o.key, .int .i64 o.val] (k * 3) W
 have hb2 := f.op hi (b := g2) (by rw [hv]; rfl)
 have hkl : k < (opsTo s i k i).length := by rw [opsTo_len]; exact hk
 refine ⟨World.ownsRow.kept q.own hgr (.inr (fun e => by simp [Value.ownBlock] at e; omega)), fun j hj => ?_, q.mM.kept hgr (fun e => by cases e; omega), q.mS.kept hgr (fun e => by cases e; omega), q.mK.kept hgr (fun e => by cases e; omega), q.mV.kept hgr (fun e => by cases e; omega)⟩
 by_cases e : j = i
 ·subst e
  have hq := q.ops j hj
  rw [hv] at hq ⊢
  rw [opsTo_succ hk, ← ho]
  exact hq.store hkl o
 ·rw [opsTo_other e]
  exact World.ownsRow.kept (q.ops j hj) hgr (.inr (f.apart_at hi hj e (by rw [hv]; rfl)))
theorem CanI.done (q : CanI s g cap base base2 bM bS bK bV nM cM i (opsAt s i).length (i + 1) (i + 1) (opsAt s i).length (opsAt s i).length W) (hi : i < s.length) : CanI s g cap base base2 bM bS bK bV nM cM (i + 1) 0 (i + 1) (i + 1) 0 0 W := by
 have hn : opsN (s.take i) + (opsAt s i).length = opsN (s.take (i + 1)) := by rw [opsN_take s i hi, opsAt_eq hi]
 refine ⟨q.own, fun j hj => by rw [← opsTo_done]; exact q.ops j hj, q.mM, q.mS, ?_, ?_⟩
 ·have := q.mK
  rw [kTo_done hi, hn] at this
  exact this
 ·have := q.mV
  rw [vTo_done hi, hn] at this
  exact this
theorem nameF_nil : nameF [] = fun _ => none := by funext x; unfold nameF; simp
theorem nameF_zero : nameF [0] = putF (fun _ => none) 0 0 := by
 funext x
 unfold nameF putF
 by_cases e : x = 0
 ·subst e; simp [posL]
 ·rw [if_neg (by simpa using e), if_neg e]
theorem sTo_zero : sTo s 0 = [] := by unfold sTo; simp
theorem kTo_zero : kTo s 0 0 = [] := by unfold kTo; simp [keyE]
theorem vTo_zero : vTo s 0 0 = [] := by unfold vTo; simp [valA]
theorem opsTo_zero (j : Nat) : opsTo s 0 0 j = opsAt s j := by
 unfold opsTo
 rw [if_neg (by omega)]
 split
 ·simp
 ·rfl
theorem CanI.start (hO : OwnT W base (.slice (some ⟨g, 0, none⟩) s.length cap) s) (hP : ∀ t ∈ s, Own W base2 t.v t.l) (hM : MapI eI Tryz.prog 3 W bM nM (rankF (stL s) (stL s)) cM) (hS : MapI eI Tryz.prog 3 W bS 0 (fun _ => none) 0) (hK : MapI eI Tryz.prog 3 W bK 0 (fun _ => none) 0) (hV : MapI eI Tryz.prog 3 W bV 1 (putF (fun _ => none) 0 0) 1) :
  CanI s g cap base base2 bM bS bK bV nM cM 0 0 0 0 0 0 W := by
 refine ⟨by rw [outTo_zero]; exact hO, fun j hj => ?_, hM, ?_, ?_, ?_⟩
 ·rw [opsTo_zero, opsAt_eq hj]; exact hP _ (List.getElem_mem hj)
 ·rw [sTo_zero]
  show MapI _ _ _ _ _ _ (nameF []) _
  rw [nameF_nil]; exact hS
 ·rw [kTo_zero]
  show MapI _ _ _ _ _ _ (nameF []) _
  rw [nameF_nil]; exact hK
 ·rw [vTo_zero]
  show MapI _ _ _ _ _ _ (nameF [0]) _
  rw [nameF_zero]; exact hV
theorem CanI.copy (f : CanF s g base base2 bM bS bK bV) (hbs : base ≤ base2) (hb2 : base2 ≤ W.heap.size) (q : CanI s g cap base base2 bM bS bK bV nM cM s.length 0 s.length s.length 0 0 W) : CopyOf W base (.slice (some ⟨g, 0, none⟩) s.length cap) (s.map (cTx (s.map txE))) := by
 have ho := q.own
 rw [outTo_all] at ho
 refine ⟨base2, ⟨hbs, hb2⟩, ho, fun b hb => by simp [Value.ownBlock] at hb; have := f.g2; omega, fun t ht => ?_, ?_⟩
 ·obtain ⟨u, hu, rfl⟩ := List.mem_map.1 ht
  obtain ⟨j, hj, rfl⟩ := List.mem_iff_getElem.1 hu
  have := q.ops j hj
  unfold opsTo at this
  rw [if_pos hj, opsAt_eq hj] at this
  exact this
 ·rw [List.pairwise_map]
  exact f.apart
end
end

section
open Go.RowKit
theorem CopyOf.txns {w : World} {base : Nat} {v : Value} {c : List TxnV} (h : CopyOf w base v c) : Txns w v c := by
 obtain ⟨b2, h1, h2, h3, h4, h5⟩ := h
 exact ⟨h2.row, fun t ht => (h4 t ht).ops⟩
end

section
open Go.RowKit
def zT (t : TxnV) : TxnV := ⟨t.s, t.b, t.c, .slice none 0 0, t.l⟩
theorem zT_of {c h : List TxnV} (e : c.map txE = h.map txE) : c.map zT = h.map zT := by
 have k : ∀ l : List TxnV, l.map zT = (l.map txE).map fun q => (⟨q.1, q.2.1, q.2.2.1, .slice none 0 0, q.2.2.2⟩ : TxnV) := fun l => by rw [List.map_map]; rfl
 rw [k, k, e]
theorem opsN_z (h : List TxnV) : opsN (h.map zT) = opsN h := by unfold opsN; rw [List.map_map]; rfl
theorem partsB_z (h : List TxnV) : partsB (h.map zT) = partsB h := by unfold partsB; rw [List.all_map]; rfl
theorem wvH_z (h : List TxnV) : wvH (h.map zT) = wvH h := by unfold wvH; rw [List.flatMap_map]; rfl
theorem opsAt_z (h : List TxnV) (k : Nat) : opsAt (h.map zT) k = opsAt h k := by unfold opsAt; rw [List.getElem?_map]; cases h[k]? <;> rfl
theorem wrTo_z (h : List TxnV) (k : Nat) : wrTo (h.map zT) k = wrTo h k := by
 unfold wrTo
 congr 1
 funext F j
 rw [opsAt_z]
theorem valuesB_z (h : List TxnV) : valuesB (h.map zT) = valuesB h := by
 unfold valuesB okW
 rw [wvH_z, List.all_map, List.length_map, wrTo_z]; rfl
theorem stampsB_z (h : List TxnV) : stampsB (h.map zT) = stampsB h := by
 have : stL (h.map zT) = stL h := by unfold stL; rw [List.flatMap_map]; rfl
 unfold stampsB; rw [this]
theorem endF_z (h : List TxnV) : endF (h.map zT) = endF h := by
 funext x
 unfold endF
 rw [List.filter_map, List.getLast?_map, Option.map_map]; rfl
theorem sesOk_z (h : List TxnV) (k : Nat) : sesOk (h.map zT) k = sesOk h k := by
 unfold sesOk
 rw [List.getElem?_map, ← List.map_take, endF_z]
 cases h[k]? <;> rfl
theorem sesB_z (h : List TxnV) : sesB (h.map zT) = sesB h := by
 unfold sesB
 rw [List.length_map]
 congr 1
 funext k
 exact sesOk_z h k
theorem checkI_z (h : List TxnV) : checkI (h.map zT) = checkI h := by
 unfold checkI rightB
 rw [List.length_map, opsN_z, partsB_z, valuesB_z, stampsB_z, sesB_z]
theorem checkI_txE {c h : List TxnV} (e : c.map txE = h.map txE) : checkI c = checkI h := by
 rw [← checkI_z c, ← checkI_z h, zT_of e]
theorem checkI_right {h : List TxnV} (e : checkI h = 0) : h.length ≤ 64 ∧ opsN h ≤ 1024 ∧ ∀ t ∈ h, mayT t.s t.b t.c t.l = true := by
 unfold checkI at e
 split at e
 ·cases e
 ·split at e
  ·rename_i h1 h2
   refine ⟨by omega, by omega, ?_⟩
   unfold rightB at h2
   simp only [Bool.and_eq_true] at h2
   exact List.all_eq_true.1 h2.1
  ·cases e
end

section
open Go.RowKit
def OwnH (w : World) (b0 : Nat) (v : Value) (c : List TxnV) : Prop := OwnT w b0 v c ∧ (∀ t ∈ c, Own w b0 t.v t.l) ∧ c.Pairwise ApartT
section
variable {w w' : World} {b0 base : Nat} {v v' u : Value} {c : List TxnV}
theorem OwnH.below (h : OwnH w b0 v c) (hb : Below w.heap.size w w') : OwnH w' b0 v c := ⟨h.1.below hb, fun t ht => (h.2.1 t ht).below hb, h.2.2⟩
theorem OwnH.nil (w : World) (b0 : Nat) : OwnH w b0 (.slice none 0 0) [] := ⟨⟨rfl, .inl ⟨rfl, rfl⟩⟩, by simp, List.Pairwise.nil⟩
theorem OwnH.txns (h : OwnH w b0 v c) : Txns w v c := ⟨h.1.row, fun t ht => (h.2.1 t ht).ops⟩
theorem ownH_apart {b1 : Nat} {l : List OpV} (h : OwnT w b0 v c) (k : Own w b1 u l) : u.ownBlock = none ∨ u.ownBlock ≠ v.ownBlock := owns_apart k h (by decide)
theorem OwnH.add {s b d : Int} {l : List OpV} (h : OwnH w b0 v c) (hu : Own w base u l) (hlt : ∀ t ∈ c, ∀ g, t.v.ownBlock = some g → g < base) (hb : b0 ≤ base) (hO : OwnT w' b0 v' (c ++ [⟨s, b, d, u, l⟩])) (hg : w.grownBy w' v.ownBlock) : OwnH w' b0 v' (c ++ [⟨s, b, d, u, l⟩]) := by
 refine ⟨hO, fun t ht => ?_, ?_⟩
 ·rcases List.mem_append.1 ht with ht | ht
  ·exact World.ownsRow.kept (h.2.1 t ht) hg (ownH_apart h.1 (h.2.1 t ht))
  ·obtain rfl := List.mem_singleton.1 ht
   exact World.ownsRow.kept (hu.base hb) hg (ownH_apart h.1 hu)
 ·rw [List.pairwise_append]
  refine ⟨h.2.2, List.pairwise_singleton _ _, fun t ht x hx => ?_⟩
  obtain rfl := List.mem_singleton.1 hx
  intro g h1 h2
  have q1 := hlt t ht g h1
  have q2 := (World.ownsRow.lt hu g h2).1
  omega
theorem OwnH.lt (h : OwnH w b0 v c) : ∀ t ∈ c, ∀ g, t.v.ownBlock = some g → g < w.heap.size := fun t ht g hg => (World.ownsRow.lt (h.2.1 t ht) g hg).2
end
section
variable {w w' : World} {gv b0 k : Nat} {D : List TxnV}
end
theorem txE_mem {c h : List TxnV} (e : c.map txE = h.map txE) {t : TxnV} (ht : t ∈ c) : ∃ u ∈ h, txE u = txE t := by
 have : txE t ∈ h.map txE := by rw [← e]; exact List.mem_map.2 ⟨t, ht, rfl⟩
 obtain ⟨u, hu, h2⟩ := List.mem_map.1 this
 exact ⟨u, hu, h2⟩
theorem ok_txE {c h : List TxnV} (e : c.map txE = h.map txE) (hok : ∀ t ∈ h, t.ok) : ∀ t ∈ c, t.ok := fun t ht => by
 obtain ⟨u, hu, h2⟩ := txE_mem e ht
 have h3 := hok u hu
 unfold txE at h2
 simp only [Prod.mk.injEq] at h2
 obtain ⟨q1, q2, q3, q4⟩ := h2
 unfold TxnV.ok at *
 rw [← q1, ← q2, ← q3, ← q4]; exact h3
end

section
theorem zA {α : Type _} (l : List α) (i : Nat) (a : α) : l.toArray.setIfInBounds i a = (l.set i a).toArray := List.setIfInBounds_toArray ..
theorem zB {α : Type _} {x : α} {xs : List α} {a : α} : (x :: xs).set 0 a = a :: xs := List.set_cons_zero
theorem zC {α : Type _} {x : α} {xs : List α} {i : Nat} {a : α} : (x :: xs).set (i + 1) a = x :: xs.set i a := List.set_cons_succ
end
section
theorem tG {P : Program} {ops : Array Oper} {Q : Exit → Act → World → Prop} {md : Region.Mode} {S : World → Prop} (d : Option Tmp) (i : Nat) {oi : Oper} (v : Value) {fuel : Nat} {listed : Array Bool} {a : Act} {w : World} (hi : ops[i]? = some oi) (hd : oi.dst = d)
 (hy : YieldsIf P ops S oi v a) (hS : S w) (h : wpAnyH P md ops Q S fuel (listed.setIfInBounds i true) (a.put d v) w)
 (hs : Region.noSelect ops = true := by kernel_rfl) (hf : Region.free md ops listed i = true := by kernel_rfl) (hr : (Region.ready md ops listed).contains i = true := by kernel_rfl)
 (hQ : ∀ c a w, Q (.panic c) (a.put oi.dst v) w → Q (.panic c) a w := by exact fun _ _ _ h => h) : wpAnyH P md ops Q S (fuel + 1) listed a w := takeG d hi hd hs hf hr hQ hy hS h
theorem tA {P : Program} {ops : Array Oper} {Q : Exit → Act → World → Prop} {md : Region.Mode} {S : World → Prop} (d : Option Tmp) (i : Nat) {oi : Oper} {v : Value} {fuel : Nat} {listed : Array Bool} {a : Act} {w : World} (hi : ops[i]? = some oi) (hd : oi.dst = d)
 (hS : S w) (h : wpAnyH P md ops Q S fuel (listed.setIfInBounds i true) (a.put d v) w)
 (hy : YieldsIf P ops S oi v a := by exact Or.inl ⟨by rfl, by intro w _; go_simp; try (with_reducible rfl)⟩)
 (hs : Region.noSelect ops = true := by kernel_rfl) (hf : Region.free md ops listed i = true := by kernel_rfl) (hr : (Region.ready md ops listed).contains i = true := by kernel_rfl)
 (hQ : ∀ c a w, Q (.panic c) (a.put oi.dst v) w → Q (.panic c) a w := by exact fun _ _ _ h => h) : wpAnyH P md ops Q S (fuel + 1) listed a w := takeG d hi hd hs hf hr hQ hy hS h
end
section
theorem rD {P : Program} {ops : Array Oper} {Q : Exit → Act → World → Prop} {md : Region.Mode} {S : World → Prop} {fuel : Nat} {listed : Array Bool} {a : Act} {w : World} (i : Nat) {o : Oper} (ho : ops[i]? = some o)
 (h : ∀ K' : Act → World → Prop, Go.Shut (∀ a w, S w → (S w → wpAnyH P md ops Q S fuel (listed.setIfInBounds i true) a w) → K' a w) → if Region.wanted o (yielded ops a.tmps) = true then Oper.wp P o a w K' Q else K' (a.put o.dst undef) w)
 (hr : Region.ready md ops listed = [i] := by kernel_rfl) : wpAnyH P md ops Q S (fuel + 1) listed a w := wpAnyH_ready hr (by simp) (AllReadyH.cons ho h AllReadyH.nil)
end
section
open Go.RowKit
theorem perm_lift {α β : Type} (f : α → β) {L M : List β} (p : L.Perm M) : ∀ h : List α, h.map f = M → ∃ s : List α, s.Perm h ∧ s.map f = L := by
 induction p with
 | nil => intro h e; exact ⟨[], by rw [List.map_eq_nil_iff.1 e], rfl⟩
 | cons x _ ih =>
  intro h e
  obtain ⟨a, t, rfl, e1, e2⟩ := List.map_eq_cons_iff.1 e
  obtain ⟨s, p, e3⟩ := ih t e2
  exact ⟨a :: s, p.cons a, by rw [List.map_cons, e1, e3]⟩
 | swap x y l =>
  intro h e
  obtain ⟨a, t, rfl, e1, e2⟩ := List.map_eq_cons_iff.1 e
  obtain ⟨b, t, rfl, e3, e4⟩ := List.map_eq_cons_iff.1 e2
  exact ⟨b :: a :: t, List.Perm.swap a b t, by rw [List.map_cons, List.map_cons, e1, e3, e4]⟩
 | trans _ _ ih1 ih2 =>
  intro h e
  obtain ⟨s, p, e1⟩ := ih2 h e
  obtain ⟨u, q, e2⟩ := ih1 s e1
  exact ⟨u, q.trans p, e2⟩
theorem srt_lift {h c s : List TxnV} (hce : c.map txE = h.map txE) (hs : IsSrt c s) : ∃ s', IsSrt h s' ∧ s'.map txE = s.map txE := by
 have p := hs.1.map txE
 rw [hce] at p
 obtain ⟨s', q, e⟩ := perm_lift txE p h rfl
 refine ⟨s', ⟨q, ?_⟩, e⟩
 have h1 : (s.map txE).Pairwise fun x y => x.2.1 < y.2.1 := by rw [List.pairwise_map]; exact hs.2
 rw [← e, List.pairwise_map] at h1
 exact h1
theorem stL_perm {s c : List TxnV} (h : s.Perm c) : (stL s).Perm (stL c) := by
 unfold stL
 induction h with
 | nil => exact List.Perm.refl _
 | cons x _ ih => rw [List.flatMap_cons, List.flatMap_cons]; exact ih.append_left _
 | swap x y l =>
  simp only [List.flatMap_cons, ← List.append_assoc]
  exact List.Perm.append_right _ List.perm_append_comm
 | trans _ _ h1 h2 => exact h1.trans h2
theorem opsN_perm {s c : List TxnV} (h : s.Perm c) : opsN s = opsN c := by
 induction h with
 | nil => rfl
 | cons x _ ih => unfold opsN at *; simp only [List.map_cons, List.sum_cons] at *; omega
 | swap x y l => unfold opsN; simp only [List.map_cons, List.sum_cons]; omega
 | trans _ _ h1 h2 => exact h1.trans h2
theorem putI_run {α : Type} {e : α → Value} {P : Program} {k el t : TypeId} {b n c : Nat} {f : Int → Option α} {w : World} (hk : P.underlying k = some (.int .i64)) (ht : P.underlying t = some (.map k el)) (hown : MapI e P k w b n f c) (hn : n < maxLen) {key : Int} (hkey : InI key) (val : α) :
  ∃ w', (Instr.mapUpdate t (.map (some b)) (.int .i64 key) (e val)).run P w = .ok () w' ∧ MapI e P k w' b (n + 1) (putF f key val) (if (f key).isSome then c else c + 1) ∧ w.grownBy w' (some b) := by
 obtain ⟨D, hD, hs, ht2⟩ := hown
 obtain ⟨w', hrun, h1, h2⟩ := hD.update (Maps.int_keyed hk) ht hn (keyOf_I hk hkey) (rdE_mk e val)
 refine ⟨w', hrun, ⟨_, h1, ?_, fun y hy => ?_⟩, h2⟩
 ·rw [Maps.size_put (hD.tidy (Maps.int_keyed hk)), (ht2 key hkey).1, hs]
 ·by_cases he : y = key
  ·subst he
   rw [putF_same]
   exact ⟨Maps.has_put_same hD.isMap (isKey_I y) _, fun u hu z => by cases hu; exact Maps.atKey_put_same hD.isMap (isKey_I y) _ _⟩
  ·have hne : Lit.int .i64 y ≠ .int .i64 key := fun h => he (by cases h; rfl)
   rw [putF_other f val he]
   exact ⟨(Maps.has_put_other hne _).trans (ht2 y hy).1, fun u hu z => (Maps.atKey_put_other hne _ _).trans ((ht2 y hy).2 u hu z)⟩
theorem owns_at {w : World} {base : Nat} {e : TypeId} {size g cap n : Nat} {xs : List Value} (h : w.ownsRow base e size (.slice (some ⟨g, 0, none⟩) n cap) n xs) {j : Nat} (hj : j < n * size) : w.cell? ⟨g, j, none⟩ = xs[j]? ∧ w.frozen? ⟨g, j, none⟩ = false := by
 have hr := Row.of_owns h
 constructor
 ·obtain ⟨_, ao, cap', e1, _, _, hc⟩ := hr
  cases e1
  by_cases hn : 0 < n
  ·obtain ⟨b, off, e2, hcell⟩ := hc hn
   cases e2
   have := hcell j hj
   simpa using this
  ·have : n = 0 := by omega
   subst this; simp at hj
 ·obtain ⟨h1, h2⟩ := h
  rcases h2 with ⟨h2, _⟩ | ⟨g', cap', cur, e1, e2, hb, _⟩
  ·cases h2
  ·cases e1
   simp [World.frozen?, hb]
section
variable {s : List TxnV} {g cap base base2 bM bS bK bV nM cM : Nat} {i k iO iS kK kV : Nat} {W : World}
theorem CanI.cells3 (q : CanI s g cap base base2 bM bS bK bV nM cM i k i iS kK kV W) (hi : i < s.length) (x y : Int) :
  (W.cell? ⟨g, i * 4, none⟩ = some (.int .i64 s[i].s) ∧ W.frozen? ⟨g, i * 4, none⟩ = false) ∧
  ((W.setCell ⟨g, i * 4, none⟩ (.int .i64 x)).cell? ⟨g, i * 4 + 1, none⟩ = some (.int .i64 s[i].b) ∧ (W.setCell ⟨g, i * 4, none⟩ (.int .i64 x)).frozen? ⟨g, i * 4 + 1, none⟩ = false) ∧
  (((W.setCell ⟨g, i * 4, none⟩ (.int .i64 x)).setCell ⟨g, i * 4 + 1, none⟩ (.int .i64 y)).cell? ⟨g, i * 4 + 2, none⟩ = some (.int .i64 s[i].c) ∧ ((W.setCell ⟨g, i * 4, none⟩ (.int .i64 x)).setCell ⟨g, i * 4 + 1, none⟩ (.int .i64 y)).frozen? ⟨g, i * 4 + 2, none⟩ = false) := by
 have hl := outTo_len (s := s) (i := i) (by omega)
 have hi2 : i < (outTo s i).length := by omega
 have ho := q.own
 unfold OwnT at ho
 rw [hl] at ho
 obtain ⟨q0, q1, q2, q3⟩ := txV_at (outTo s i) i hi2
 rw [outTo_at hi hi2] at q0 q1 q2
 have o1 := owns_set ho (i * 4) (.int .i64 x)
 have o2 := owns_set o1 (i * 4 + 1) (.int .i64 y)
 have a0 := owns_at ho (j := i * 4) (by omega)
 have a1 := owns_at o1 (j := i * 4 + 1) (by omega)
 have a2 := owns_at o2 (j := i * 4 + 2) (by omega)
 rw [q0] at a0
 rw [List.getElem?_set_ne (by omega), q1] at a1
 rw [List.getElem?_set_ne (by omega), List.getElem?_set_ne (by omega), q2] at a2
 exact ⟨a0, a1, a2⟩
theorem CanI.vcell (q : CanI s g cap base base2 bM bS bK bV nM cM i k (i + 1) iS kK kV W) (hi : i < s.length) : W.cell? ⟨g, i * 4 + 3, none⟩ = some s[i].v := by
 have hl := outTo_len (s := s) (i := i + 1) (by omega)
 have hi2 : i < (outTo s (i + 1)).length := by omega
 have ho := q.own
 unfold OwnT at ho
 rw [hl] at ho
 obtain ⟨_, _, _, q3⟩ := txV_at (outTo s (i + 1)) i hi2
 have a := (owns_at ho (j := i * 4 + 3) (by omega)).1
 rw [q3] at a
 rw [a]
 have hl0 := outTo_len (s := s) (i := i) (by omega)
 simp only [outTo_succ hi, List.getElem_set_self]
 rfl
end
theorem cnamed_any (va : Value) (h : List TxnV) (w : World) (hT : Txns w va h) (hok : ∀ t ∈ h, t.ok) (hc : checkI h = 0) :
  Calls Tryz.prog 36 #[va] w fun e w' => (∃ v c s, e = .returned v ∧ CopyOf w' w.heap.size v c ∧ IsSrt h s ∧ c.map txE = canE (s.map txE)) ∧ Below w.heap.size w w' := by
 have h64 := (check_zero hc).1
 have hops := (check_zero hc).2.1
 have HN : Hid (∀ t ∈ h, t.l.length ≤ 1200) := hid (fun t ht => by
  obtain ⟨k, hk, rfl⟩ := List.mem_iff_getElem.1 ht
  have := opsN_at h k hk
  omega)
 have HC := hid hc
 have HOK := hid hok
 have CC := hid (hcopy_any va h w hT (by omega) (fun t ht => Nat.le_trans (HN.out t ht) (by omega)))
 have HOP := hid hops
 clear hT hok hc hops
 go_enter Tryz.func36, Tryz.ntmps36
 go_wp2_with fail
 refine CC.out.mono ?_
 rintro e w1 ⟨v1, c, rfl, hce, hC, hb1⟩
 have hcl : c.length = h.length := by have := congrArg List.length hce; simpa using this
 have hcc : checkI c = 0 := by rw [checkI_txE hce]; exact HC.out
 obtain ⟨base2, ⟨hb2a, hb2b⟩, hO, hvb, hown, hap⟩ := hC
 have hsv : ∀ t ∈ c, ∃ ao n cp, t.v = .slice ao n cp := fun t ht => by
  obtain ⟨_, ao, cap, e, _⟩ := (hown t ht).ops
  exact ⟨ao, _, cap, e⟩
 have hnb : (c.map (·.b)).Nodup := begins_nodup (check_rightB hcc).2.2.1
 have CS := hid (tsort_own w.heap.size v1 c w1 hO hsv hnb (by omega))
 have HF : Hid (∀ s w2, IsSrt c s → OwnT w2 w.heap.size v1 s → w1.grownBy w2 v1.ownBlock → (∀ t ∈ s, Own w2 base2 t.v t.l) ∧ s.Pairwise ApartT ∧ Below w.heap.size w w2 ∧ base2 ≤ w2.heap.size ∧ (∀ t ∈ s, t.ok) ∧ (stL s).Nodup ∧ s.length = h.length ∧ opsN s ≤ 1024 ∧ ∃ s', IsSrt h s' ∧ s'.map txE = s.map txE) := hid (fun s w2 hs hO2 hg => by
  have hp : s.Perm c := hs.1
  have hok2 : ∀ t ∈ c, t.ok := ok_txE hce HOK.out
  refine ⟨fun t ht => ?_, ?_, ?_, ?_, fun t ht => hok2 t (hp.mem_iff.1 ht), ?_, by rw [hp.length_eq, hcl], ?_, srt_lift hce hs⟩
  ·exact World.ownsRow.kept (hown t (hp.mem_iff.1 ht)) hg (by
    cases hvo : v1.ownBlock with
    | none =>
     cases hto : t.v.ownBlock with
     | none => exact .inl rfl
     | some b => exact .inr (fun e => by cases e)
    | some b => exact .inr (fun e => by have h1 := World.ownsRow.lt (hown t (hp.mem_iff.1 ht)) b e; have h2 := hvb b hvo; omega))
  ·exact (hp.pairwise_iff (fun {a b} h q e f => h q f e)).2 hap
  ·exact hb1.grown hg hb1.size (fun j hj => (World.ownsRow.lt hO j hj).1)
  ·exact Nat.le_trans hb2b hg.size
  ·have h1 := (check_rightB hcc).2.2.1
   unfold stampsB at h1
   exact (stL_perm hp).nodup_iff.2 (of_decide_eq_true h1)
  ·rw [opsN_perm hp]
   exact (check_zero hcc).2.1)
 have HVB := hid hvb
 have HB2 := hid hb2a
 clear CC hb1 hce hcl hcc hO hvb hown hap hsv hnb hb2b
 go_wp2_with fail
 refine CS.out.mono ?_
 rintro e w2 ⟨rfl, s, hs, hO2, hg2⟩
 obtain ⟨hP, hap, hb2, hsz2, hok2, hst, hsl, hop, s', hs', hse⟩ := HF.out s w2 hs hO2 hg2
 have HSR := hid (And.intro hs' hse)
 have hTs : Txns w2 v1 s := ⟨Row.of_owns hO2, fun t ht => (hP t ht).ops⟩
 have CR := hid (cranks_any v1 s w2 hTs hok2 hst (by omega))
 have hHc : Hid (checkI c = checkI c) := hid rfl
 clear CS HF hg2 hs hs' hse hHc
 rcases hO2.split with ⟨rfl, rfl⟩ | ⟨g, cap, rfl, hgb⟩
 ·clear hO2 hop hap hP hst hok2 hTs hsl
  go_wp2_with fail
  refine CR.out.mono ?_
  rintro e w3 ⟨⟨bM, nM, cM, rfl, hnM, hbM, hM⟩, h3⟩
  have hmm := @run_makeMap Tryz.prog
  have hb3 := below_then hb2 h3
  have hs4 : ((w3.alloc (.map #[] 0)).alloc (.map #[] 0)).heap.size = w3.heap.size + 1 + 1 := by simp
  have hs5 : (w3.alloc (.map #[] 0)).heap.size = w3.heap.size + 1 := by simp
  have hm2 := MapI.made eI Tryz.prog 3 ((w3.alloc (.map #[] 0)).alloc (.map #[] 0))
  rw [hs4] at hm2
  have hx5 : Below w3.heap.size w3 (((w3.alloc (.map #[] 0)).alloc (.map #[] 0)).alloc (.map #[] 0)) := (((Below.refl _ _).alloc (Nat.le_refl _) _).alloc (by rw [hs5]; omega) _).alloc (by rw [hs4]; omega) _
  obtain ⟨w5, hrun, _, hg5⟩ := putI_run keyI mapNames hm2 (by unfold maxLen; omega) (inI_of (x := 0) (by unfold IntOk; omega)) (0 : Int)
  have hrun : Sem.run Tryz.prog (Instr.mapUpdate 103 (.map (some (w3.heap.size + 1 + 1))) (.int .i64 0) (.int .i64 0)) (((w3.alloc (.map #[] 0)).alloc (.map #[] 0)).alloc (.map #[] 0)) = .ok () w5 := hrun
  have HB5 : Hid (Below w.heap.size w w5) := hid (by
   have h1 := below_then hb3 hx5
   have h2 := hb3.size
   exact h1.grown hg5 h1.size (fun j hj => by cases hj; omega))
  clear hM h3 CR hm2 hx5 hs4 hs5 hg5 hb2 hb3
  go_wp2_with fail
  clear hrun hmm
  go_loopw [24] (fun i wr => i = .int .i64 0 ∧ Hid (Below w.heap.size w wr)) (fun _ _ => 0)
  case atStart => exact ⟨rfl, HB5⟩
  case round =>
   obtain ⟨rfl, HB⟩ := hrel
   have HCP : Hid (CopyOf wr w.heap.size (.slice none 0 0) []) := hid ⟨w.heap.size, ⟨Nat.le_refl _, HB.out.size⟩, World.ownsRow_nil _ _ _ _, fun b hb => (by cases hb), fun t ht => (by cases ht), List.Pairwise.nil⟩
   go_wp2_with fail
   go_ret
   first | exact ⟨⟨_, HCP.out, s', HSR.out.1, by rw [HSR.out.2]; rfl⟩, HB.out⟩ | exact ⟨⟨_, rfl, _, HCP.out, s', HSR.out.1, by rw [HSR.out.2]; rfl⟩, HB.out⟩ | exact ⟨⟨_, _, s', rfl, HCP.out, HSR.out.1, by rw [HSR.out.2]; rfl⟩, HB.out⟩
 ·have HP := hid hP
  have HAP := hid hap
  have HO2 := hid hO2
  have hg2 : g < base2 := HVB.out g rfl
  have HST := hid hst
  have HOK2 := hid hok2
  have HSL := hid hsl
  clear hP hap hO2 hTs hst hok2 hsl
  go_wp2_with fail
  refine CR.out.mono ?_
  rintro e w3 ⟨⟨bM, nM, cM, rfl, hnM, hbM, hM⟩, h3⟩
  have hmm := @run_makeMap Tryz.prog
  have hlM := hM.lt
  have HM := hid (fun wx (hx : Below w3.heap.size w3 wx) => hM.below hx)
  have HO3 := hid (fun wx (hx : Below w3.heap.size w3 wx) => OwnT.below (OwnT.below HO2.out h3) hx)
  have HP3 := hid (fun wx (hx : Below w3.heap.size w3 wx) t ht => ((HP.out t ht).below h3).below hx)
  have HB3 := hid (below_then hb2 h3)
  have hz3 := h3.size
  have HO2K := HO2
  have HPK := HP
  clear hM h3 CR HO2 HP hb2
  obtain ⟨hbg, hgz⟩ : w.heap.size ≤ g ∧ g < w2.heap.size := World.ownsRow.lt HO2K.out g rfl
  have hF : CanF s g w.heap.size base2 bM w3.heap.size (w3.heap.size + 1) (w3.heap.size + 1 + 1) := ⟨hg2, hbg, fun t ht b hb => by have := World.ownsRow.lt (HPK.out t ht) b hb; omega, HAP.out, by omega, hlM, by omega, by omega⟩
  have hs4 : ((w3.alloc (.map #[] 0)).alloc (.map #[] 0)).heap.size = w3.heap.size + 1 + 1 := by simp
  have hs5 : (w3.alloc (.map #[] 0)).heap.size = w3.heap.size + 1 := by simp
  have hm0 := ((MapI.made eI Tryz.prog 3 w3).alloc (.map #[] 0)).alloc (.map #[] 0)
  have hm1 := (MapI.made eI Tryz.prog 3 (w3.alloc (.map #[] 0))).alloc (.map #[] 0)
  have hm2 := MapI.made eI Tryz.prog 3 ((w3.alloc (.map #[] 0)).alloc (.map #[] 0))
  rw [hs5] at hm1
  rw [hs4] at hm2
  have hx5 : Below w3.heap.size w3 (((w3.alloc (.map #[] 0)).alloc (.map #[] 0)).alloc (.map #[] 0)) := (((Below.refl _ _).alloc (Nat.le_refl _) _).alloc (by rw [hs5]; omega) _).alloc (by rw [hs4]; omega) _
  obtain ⟨w5, hrun, hm3, hg5⟩ := putI_run keyI mapNames hm2 (by unfold maxLen; omega) (inI_of (x := 0) (by unfold IntOk; omega)) (0 : Int)
  have hrun : Sem.run Tryz.prog (Instr.mapUpdate 103 (.map (some (w3.heap.size + 1 + 1))) (.int .i64 0) (.int .i64 0)) (((w3.alloc (.map #[] 0)).alloc (.map #[] 0)).alloc (.map #[] 0)) = .ok () w5 := hrun
  have HQ0 : Hid (CanI s g cap w.heap.size base2 bM w3.heap.size (w3.heap.size + 1) (w3.heap.size + 1 + 1) nM cM 0 0 0 0 0 0 w5) := hid (CanI.start
   (World.ownsRow.kept (HO3.out _ hx5) hg5 (.inr (fun e => by simp [Value.ownBlock] at e; omega)))
   (fun t ht => World.ownsRow.kept (HP3.out _ hx5 t ht) hg5 (.inr (fun e => by have := World.ownsRow.lt (HPK.out t ht) _ e; omega)))
   ((HM.out _ hx5).kept hg5 (fun e => by injection e with e; omega)) (hm0.kept hg5 (fun e => by injection e with e; omega)) (hm1.kept hg5 (fun e => by injection e with e; omega)) (by simpa using hm3))
  have HB5 : Hid (Below w.heap.size w w5) := hid (by
   have h1 := below_then HB3.out hx5
   exact h1.grown hg5 h1.size (fun j hj => by cases hj; omega))
  have HFF := hid hF
  clear hm0 hm1 hm2 hm3 hx5 hs4 hs5 hg5 HM HO3 HP3 HO2K HPK hF
  go_wp2_with fail
  clear hrun hmm
  generalize w3.heap.size + 1 + 1 = bV at *
  generalize w3.heap.size + 1 = bK at *
  generalize w3.heap.size = bS at *
  go_loopw [24] (fun i wr => ∃ i' : Nat, i' ≤ s.length ∧ i = .int .i64 (i' : Int) ∧ Hid (CanI s g cap w.heap.size base2 bM bS bK bV nM cM i' 0 i' i' 0 0 wr) ∧ Hid (Below w.heap.size w wr)) (fun i _ => s.length - (intOf i).toNat)
  case atStart => exact ⟨0, by omega, rfl, HQ0, HB5⟩
  case round =>
   obtain ⟨i, hi, rfl, HQ, HB⟩ := hrel
   by_cases hlt : i < s.length
   ·have hki : (i : Int) < (s.length : Int) := by omega
    have hi9 := hlt
    have hq := HQ.out
    have hpV := hq.mV.lt
    have hMS := HFF.out.MS
    have hSK := HFF.out.SK
    have hKV := HFF.out.KV
    have hgM := HFF.out.gM
    obtain ⟨⟨a0, _⟩, ⟨a1, _⟩, ⟨a2, _⟩, a3⟩ := hq.cells hlt
    have hOi := hq.ops i hlt
    rw [opsTo_now, List.take_zero, List.map_nil, List.nil_append, List.drop_zero] at hOi
    obtain ⟨ua, uc, hu, _⟩ := hOi.ops.form
    have htb := HOK2.out s[i] (List.getElem_mem hlt)
    have hsl7 : s.length ≤ 64 := by have := HSL.out; omega
    have LK : ∀ x, x ∈ stL s → InI x → ∀ wx, MapI eI Tryz.prog 3 wx bM nM (rankF (stL s) (stL s)) cM → Sem.run Tryz.prog (Instr.lookup 31 (.map (some bM)) (.int .i64 x) false) wx = .ok (.int .i64 (rankI (stL s) x)) wx := fun x hx hi wx hM => by
     have := lookI_run false keyI mapII 0 (zeroI wx) hM hi
     rw [show rankF (stL s) (stL s) x = some (rankI (stL s) x) from if_pos hx] at this
     exact this
    have HLB := hid (LK s[i].b (stL_mem.2 ⟨_, List.getElem_mem hlt, .inl rfl⟩) (inI_of htb.1.2.1))
    have HLC := hid (LK s[i].c (stL_mem.2 ⟨_, List.getElem_mem hlt, .inr rfl⟩) (inI_of htb.1.2.2))
    have HXO : Hid (∀ o ∈ opsAt s i, InI o.key ∧ InI o.val) := hid (fun o ho => by
     rw [opsAt_eq hi9] at ho
     exact ⟨inI_of (htb.2 o ho).1, inI_of (htb.2 o ho).2⟩)
    have CO8 := hid (fun wx (q : CanI s g cap w.heap.size base2 bM bS bK bV nM cM i 0 i i 0 0 wx) => cof_any bS i (firsts (sTo s i)) s[i].s wx q.mS (by omega) (inI_of htb.1.1))
    have HSS := hid (fun wa wb (q : CanI s g cap w.heap.size base2 bM bS bK bV nM cM i 0 i i 0 0 wa) hM hg => CanI.ses (W1 := wb) HFF.out q hi9 hM hg)
    have HC3 := hid (fun wx (q : CanI s g cap w.heap.size base2 bM bS bK bV nM cM i 0 i (i + 1) 0 0 wx) x y => q.cells3 hi9 x y)
    have HCE := hid (fun wx (q : CanI s g cap w.heap.size base2 bM bS bK bV nM cM i 0 i (i + 1) 0 0 wx) => q.cell HFF.out hi9 _ _ _ (ses_now hi9) (rank_now s[i].b) (rank_now s[i].c))
    have HVC := hid (fun wx k kK kV (q : CanI s g cap w.heap.size base2 bM bS bK bV nM cM i k (i + 1) (i + 1) kK kV wx) => q.vcell hi9)
    have HOW := hid (fun wx k kK kV (q : CanI s g cap w.heap.size base2 bM bS bK bV nM cM i k (i + 1) (i + 1) kK kV wx) => q.ops i hi9)
    have HU2 := hid hu
    rw [hu] at a3
    rw [hu] at HVC
    rw [hu] at HOW
    clear LK hOi htb hu
    generalize s[i].s = sx at *
    generalize s[i].b = bx at *
    generalize s[i].c = cx at *
    generalize rankI (stL s) bx = py at *
    generalize rankI (stL s) cx = pz at *
    generalize ((posL (firsts (sTo s i)) sx : Nat) : Int) = px at *
    obtain ⟨b0, b1, b2, b3⟩ := txnBlock wr (.int .i64 sx) (.int .i64 bx) (.int .i64 cx) (.slice ua (opsAt s i).length uc) 52
    have hq8 := hq.below (box_below wr (.cells #[.int .i64 sx, .int .i64 bx, .int .i64 cx, .slice ua (opsAt s i).length uc] 52))
    have hb8 := HB.out.alloc HB.out.size (.cells #[.int .i64 sx, .int .i64 bx, .int .i64 cx, .slice ua (opsAt s i).length uc] 52)
    clear hq HQ HB
    go_upto_region 8 with fail
    generalize wr.alloc (.cells #[.int .i64 sx, .int .i64 bx, .int .i64 cx, .slice ua (opsAt s i).length uc] 52) = w8 at *
    generalize wr.heap.size = p9 at *
    have kd := (Below.refl w8.heap.size w8).drew
    have HQ8 := hid (hq8.below kd)
    have HB8 := hid hb8.drew
    have b0 := (kd.cell (p := ⟨p9, 0, none⟩) (block_lt b0)).trans b0
    have b1 := (kd.cell (p := ⟨p9, 1, none⟩) (block_lt b1)).trans b1
    have b2 := (kd.cell (p := ⟨p9, 2, none⟩) (block_lt b2)).trans b2
    have b3 := (kd.cell (p := ⟨p9, 3, none⟩) (block_lt b3)).trans b3
    have hd0 : decide ((i : Int) < 0) = false := decide_eq_false (by omega)
    have hd1 : decide ((s.length : Int) ≤ (i : Int)) = false := decide_eq_false (by omega)
    have hd2 : decide (s.length ≤ i) = false := decide_eq_false (by omega)
    have hbgS : w.heap.size ≤ bS := by have := HFF.out.bg; omega
    clear kd hq8 hb8 a0 a1 a2 a3
    refine wp_region_held_drew (S := fun wx => ((wx.cell? ⟨p9, 0, none⟩ = some (.int .i64 sx) ∧ wx.cell? ⟨p9, 1, none⟩ = some (.int .i64 bx) ∧ wx.cell? ⟨p9, 2, none⟩ = some (.int .i64 cx) ∧ wx.cell? ⟨p9, 3, none⟩ = some (.slice ua (opsAt s i).length uc)) ∧ MapI eI Tryz.prog 3 wx bM nM (rankF (stL s) (stL s)) cM)) (by kernel_rfl) ⟨⟨b0, b1, b2, b3⟩, HQ8.out.mM⟩ (fun hS0 => ?_)
    generalize w8.drew = wd at *
    refine tG (some 29) 0 ?vca0x1 rfl rfl (Or.inl ⟨by rfl, ?hca0x1⟩) hS0 ?rca0x1
    case hca0x1 => (intro w hw; obtain ⟨⟨m0, m1, m2, m3⟩, m4⟩ := hw; have l1 := HLB.out w m4; have l2 := HLC.out w m4; go_simp; try (with_reducible rfl))
    try simp only [Act.put, zA, zB, zC]
    refine tG (some 30) 1 ?vca1x2 rfl rfl (Or.inl ⟨by rfl, ?hca1x2⟩) hS0 ?rca1x2
    case hca1x2 => (intro w hw; obtain ⟨⟨m0, m1, m2, m3⟩, m4⟩ := hw; have l1 := HLB.out w m4; have l2 := HLC.out w m4; go_simp; try (with_reducible rfl))
    try simp only [Act.put, zA, zB, zC]
    refine tG (some 31) 2 ?vca2x3 rfl rfl (Or.inl ⟨by rfl, ?hca2x3⟩) hS0 ?rca2x3
    case hca2x3 => (intro w hw; obtain ⟨⟨m0, m1, m2, m3⟩, m4⟩ := hw; have l1 := HLB.out w m4; have l2 := HLC.out w m4; go_simp; try (with_reducible rfl))
    try simp only [Act.put, zA, zB, zC]
    refine tG (some 32) 3 ?vca3x4 rfl rfl (Or.inl ⟨by rfl, ?hca3x4⟩) hS0 ?rca3x4
    case hca3x4 => (intro w hw; obtain ⟨⟨m0, m1, m2, m3⟩, m4⟩ := hw; have l1 := HLB.out w m4; have l2 := HLC.out w m4; go_simp; try (with_reducible rfl))
    try simp only [Act.put, zA, zB, zC]
    refine tG (some 33) 4 ?vca4x5 rfl rfl (Or.inl ⟨by rfl, ?hca4x5⟩) hS0 ?rca4x5
    case hca4x5 => (intro w hw; obtain ⟨⟨m0, m1, m2, m3⟩, m4⟩ := hw; have l1 := HLB.out w m4; have l2 := HLC.out w m4; go_simp; try (with_reducible rfl))
    try simp only [Act.put, zA, zB, zC]
    refine tG (some 34) 5 ?vca5x6 rfl rfl (Or.inl ⟨by rfl, ?hca5x6⟩) hS0 ?rca5x6
    case hca5x6 => (intro w hw; obtain ⟨⟨m0, m1, m2, m3⟩, m4⟩ := hw; have l1 := HLB.out w m4; have l2 := HLC.out w m4; go_simp; try (with_reducible rfl))
    try simp only [Act.put, zA, zB, zC]
    refine tG (some 35) 6 ?vca6x7 rfl rfl (Or.inl ⟨by rfl, ?hca6x7⟩) hS0 ?rca6x7
    case hca6x7 => (intro w hw; obtain ⟨⟨m0, m1, m2, m3⟩, m4⟩ := hw; have l1 := HLB.out w m4; have l2 := HLC.out w m4; go_simp; try (with_reducible rfl))
    try simp only [Act.put, zA, zB, zC]
    refine tG (some 36) 7 ?vca7x8 rfl rfl (Or.inl ⟨by rfl, ?hca7x8⟩) hS0 ?rca7x8
    case hca7x8 => (intro w hw; obtain ⟨⟨m0, m1, m2, m3⟩, m4⟩ := hw; have l1 := HLB.out w m4; have l2 := HLC.out w m4; go_simp; try (with_reducible rfl))
    try simp only [Act.put, zA, zB, zC]
    refine tG (some 37) 8 ?vca8x9 rfl rfl (Or.inl ⟨by rfl, ?hca8x9⟩) hS0 ?rca8x9
    case hca8x9 => (intro w hw; obtain ⟨⟨m0, m1, m2, m3⟩, m4⟩ := hw; have l1 := HLB.out w m4; have l2 := HLC.out w m4; go_simp; try (with_reducible rfl))
    try simp only [Act.put, zA, zB, zC]
    refine tG (some 39) 10 ?vca10x10 rfl rfl (Or.inl ⟨by rfl, ?hca10x10⟩) hS0 ?rca10x10
    case hca10x10 => (intro w hw; obtain ⟨⟨m0, m1, m2, m3⟩, m4⟩ := hw; have l1 := HLB.out w m4; have l2 := HLC.out w m4; go_simp; try (with_reducible rfl))
    try simp only [Act.put, zA, zB, zC]
    refine tG (some 40) 11 ?vca11x11 rfl rfl (Or.inl ⟨by rfl, ?hca11x11⟩) hS0 ?rca11x11
    case hca11x11 => (intro w hw; obtain ⟨⟨m0, m1, m2, m3⟩, m4⟩ := hw; have l1 := HLB.out w m4; have l2 := HLC.out w m4; go_simp; try (with_reducible rfl))
    try simp only [Act.put, zA, zB, zC]
    refine tG (some 41) 12 ?vca12x12 rfl rfl (Or.inl ⟨by rfl, ?hca12x12⟩) hS0 ?rca12x12
    case hca12x12 => (intro w hw; obtain ⟨⟨m0, m1, m2, m3⟩, m4⟩ := hw; have l1 := HLB.out w m4; have l2 := HLC.out w m4; go_simp; try (with_reducible rfl))
    try simp only [Act.put, zA, zB, zC]
    refine tG (some 42) 13 ?vca13x13 rfl rfl (Or.inl ⟨by rfl, ?hca13x13⟩) hS0 ?rca13x13
    case hca13x13 => (intro w hw; obtain ⟨⟨m0, m1, m2, m3⟩, m4⟩ := hw; have l1 := HLB.out w m4; have l2 := HLC.out w m4; go_simp; try (with_reducible rfl))
    try simp only [Act.put, zA, zB, zC]
    refine tG (some 43) 14 ?vca14x14 rfl rfl (Or.inl ⟨by rfl, ?hca14x14⟩) hS0 ?rca14x14
    case hca14x14 => (intro w hw; obtain ⟨⟨m0, m1, m2, m3⟩, m4⟩ := hw; have l1 := HLB.out w m4; have l2 := HLC.out w m4; go_simp; try (with_reducible rfl))
    try simp only [Act.put, zA, zB, zC]
    refine tG (some 44) 15 ?vca15x15 rfl rfl (Or.inl ⟨by rfl, ?hca15x15⟩) hS0 ?rca15x15
    case hca15x15 => (intro w hw; obtain ⟨⟨m0, m1, m2, m3⟩, m4⟩ := hw; have l1 := HLB.out w m4; have l2 := HLC.out w m4; go_simp; try (with_reducible rfl))
    try simp only [Act.put, zA, zB, zC]
    refine tG (some 45) 16 ?vca16x16 rfl rfl (Or.inl ⟨by rfl, ?hca16x16⟩) hS0 ?rca16x16
    case hca16x16 => (intro w hw; obtain ⟨⟨m0, m1, m2, m3⟩, m4⟩ := hw; have l1 := HLB.out w m4; have l2 := HLC.out w m4; go_simp; try (with_reducible rfl))
    try simp only [Act.put, zA, zB, zC]
    refine tG (some 46) 17 ?vca17x17 rfl rfl (Or.inl ⟨by rfl, ?hca17x17⟩) hS0 ?rca17x17
    case hca17x17 => (intro w hw; obtain ⟨⟨m0, m1, m2, m3⟩, m4⟩ := hw; have l1 := HLB.out w m4; have l2 := HLC.out w m4; go_simp; try (with_reducible rfl))
    try simp only [Act.put, zA, zB, zC]
    refine rD 9 rfl (fun K hK => ?_)
    go_simp
    refine (CO8.out _ HQ8.out).mono ?_
    rintro e wA ⟨rfl, hMA, hgA⟩
    have HQA := hid (HSS.out _ _ HQ8.out hMA hgA)
    have sA : ((wA.cell? ⟨p9, 0, none⟩ = some (.int .i64 sx) ∧ wA.cell? ⟨p9, 1, none⟩ = some (.int .i64 bx) ∧ wA.cell? ⟨p9, 2, none⟩ = some (.int .i64 cx) ∧ wA.cell? ⟨p9, 3, none⟩ = some (.slice ua (opsAt s i).length uc)) ∧ MapI eI Tryz.prog 3 wA bM nM (rankF (stL s) (stL s)) cM) := ⟨⟨hgA.cell hS0.1.1 (fun e => absurd (Option.some.inj e) (by show p9 ≠ bS; omega)), hgA.cell hS0.1.2.1 (fun e => absurd (Option.some.inj e) (by show p9 ≠ bS; omega)), hgA.cell hS0.1.2.2.1 (fun e => absurd (Option.some.inj e) (by show p9 ≠ bS; omega)), hgA.cell hS0.1.2.2.2 (fun e => absurd (Option.some.inj e) (by show p9 ≠ bS; omega))⟩, HQA.out.mM⟩
    have HBA := hid (HB8.out.grown hgA HB8.out.size (fun j hj => by cases hj; omega))
    show K _ _
    refine hK.out _ _ sA (fun _ => ?_)
    clear hK K hMA hgA
    refine tG (some 47) 18 ?vca18x19 rfl rfl (Or.inl ⟨by rfl, ?hca18x19⟩) sA ?rca18x19
    case hca18x19 => (intro w hw; obtain ⟨⟨m0, m1, m2, m3⟩, m4⟩ := hw; have l1 := HLB.out w m4; have l2 := HLC.out w m4; go_simp; try (with_reducible rfl))
    try simp only [Act.put, zA, zB, zC]
    refine tG (some 48) 19 ?vca19x20 rfl rfl (Or.inl ⟨by rfl, ?hca19x20⟩) sA ?rca19x20
    case hca19x20 => (intro w hw; obtain ⟨⟨m0, m1, m2, m3⟩, m4⟩ := hw; have l1 := HLB.out w m4; have l2 := HLC.out w m4; go_simp; try (with_reducible rfl))
    try simp only [Act.put, zA, zB, zC]
    refine rD 20 rfl (fun K hK => ?_)
    have hc3 := HC3.out _ HQA.out px py
    have hc0 := hc3.1.1
    have hf0 := hc3.1.2
    go_simp
    have sB : (((wA.setCell ⟨g, i * 4, none⟩ (.int .i64 px)).cell? ⟨p9, 0, none⟩ = some (.int .i64 sx) ∧ (wA.setCell ⟨g, i * 4, none⟩ (.int .i64 px)).cell? ⟨p9, 1, none⟩ = some (.int .i64 bx) ∧ (wA.setCell ⟨g, i * 4, none⟩ (.int .i64 px)).cell? ⟨p9, 2, none⟩ = some (.int .i64 cx) ∧ (wA.setCell ⟨g, i * 4, none⟩ (.int .i64 px)).cell? ⟨p9, 3, none⟩ = some (.slice ua (opsAt s i).length uc)) ∧ MapI eI Tryz.prog 3 (wA.setCell ⟨g, i * 4, none⟩ (.int .i64 px)) bM nM (rankF (stL s) (stL s)) cM) := ⟨⟨(World.cell?_setCell_other _ _ _ _ (fun e => by injection e with e; omega)).trans sA.1.1, (World.cell?_setCell_other _ _ _ _ (fun e => by injection e with e; omega)).trans sA.1.2.1, (World.cell?_setCell_other _ _ _ _ (fun e => by injection e with e; omega)).trans sA.1.2.2.1, (World.cell?_setCell_other _ _ _ _ (fun e => by injection e with e; omega)).trans sA.1.2.2.2⟩, sA.2.cell (by show bM ≠ g; omega) _⟩
    refine hK.out _ _ sB (fun _ => ?_)
    clear hK K hc0 hf0 hc3
    refine tG (some 49) 21 ?vca21x22 rfl rfl (Or.inl ⟨by rfl, ?hca21x22⟩) sB ?rca21x22
    case hca21x22 => (intro w hw; obtain ⟨⟨m0, m1, m2, m3⟩, m4⟩ := hw; have l1 := HLB.out w m4; have l2 := HLC.out w m4; go_simp; try (with_reducible rfl))
    try simp only [Act.put, zA, zB, zC]
    refine tG (some 50) 22 ?vca22x23 rfl rfl (Or.inl ⟨by rfl, ?hca22x23⟩) sB ?rca22x23
    case hca22x23 => (intro w hw; obtain ⟨⟨m0, m1, m2, m3⟩, m4⟩ := hw; have l1 := HLB.out w m4; have l2 := HLC.out w m4; go_simp; try (with_reducible rfl))
    try simp only [Act.put, zA, zB, zC]
    refine rD 23 rfl (fun K hK => ?_)
    have hc3 := HC3.out _ HQA.out px py
    have hc0 := hc3.2.1.1
    have hf0 := hc3.2.1.2
    go_simp
    have sC : ((((wA.setCell ⟨g, i * 4, none⟩ (.int .i64 px)).setCell ⟨g, i * 4 + 1, none⟩ (.int .i64 py)).cell? ⟨p9, 0, none⟩ = some (.int .i64 sx) ∧ ((wA.setCell ⟨g, i * 4, none⟩ (.int .i64 px)).setCell ⟨g, i * 4 + 1, none⟩ (.int .i64 py)).cell? ⟨p9, 1, none⟩ = some (.int .i64 bx) ∧ ((wA.setCell ⟨g, i * 4, none⟩ (.int .i64 px)).setCell ⟨g, i * 4 + 1, none⟩ (.int .i64 py)).cell? ⟨p9, 2, none⟩ = some (.int .i64 cx) ∧ ((wA.setCell ⟨g, i * 4, none⟩ (.int .i64 px)).setCell ⟨g, i * 4 + 1, none⟩ (.int .i64 py)).cell? ⟨p9, 3, none⟩ = some (.slice ua (opsAt s i).length uc)) ∧ MapI eI Tryz.prog 3 ((wA.setCell ⟨g, i * 4, none⟩ (.int .i64 px)).setCell ⟨g, i * 4 + 1, none⟩ (.int .i64 py)) bM nM (rankF (stL s) (stL s)) cM) := ⟨⟨(World.cell?_setCell_other _ _ _ _ (fun e => by injection e with e; omega)).trans sB.1.1, (World.cell?_setCell_other _ _ _ _ (fun e => by injection e with e; omega)).trans sB.1.2.1, (World.cell?_setCell_other _ _ _ _ (fun e => by injection e with e; omega)).trans sB.1.2.2.1, (World.cell?_setCell_other _ _ _ _ (fun e => by injection e with e; omega)).trans sB.1.2.2.2⟩, sB.2.cell (by show bM ≠ g; omega) _⟩
    refine hK.out _ _ sC (fun _ => ?_)
    clear hK K hc0 hf0 hc3
    refine tG (some 51) 24 ?vca24x25 rfl rfl (Or.inl ⟨by rfl, ?hca24x25⟩) sC ?rca24x25
    case hca24x25 => (intro w hw; obtain ⟨⟨m0, m1, m2, m3⟩, m4⟩ := hw; have l1 := HLB.out w m4; have l2 := HLC.out w m4; go_simp; try (with_reducible rfl))
    try simp only [Act.put, zA, zB, zC]
    refine tG (some 52) 25 ?vca25x26 rfl rfl (Or.inl ⟨by rfl, ?hca25x26⟩) sC ?rca25x26
    case hca25x26 => (intro w hw; obtain ⟨⟨m0, m1, m2, m3⟩, m4⟩ := hw; have l1 := HLB.out w m4; have l2 := HLC.out w m4; go_simp; try (with_reducible rfl))
    try simp only [Act.put, zA, zB, zC]
    refine rD 26 rfl (fun K hK => ?_)
    have hc3 := HC3.out _ HQA.out px py
    have hc0 := hc3.2.2.1
    have hf0 := hc3.2.2.2
    go_simp
    have sD : (((((wA.setCell ⟨g, i * 4, none⟩ (.int .i64 px)).setCell ⟨g, i * 4 + 1, none⟩ (.int .i64 py)).setCell ⟨g, i * 4 + 2, none⟩ (.int .i64 pz)).cell? ⟨p9, 0, none⟩ = some (.int .i64 sx) ∧ (((wA.setCell ⟨g, i * 4, none⟩ (.int .i64 px)).setCell ⟨g, i * 4 + 1, none⟩ (.int .i64 py)).setCell ⟨g, i * 4 + 2, none⟩ (.int .i64 pz)).cell? ⟨p9, 1, none⟩ = some (.int .i64 bx) ∧ (((wA.setCell ⟨g, i * 4, none⟩ (.int .i64 px)).setCell ⟨g, i * 4 + 1, none⟩ (.int .i64 py)).setCell ⟨g, i * 4 + 2, none⟩ (.int .i64 pz)).cell? ⟨p9, 2, none⟩ = some (.int .i64 cx) ∧ (((wA.setCell ⟨g, i * 4, none⟩ (.int .i64 px)).setCell ⟨g, i * 4 + 1, none⟩ (.int .i64 py)).setCell ⟨g, i * 4 + 2, none⟩ (.int .i64 pz)).cell? ⟨p9, 3, none⟩ = some (.slice ua (opsAt s i).length uc)) ∧ MapI eI Tryz.prog 3 (((wA.setCell ⟨g, i * 4, none⟩ (.int .i64 px)).setCell ⟨g, i * 4 + 1, none⟩ (.int .i64 py)).setCell ⟨g, i * 4 + 2, none⟩ (.int .i64 pz)) bM nM (rankF (stL s) (stL s)) cM) := ⟨⟨(World.cell?_setCell_other _ _ _ _ (fun e => by injection e with e; omega)).trans sC.1.1, (World.cell?_setCell_other _ _ _ _ (fun e => by injection e with e; omega)).trans sC.1.2.1, (World.cell?_setCell_other _ _ _ _ (fun e => by injection e with e; omega)).trans sC.1.2.2.1, (World.cell?_setCell_other _ _ _ _ (fun e => by injection e with e; omega)).trans sC.1.2.2.2⟩, sC.2.cell (by show bM ≠ g; omega) _⟩
    refine hK.out _ _ sD (fun _ => ?_)
    clear hK K hc0 hf0 hc3
    refine wpAnyH_done (by kernel_rfl) ?_ _
    have HQC := hid (HCE.out _ HQA.out)
    have hbg2 := HFF.out.bg
    have HBC := hid (((HBA.out.setCell (p := ⟨g, i * 4, none⟩) hbg2 (.int .i64 px)).setCell (p := ⟨g, i * 4 + 1, none⟩) hbg2 (.int .i64 py)).setCell (p := ⟨g, i * 4 + 2, none⟩) hbg2 (.int .i64 pz))
    have hv9 := sD.1.2.2.2
    clear sA sB sC sD hS0 HQA HBA b0 b1 b2 b3
    generalize (((wA.setCell ⟨g, i * 4, none⟩ (.int .i64 px)).setCell ⟨g, i * 4 + 1, none⟩ (.int .i64 py)).setCell ⟨g, i * 4 + 2, none⟩ (.int .i64 pz)) = wB at *
    go_wp2_with fail
    go_loopw [56] (fun k wr => ∃ k' : Nat, k' ≤ (opsAt s i).length ∧ k = .int .i64 (k' : Int) ∧ Hid (CanI s g cap w.heap.size base2 bM bS bK bV nM cM i k' (i + 1) (i + 1) k' k' wr) ∧ Hid (Below w.heap.size w wr)) (fun k _ => (opsAt s i).length - (intOf k).toNat)
    case atStart => exact ⟨0, by omega, rfl, HQC, HBC⟩
    case round =>
     obtain ⟨k, hk, rfl, HQk, HBk⟩ := hrel
     clear hv9 HQC HBC HQ8 HB8
     by_cases hlk : k < (opsAt s i).length
     ·have hkk : (k : Int) < ((opsAt s i).length : Int) := by omega
      have hqk := HQk.out
      have hpk := hqk.mV.lt
      have hOk := HOW.out _ _ _ _ hqk
      have hkl : k < (opsTo s i k i).length := by rw [opsTo_len]; exact hlk
      obtain ⟨g2, cp2, e2, hg2b⟩ := own_first hOk (by omega)
      obtain ⟨rfl, rfl⟩ : ua = some ⟨g2, 0, none⟩ ∧ uc = cp2 := ⟨(Value.slice.inj e2).1, (Value.slice.inj e2).2.2⟩
      obtain ⟨gr, orr, hor, e0, e1, e3⟩ := hOk.ops.at hkl
      cases hor
      rw [opsTo_at hlk hkl] at e0 e1 e3
      simp only [Nat.zero_add] at e0 e1 e3
      have hg2M : g2 < bM := (HFF.out.op hi9 (by rw [HU2.out]; rfl)).2
      have hg2w : w.heap.size ≤ g2 := by have h1 := (HFF.out.op hi9 (b := g2) (by rw [HU2.out]; rfl)).1; have h2 := HB2.out; omega
      have hgg : g ≠ g2 := by have h1 := (HFF.out.op hi9 (b := g2) (by rw [HU2.out]; rfl)).1; have h2 := HFF.out.g2; omega
      have hopn : opsN (s.take i) ≤ 1024 := Nat.le_trans (opsN_le s i) hop
      have hokn : (opsAt s i).length ≤ 1024 := by have h1 := opsN_take s i hi9; have h2 := opsN_le s (i + 1); rw [opsAt_eq hi9]; omega
      have hxo := HXO.out _ (List.getElem_mem hlk)
      have COK := hid (fun wx (q : CanI s g cap w.heap.size base2 bM bS bK bV nM cM i k (i + 1) (i + 1) k k wx) => cof_any bK (opsN (s.take i) + k) (firsts (kTo s i k)) (opsAt s i)[k].key wx q.mK (by omega) hxo.1)
      have COV := hid (fun wx (q : CanI s g cap w.heap.size base2 bM bS bK bV nM cM i k (i + 1) (i + 1) (k + 1) k wx) => cof_any bV (opsN (s.take i) + k + 1) (0 :: firsts (valP (vTo s i k))) (opsAt s i)[k].val wx q.mV (by omega) hxo.2)
      have HSK := hid (fun wa wb (q : CanI s g cap w.heap.size base2 bM bS bK bV nM cM i k (i + 1) (i + 1) k k wa) hM hg => CanI.key (W1 := wb) HFF.out q hlk hM hg)
      have HSV := hid (fun wa wb (q : CanI s g cap w.heap.size base2 bM bS bK bV nM cM i k (i + 1) (i + 1) (k + 1) k wa) hM hg => CanI.val (W1 := wb) HFF.out q hlk hM hg)
      have HSO := hid (fun wx (q : CanI s g cap w.heap.size base2 bM bS bK bV nM cM i k (i + 1) (i + 1) (k + 1) (k + 1) wx) => q.op HFF.out hi9 hlk HU2.out _ (cOp_now hi9 hlk))
      have HTH : Hid (∀ wx, CanI s g cap w.heap.size base2 bM bS bK bV nM cM i k (i + 1) (i + 1) (k + 1) (k + 1) wx → wx.there g2 (k * 3) 3) := hid (fun wx q j hj => by
       have h1 := HOW.out _ _ _ _ q
       have hl3 : (opsTo s i k i).length = (opsAt s i).length := opsTo_len i
       unfold Own at h1
       rw [hl3] at h1
       have h2 := owns_at (j := k * 3 + j) h1 (by omega)
       refine ⟨?_, h2.2⟩
       rw [h2.1]
       have : k * 3 + j < (opV (opsTo s i k i)).length := by rw [opV_len]; omega
       rw [List.getElem?_eq_getElem this]; rfl)
      have hv3 := HVC.out _ _ _ _ hqk
      generalize (opsAt s i)[k] = x at *
      obtain ⟨xw, xk, xv⟩ := x
      simp only at e0 e1 e3 COK COV HSK HSV HSO
      generalize ((posL (firsts (kTo s i k)) xk : Nat) : Int) = pk at *
      generalize ((posL (0 :: firsts (valP (vTo s i k))) xv : Nat) : Int) = pv at *
      obtain ⟨z0, z1, z2⟩ := opBlock wr (.bool xw) (.int .i64 xk) (.int .i64 xv) 54
      have hbx := box_below wr (.cells #[.bool xw, .int .i64 xk, .int .i64 xv] 54)
      have hv3 := (hbx.cell (p := ⟨g, i * 4 + 3, none⟩) (block_lt hv3)).trans hv3
      have hqk8 := hqk.below hbx
      have hbk8 := HBk.out.alloc HBk.out.size (.cells #[.bool xw, .int .i64 xk, .int .i64 xv] 54)
      clear hqk hOk hkl e2 hbx HQk HBk hxo
      go_upto_region 12 with fail
      generalize wr.alloc (.cells #[.bool xw, .int .i64 xk, .int .i64 xv] 54) = w11 at *
      generalize wr.heap.size = p11 at *
      have kd := (Below.refl w11.heap.size w11).drew
      have HQ8 := hid (hqk8.below kd)
      have HB8 := hid hbk8.drew
      have z0 := (kd.cell (p := ⟨p11, 0, none⟩) (block_lt z0)).trans z0
      have z1 := (kd.cell (p := ⟨p11, 1, none⟩) (block_lt z1)).trans z1
      have z2 := (kd.cell (p := ⟨p11, 2, none⟩) (block_lt z2)).trans z2
      have hv3 := (kd.cell (p := ⟨g, i * 4 + 3, none⟩) (block_lt hv3)).trans hv3
      have hd3 : decide ((k : Int) < 0) = false := decide_eq_false (by omega)
      have hd4 : decide (((opsAt s i).length : Int) ≤ (k : Int)) = false := decide_eq_false (by omega)
      have hd5 : decide ((opsAt s i).length ≤ k) = false := decide_eq_false (by omega)
      clear kd hqk8 hbk8 e0 e1 e3
      refine wp_region_held_drew (S := fun wx => ((wx.cell? ⟨p11, 0, none⟩ = some (.bool xw) ∧ wx.cell? ⟨p11, 1, none⟩ = some (.int .i64 xk) ∧ wx.cell? ⟨p11, 2, none⟩ = some (.int .i64 xv)) ∧ wx.cell? ⟨g, i * 4 + 3, none⟩ = some (.slice (some ⟨g2, 0, none⟩) (opsAt s i).length uc))) (by kernel_rfl) ⟨⟨z0, z1, z2⟩, hv3⟩ (fun hS0 => ?_)
      generalize w11.drew = wd at *
      refine tG (some 61) 0 ?vcb0x1 rfl rfl (Or.inl ⟨by rfl, ?hcb0x1⟩) hS0 ?rcb0x1
      case hcb0x1 => (intro w hw; obtain ⟨⟨m0, m1, m2⟩, m3⟩ := hw; go_simp; try (with_reducible rfl))
      try simp only [Act.put, zA, zB, zC]
      refine tG (some 62) 1 ?vcb1x2 rfl rfl (Or.inl ⟨by rfl, ?hcb1x2⟩) hS0 ?rcb1x2
      case hcb1x2 => (intro w hw; obtain ⟨⟨m0, m1, m2⟩, m3⟩ := hw; go_simp; try (with_reducible rfl))
      try simp only [Act.put, zA, zB, zC]
      refine tG (some 63) 2 ?vcb2x3 rfl rfl (Or.inl ⟨by rfl, ?hcb2x3⟩) hS0 ?rcb2x3
      case hcb2x3 => (intro w hw; obtain ⟨⟨m0, m1, m2⟩, m3⟩ := hw; go_simp; try (with_reducible rfl))
      try simp only [Act.put, zA, zB, zC]
      refine tG (some 64) 3 ?vcb3x4 rfl rfl (Or.inl ⟨by rfl, ?hcb3x4⟩) hS0 ?rcb3x4
      case hcb3x4 => (intro w hw; obtain ⟨⟨m0, m1, m2⟩, m3⟩ := hw; go_simp; try (with_reducible rfl))
      try simp only [Act.put, zA, zB, zC]
      refine tG (some 65) 4 ?vcb4x5 rfl rfl (Or.inl ⟨by rfl, ?hcb4x5⟩) hS0 ?rcb4x5
      case hcb4x5 => (intro w hw; obtain ⟨⟨m0, m1, m2⟩, m3⟩ := hw; go_simp; try (with_reducible rfl))
      try simp only [Act.put, zA, zB, zC]
      refine tG (some 66) 5 ?vcb5x6 rfl rfl (Or.inl ⟨by rfl, ?hcb5x6⟩) hS0 ?rcb5x6
      case hcb5x6 => (intro w hw; obtain ⟨⟨m0, m1, m2⟩, m3⟩ := hw; go_simp; try (with_reducible rfl))
      try simp only [Act.put, zA, zB, zC]
      refine tG (some 67) 6 ?vcb6x7 rfl rfl (Or.inl ⟨by rfl, ?hcb6x7⟩) hS0 ?rcb6x7
      case hcb6x7 => (intro w hw; obtain ⟨⟨m0, m1, m2⟩, m3⟩ := hw; go_simp; try (with_reducible rfl))
      try simp only [Act.put, zA, zB, zC]
      refine tG (some 68) 7 ?vcb7x8 rfl rfl (Or.inl ⟨by rfl, ?hcb7x8⟩) hS0 ?rcb7x8
      case hcb7x8 => (intro w hw; obtain ⟨⟨m0, m1, m2⟩, m3⟩ := hw; go_simp; try (with_reducible rfl))
      try simp only [Act.put, zA, zB, zC]
      refine tG (some 69) 8 ?vcb8x9 rfl rfl (Or.inl ⟨by rfl, ?hcb8x9⟩) hS0 ?rcb8x9
      case hcb8x9 => (intro w hw; obtain ⟨⟨m0, m1, m2⟩, m3⟩ := hw; go_simp; try (with_reducible rfl))
      try simp only [Act.put, zA, zB, zC]
      refine tG (some 70) 9 ?vcb9x10 rfl rfl (Or.inl ⟨by rfl, ?hcb9x10⟩) hS0 ?rcb9x10
      case hcb9x10 => (intro w hw; obtain ⟨⟨m0, m1, m2⟩, m3⟩ := hw; go_simp; try (with_reducible rfl))
      try simp only [Act.put, zA, zB, zC]
      refine tG (some 71) 10 ?vcb10x11 rfl rfl (Or.inl ⟨by rfl, ?hcb10x11⟩) hS0 ?rcb10x11
      case hcb10x11 => (intro w hw; obtain ⟨⟨m0, m1, m2⟩, m3⟩ := hw; go_simp; try (with_reducible rfl))
      try simp only [Act.put, zA, zB, zC]
      refine tG (some 73) 12 ?vcb12x12 rfl rfl (Or.inl ⟨by rfl, ?hcb12x12⟩) hS0 ?rcb12x12
      case hcb12x12 => (intro w hw; obtain ⟨⟨m0, m1, m2⟩, m3⟩ := hw; go_simp; try (with_reducible rfl))
      try simp only [Act.put, zA, zB, zC]
      refine tG (some 74) 13 ?vcb13x13 rfl rfl (Or.inl ⟨by rfl, ?hcb13x13⟩) hS0 ?rcb13x13
      case hcb13x13 => (intro w hw; obtain ⟨⟨m0, m1, m2⟩, m3⟩ := hw; go_simp; try (with_reducible rfl))
      try simp only [Act.put, zA, zB, zC]
      refine tG (some 75) 14 ?vcb14x14 rfl rfl (Or.inl ⟨by rfl, ?hcb14x14⟩) hS0 ?rcb14x14
      case hcb14x14 => (intro w hw; obtain ⟨⟨m0, m1, m2⟩, m3⟩ := hw; go_simp; try (with_reducible rfl))
      try simp only [Act.put, zA, zB, zC]
      refine rD 11 rfl (fun K hK => ?_)
      go_simp
      refine (COK.out _ HQ8.out).mono ?_
      rintro e wK ⟨rfl, hMwK, hgwK⟩
      have HQK := hid (HSK.out _ _ HQ8.out hMwK hgwK)
      have swK : ((wK.cell? ⟨p11, 0, none⟩ = some (.bool xw) ∧ wK.cell? ⟨p11, 1, none⟩ = some (.int .i64 xk) ∧ wK.cell? ⟨p11, 2, none⟩ = some (.int .i64 xv)) ∧ wK.cell? ⟨g, i * 4 + 3, none⟩ = some (.slice (some ⟨g2, 0, none⟩) (opsAt s i).length uc)) := ⟨⟨hgwK.cell hS0.1.1 (fun e => absurd (Option.some.inj e) (by show p11 ≠ bK; omega)), hgwK.cell hS0.1.2.1 (fun e => absurd (Option.some.inj e) (by show p11 ≠ bK; omega)), hgwK.cell hS0.1.2.2 (fun e => absurd (Option.some.inj e) (by show p11 ≠ bK; omega))⟩, hgwK.cell hS0.2 (fun e => absurd (Option.some.inj e) (by show g ≠ bK; omega))⟩
      have HBK := hid (HB8.out.grown hgwK HB8.out.size (fun j hj => by cases hj; omega))
      show K _ _
      refine hK.out _ _ swK (fun _ => ?_)
      clear hK K hMwK hgwK
      refine rD 15 rfl (fun K hK => ?_)
      go_simp
      refine (COV.out _ HQK.out).mono ?_
      rintro e wV ⟨rfl, hMwV, hgwV⟩
      have HQV := hid (HSV.out _ _ HQK.out hMwV hgwV)
      have swV : ((wV.cell? ⟨p11, 0, none⟩ = some (.bool xw) ∧ wV.cell? ⟨p11, 1, none⟩ = some (.int .i64 xk) ∧ wV.cell? ⟨p11, 2, none⟩ = some (.int .i64 xv)) ∧ wV.cell? ⟨g, i * 4 + 3, none⟩ = some (.slice (some ⟨g2, 0, none⟩) (opsAt s i).length uc)) := ⟨⟨hgwV.cell swK.1.1 (fun e => absurd (Option.some.inj e) (by show p11 ≠ bV; omega)), hgwV.cell swK.1.2.1 (fun e => absurd (Option.some.inj e) (by show p11 ≠ bV; omega)), hgwV.cell swK.1.2.2 (fun e => absurd (Option.some.inj e) (by show p11 ≠ bV; omega))⟩, hgwV.cell swK.2 (fun e => absurd (Option.some.inj e) (by show g ≠ bV; omega))⟩
      have HBV := hid (HBK.out.grown hgwV HBK.out.size (fun j hj => by cases hj; omega))
      show K _ _
      refine hK.out _ _ swV (fun _ => ?_)
      clear hK K hMwV hgwV
      refine tG (some 77) 16 ?vcb16x17 rfl rfl (Or.inl ⟨by rfl, ?hcb16x17⟩) swV ?rcb16x17
      case hcb16x17 => (intro w hw; obtain ⟨⟨m0, m1, m2⟩, m3⟩ := hw; go_simp; try (with_reducible rfl))
      try simp only [Act.put, zA, zB, zC]
      refine tG (some 78) 17 ?vcb17x18 rfl rfl (Or.inl ⟨by rfl, ?hcb17x18⟩) swV ?rcb17x18
      case hcb17x18 => (intro w hw; obtain ⟨⟨m0, m1, m2⟩, m3⟩ := hw; go_simp; try (with_reducible rfl))
      try simp only [Act.put, zA, zB, zC]
      refine rD 18 rfl (fun K hK => ?_)
      have hth := HTH.out _ HQV.out
      refine wp_store_mid 54 _ _ rfl g2 (k * 3) #[.bool xw, .int .i64 pk, .int .i64 pv] rfl rfl hth (by kernel_rfl) (by simp [Value.oneCell']) ?_
      have sZ : (((wV.setCells g2 (k * 3) [.bool xw, .int .i64 pk, .int .i64 pv]).cell? ⟨p11, 0, none⟩ = some (.bool xw) ∧ (wV.setCells g2 (k * 3) [.bool xw, .int .i64 pk, .int .i64 pv]).cell? ⟨p11, 1, none⟩ = some (.int .i64 xk) ∧ (wV.setCells g2 (k * 3) [.bool xw, .int .i64 pk, .int .i64 pv]).cell? ⟨p11, 2, none⟩ = some (.int .i64 xv)) ∧ (wV.setCells g2 (k * 3) [.bool xw, .int .i64 pk, .int .i64 pv]).cell? ⟨g, i * 4 + 3, none⟩ = some (.slice (some ⟨g2, 0, none⟩) (opsAt s i).length uc)) := ⟨⟨(cell_put (by first | (show g ≠ g2; exact hgg) | (show p11 ≠ g2; omega)) _ _ _).trans swV.1.1, (cell_put (by first | (show g ≠ g2; exact hgg) | (show p11 ≠ g2; omega)) _ _ _).trans swV.1.2.1, (cell_put (by first | (show g ≠ g2; exact hgg) | (show p11 ≠ g2; omega)) _ _ _).trans swV.1.2.2⟩, (cell_put (by first | (show g ≠ g2; exact hgg) | (show p11 ≠ g2; omega)) _ _ _).trans swV.2⟩
      refine hK.out _ _ sZ (fun _ => ?_)
      clear hK K hth
      refine wpAnyH_done (by kernel_rfl) ?_ _
      have HQn := hid (HSO.out _ HQV.out)
      have HBn : Hid (Below w.heap.size w (wV.setCells g2 (k * 3) [.bool xw, .int .i64 pk, .int .i64 pv])) := hid (below_putC (by omega) _ _ _ HBV.out)
      clear hS0 swK swV sZ
      generalize (wV.setCells g2 (k * 3) [.bool xw, .int .i64 pk, .int .i64 pv]) = wZ at *
      go_wp2_with fail
      go_roundw
      case rel => exact ⟨k + 1, by omega, by go_num, HQn, HBn⟩
      case measure => simp [intOf]; omega
     ·obtain rfl : k = (opsAt s i).length := by omega
      have hkk : ¬ ((opsAt s i).length : Int) < ((opsAt s i).length : Int) := by omega
      have HQd := hid (CanI.done HQk.out hi9)
      clear HQk
      go_wp2_with fail
      go_roundw
      case rel => exact ⟨i + 1, by omega, by go_num, HQd, HBk⟩
      case measure => simp [intOf]; omega
   ·obtain rfl : i = s.length := by omega
    have hki : ¬ (s.length : Int) < (s.length : Int) := by omega
    have HCP := hid (HQ.out.copy HFF.out HB2.out (by have := HQ.out.mM.lt; omega))
    clear HQ
    go_wp2_with fail
    go_ret
    exact ⟨⟨_, rfl, _, HCP.out, s', HSR.out.1, by rw [HSR.out.2]; exact cTx_canE s⟩, HB.out⟩
end

section
open Go.RowKit
def NmI (w : World) (v : Value) (F : Int → Option Int) : Prop := (v = .map none ∧ F = fun _ => none) ∨ ∃ b n c, v = .map (some b) ∧ MapI eI Tryz.prog 3 w b n F c
theorem NmI.below {w w' : World} {v : Value} {F : Int → Option Int} (h : NmI w v F) (hb : Below w.heap.size w w') : NmI w' v F := by
 rcases h with ⟨rfl, rfl⟩ | ⟨b, n, c, rfl, hM⟩
 ·exact .inl ⟨rfl, rfl⟩
 ·exact .inr ⟨b, n, c, rfl, hM.below hb⟩
def nmF (F : Int → Option Int) (x : Int) : Int := (F x).getD x
theorem nil_look (x : Int) (w : World) : Sem.run Tryz.prog (Instr.lookup 31 (.map none) (.int .i64 x) true) w = .ok (.tuple #[.int .i64 0, .bool false]) w := by kernel_rfl
theorem rname_any (v : Value) (F : Int → Option Int) (x : Int) (w : World) (hN : NmI w v F) (hx : InI x) :
  Calls Tryz.prog 82 #[v, .int .i64 x] w fun e w' => e = .returned (.int .i64 (nmF F x)) ∧ w = w' := by
 rcases hN with ⟨rfl, rfl⟩ | ⟨b, n, c, rfl, hM⟩
 ·have HV : Hid (nmF (fun _ => none) x = x) := hid rfl
  rw [HV.out]
  have hlk := nil_look x
  go_enter Tryz.func82, Tryz.ntmps82
  go_wp2_with fail
  go_ret
  exact ⟨rfl, rfl⟩
 ·cases hv : F x with
  | none =>
   have HV : Hid (nmF F x = x) := hid (by unfold nmF; rw [hv]; rfl)
   rw [HV.out]
   go_enter Tryz.func82, Tryz.ntmps82
   go_wp2_with (first | (at_lookup; refine wpList_lookI_ok _ rfl _ _ 31 rfl 3 3 keyI mapII 0 (zeroI _) _ _ _ _ rfl hM _ rfl hx ?_; rw [hv]; simp only [Option.getD_none, Option.isSome_none, eI]) | go_in)
   go_ret
   exact ⟨rfl, rfl⟩
  | some y =>
   have HV : Hid (nmF F x = y) := hid (by unfold nmF; rw [hv]; rfl)
   rw [HV.out]
   go_enter Tryz.func82, Tryz.ntmps82
   go_wp2_with (first | (at_lookup; refine wpList_lookI_ok _ rfl _ _ 31 rfl 3 3 keyI mapII 0 (zeroI _) _ _ _ _ rfl hM _ rfl hx ?_; rw [hv]; simp only [Option.getD_some, Option.isSome_some, eI]) | go_in)
   go_ret
   exact ⟨rfl, rfl⟩
def apartP (F : Int → Option Int) (l : List Int) : Prop := ∀ a ∈ l, ∀ b ∈ l, nmF F a = nmF F b → a = b
instance (F : Int → Option Int) (l : List Int) : Decidable (apartP F l) := by unfold apartP; infer_instance
def whoF (F : Int → Option Int) : List Int → Int → Option Int
 | [], _ => none
 | a :: l, y => if nmF F a = y then some a else whoF F l y
theorem whoF_put (F : Int → Option Int) (l : List Int) (x : Int) : putF (whoF F l) (nmF F x) x = whoF F (x :: l) := by
 funext y
 unfold putF
 rw [whoF]
 by_cases e : y = nmF F x
 ·rw [if_pos e, if_pos e.symm]
 ·rw [if_neg e, if_neg (fun q => e q.symm)]
theorem whoF_some {F : Int → Option Int} : ∀ {l : List Int} {y a : Int}, whoF F l y = some a → a ∈ l ∧ nmF F a = y
 | b :: l, y, a, h => by
  rw [whoF] at h
  by_cases e : nmF F b = y
  ·rw [if_pos e] at h; cases h; exact ⟨List.mem_cons_self .., e⟩
  ·rw [if_neg e] at h; exact ⟨List.mem_cons_of_mem _ (whoF_some h).1, (whoF_some h).2⟩
theorem whoF_none {F : Int → Option Int} : ∀ {l : List Int} {y : Int}, whoF F l y = none → ∀ a ∈ l, nmF F a ≠ y
 | b :: l, y, h, a, ha => by
  rw [whoF] at h
  by_cases e : nmF F b = y
  ·rw [if_pos e] at h; cases h
  ·rw [if_neg e] at h
   rcases List.mem_cons.1 ha with rfl | ha
   ·exact e
   ·exact whoF_none h a ha
theorem apart_more {F : Int → Option Int} {l : List Int} {x : Int} (h : apartP F l) (hw : whoF F l (nmF F x) = none ∨ whoF F l (nmF F x) = some x) : apartP F (x :: l) := by
 have key : ∀ a ∈ l, nmF F a = nmF F x → a = x := fun a ha e => by
  rcases hw with hw | hw
  ·exact absurd e (whoF_none hw a ha)
  ·obtain ⟨h1, _⟩ := whoF_some hw
   exact h a ha x h1 e
 intro a ha b hb e
 rcases List.mem_cons.1 ha with ea | ha2
 ·rcases List.mem_cons.1 hb with eb | hb2
  ·rw [ea, eb]
  ·rw [ea] at e ⊢
   exact (key b hb2 e.symm).symm
 ·rcases List.mem_cons.1 hb with eb | hb2
  ·rw [eb] at e ⊢
   exact key a ha2 e
  ·exact h a ha2 b hb2 e
theorem apart_not {F : Int → Option Int} {l m : List Int} {x a : Int} (hm : ∀ b, b ∈ l → b ∈ m) (hx : x ∈ m) (hw : whoF F l (nmF F x) = some a) (hne : a ≠ x) : ¬ apartP F m := fun h => by
 obtain ⟨h1, h2⟩ := whoF_some hw
 exact hne (h a (hm a h1) x hx h2)
end

section
open Go.RowKit
theorem apart_perm {F : Int → Option Int} {l m : List Int} (h : ∀ b, b ∈ l ↔ b ∈ m) (q : apartP F l) : apartP F m := fun a ha b hb e => q a ((h a).2 ha) b ((h b).2 hb) e
theorem rapart_any (v va : Value) (F : Int → Option Int) (l : List Int) (w : World) (hN : NmI w v F) (hI : Ints w va l) (hl : ∀ x ∈ l, InI x ∧ InI (nmF F x)) (hn : l.length ≤ 100000) :
  Calls Tryz.prog 63 #[v, va] w fun e w' => e = .returned (.bool (decide (apartP F l))) ∧ Below w.heap.size w w' := by
 obtain ⟨ao, cap, rfl, hal⟩ := hI.form
 have HI := hid (fun wx (hx : Below w.heap.size w wx) => hI.below hx)
 have CN := hid (fun x wx (hx : Below w.heap.size w wx) (hi : InI x) => rname_any v F x wx (hN.below hx) hi)
 have HL := hid hl
 have hm0 := MapI.made eI Tryz.prog 3 w
 have hb1 := hid (box_below w (.map #[] 0))
 have hmm := @run_makeMap Tryz.prog
 clear hI hN hl
 go_enter Tryz.func63, Tryz.ntmps63
 go_wp2_with fail
 clear hmm
 go_loopw [14] (fun i wr => ∃ (k n c : Nat), k ≤ l.length ∧ i = .int .i64 (k : Int) ∧ n ≤ k ∧ Hid (apartP F (l.take k).reverse) ∧ MapI eI Tryz.prog 3 wr w.heap.size n (whoF F (l.take k).reverse) c ∧ Hid (Below w.heap.size w wr)) (fun i _ => l.length - (intOf i).toNat)
 case atStart => exact ⟨0, 0, 0, by omega, rfl, by omega, hid (fun a ha => by cases ha), hm0, hb1⟩
 case round =>
  obtain ⟨k, n, c, hk, rfl, hnk, HA, hM, HB⟩ := hrel
  clear hm0
  by_cases hlt : k < l.length
  ·have hki : (k : Int) < (l.length : Int) := by omega
   obtain ⟨g, o, hao, hc⟩ := (HI.out _ HB.out).at hlt
   cases hao
   have hxl := HL.out l[k] (List.getElem_mem hlt)
   have CN1 := hid (CN.out l[k] wr HB.out hxl.1)
   have HS : Hid ((l.take (k + 1)).reverse = l[k] :: (l.take k).reverse) := hid (by rw [List.take_succ_eq_append_getElem hlt]; simp)
   have HIN : Hid (∀ b, b ∈ (l.take k).reverse → b ∈ l) := hid (fun b hb => List.mem_of_mem_take (List.mem_reverse.1 hb))
   have HXM := hid (List.getElem_mem hlt)
   have hsz := HB.out.size
   have hxn := hxl.2
   clear hxl
   generalize l[k] = x at *
   have HW := hid (whoF_put F (l.take k).reverse x)
   have HMO := hid (fun h hw => apart_more (x := x) (F := F) (l := (l.take k).reverse) h hw)
   have HNO := hid (fun a hw hne => apart_not (F := F) (a := a) HIN.out HXM.out hw hne)
   generalize (l.take k).reverse = R at *
   obtain ⟨y, hy⟩ : ∃ y, nmF F x = y := ⟨_, rfl⟩
   rw [hy] at CN1 hxn HW HMO HNO
   clear hy
   cases hv : whoF F R y with
   | none =>
    have HA2 := hid (HMO.out HA.out (.inl hv))
    clear HNO HMO
    go_wp2_with fail
    refine CN1.out.mono ?_
    rintro e wq ⟨rfl, rfl⟩
    go_wp2_with (first | (at_lookup; refine wpList_lookI_ok _ rfl _ _ 31 rfl 3 3 keyI mapII 0 (zeroI _) _ _ _ _ rfl hM _ rfl hxn ?_; rw [hv]; simp only [Option.getD_none, Option.isSome_none, eI]) | (at_mapUpdate; refine wpList_putI _ rfl _ _ _ 31 rfl 3 3 keyI mapII _ _ _ _ rfl hM (by unfold maxLen; omega) _ rfl hxn x rfl ?_; intro w1 hM4 hgm; go_frame) | go_in)
    have HB8 := hid (HB.out.grown hgm HB.out.size (fun j hj => by cases hj; omega))
    rw [HW.out] at hM4
    go_wp2_with fail
    go_roundw
    case rel => exact ⟨k + 1, n + 1, _, by omega, by go_num, by omega, by rw [HS.out]; exact HA2, by rw [HS.out]; exact hM4, HB8⟩
    case measure => simp [intOf]; omega
   | some a =>
    by_cases hax : a = x
    ·subst hax
     have HA2 := hid (HMO.out HA.out (.inr hv))
     have hqq : (a != a) = false := by simp
     clear HNO HMO
     go_wp2_with fail
     refine CN1.out.mono ?_
     rintro e wq ⟨rfl, rfl⟩
     go_wp2_with (first | (at_lookup; refine wpList_lookI_ok _ rfl _ _ 31 rfl 3 3 keyI mapII 0 (zeroI _) _ _ _ _ rfl hM _ rfl hxn ?_; rw [hv]; simp only [Option.getD_some, Option.isSome_some, eI]) | (at_mapUpdate; refine wpList_putI _ rfl _ _ _ 31 rfl 3 3 keyI mapII _ _ _ _ rfl hM (by unfold maxLen; omega) _ rfl hxn a rfl ?_; intro w1 hM4 hgm; go_frame) | go_in)
     have HB8 := hid (HB.out.grown hgm HB.out.size (fun j hj => by cases hj; omega))
     rw [HW.out] at hM4
     go_wp2_with fail
     go_roundw
     case rel => exact ⟨k + 1, n + 1, _, by omega, by go_num, by omega, by rw [HS.out]; exact HA2, by rw [HS.out]; exact hM4, HB8⟩
     case measure => simp [intOf]; omega
    ·have hqq : (a != x) = true := by simpa using hax
     have HF : Hid (false = decide (apartP F l)) := hid (by rw [decide_eq_false (HNO.out a hv hax)])
     clear HNO HMO
     go_wp2_with fail
     refine CN1.out.mono ?_
     rintro e wq ⟨rfl, rfl⟩
     go_wp2_with (first | (at_lookup; refine wpList_lookI_ok _ rfl _ _ 31 rfl 3 3 keyI mapII 0 (zeroI _) _ _ _ _ rfl hM _ rfl hxn ?_; rw [hv]; simp only [Option.getD_some, Option.isSome_some, eI]) | go_in)
     go_ret
     exact ⟨ret_b HF.out, HB.out⟩
  ·obtain rfl : k = l.length := by omega
   have hki : ¬ (l.length : Int) < (l.length : Int) := by omega
   have HT : Hid (true = decide (apartP F l)) := hid (by
    have h1 := HA.out
    rw [List.take_length] at h1
    rw [decide_eq_true (apart_perm (fun b => List.mem_reverse) h1)])
   go_wp2_with fail
   go_ret
   exact ⟨ret_b HT.out, HB.out⟩
end

section
open Go.RowKit
def ofF (l : List (Int × Int)) : Int → Option Int := l.foldl (fun f p => putF f p.1 p.2) (fun _ => none)
theorem ofF_snoc (l : List (Int × Int)) (p : Int × Int) : ofF (l ++ [p]) = putF (ofF l) p.1 p.2 := by unfold ofF; rw [List.foldl_append]; rfl
def PrN (w : World) (v : Value) (l : List (Int × Int)) : Prop := Row w v l.length 2 (frV l)
theorem PrN.below {w w' : World} {v : Value} {l : List (Int × Int)} (h : PrN w v l) (hb : Below w.heap.size w w') : PrN w' v l := Row.below h hb
theorem PrN.form {w : World} {v : Value} {l : List (Int × Int)} (h : PrN w v l) : ∃ ao cap, v = .slice ao l.length cap ∧ l.length ≤ 9223372036854775807 := by
 obtain ⟨_, ao, cap, rfl, hm, _, _⟩ := h
 exact ⟨ao, cap, rfl, Nat.le_trans hm.1 hm.2⟩
theorem frV_two : ∀ (l : List (Int × Int)) (k : Nat) (hk : k < l.length), (frV l)[k * 2]? = some (.int .i64 l[k].1) ∧ (frV l)[k * 2 + 1]? = some (.int .i64 l[k].2)
 | a :: l, 0, _ => ⟨rfl, rfl⟩
 | a :: l, k + 1, hk => by
  obtain ⟨h0, h1⟩ := frV_two l k (by simpa using hk)
  have e : ∀ j, (frV (a :: l))[(k + 1) * 2 + j]? = (frV l)[k * 2 + j]? := fun j => by
   unfold frV
   rw [List.flatMap_cons, show (k + 1) * 2 + j = 2 + (k * 2 + j) from by omega]
   rw [List.getElem?_append_right (by simp)]
   congr 1
   simp
  exact ⟨(e 0).trans h0, (e 1).trans h1⟩
theorem PrN.at {w : World} {ao : Option Addr} {n cap : Nat} {l : List (Int × Int)} (h : PrN w (.slice ao n cap) l) {k : Nat} (hk : k < l.length) : ∃ g o, ao = some ⟨g, o, none⟩ ∧ w.cell? ⟨g, o + k * 2, none⟩ = some (.int .i64 l[k].1) ∧ w.cell? ⟨g, o + k * 2 + 1, none⟩ = some (.int .i64 l[k].2) := by
 obtain ⟨_, ao', cap', he, _, _, hc⟩ := h
 cases he
 obtain ⟨b, off, e, hcell⟩ := hc (by omega)
 obtain ⟨h0, h1⟩ := frV_two l k hk
 refine ⟨b, off, e, ?_, ?_⟩
 ·rw [hcell (k * 2) (by omega)]; exact h0
 ·rw [show off + k * 2 + 1 = off + (k * 2 + 1) from by omega, hcell (k * 2 + 1) (by omega)]; exact h1
theorem lof21_any (va : Value) (l : List (Int × Int)) (w : World) (hP : PrN w va l) (hl : ∀ p ∈ l, InI p.1) (hn : l.length ≤ 100000) :
  Calls Tryz.prog 35 #[va] w fun e w' => (∃ b n c, e = .returned (.map (some b)) ∧ n ≤ l.length ∧ w.heap.size ≤ b ∧ MapI eI Tryz.prog 3 w' b n (ofF l) c) ∧ Below w.heap.size w w' := by
 obtain ⟨ao, cap, rfl, hal⟩ := hP.form
 have HP := hid (fun wx (hx : Below w.heap.size w wx) => hP.below hx)
 have HL := hid hl
 have hm0 := MapI.made eI Tryz.prog 3 w
 have hb1 := hid (box_below w (.map #[] 0))
 have hmm := @run_makeMap Tryz.prog
 clear hP hl
 go_enter Tryz.func35, Tryz.ntmps35
 go_wp2_with fail
 clear hmm
 go_loopw [9] (fun i wr => ∃ (k n c : Nat), k ≤ l.length ∧ i = .int .i64 (k : Int) ∧ n ≤ k ∧ MapI eI Tryz.prog 3 wr w.heap.size n (ofF (l.take k)) c ∧ Hid (Below w.heap.size w wr)) (fun i _ => l.length - (intOf i).toNat)
 case atStart => exact ⟨0, 0, 0, by omega, rfl, by omega, hm0, hb1⟩
 case round =>
  obtain ⟨k, n, c, hk, rfl, hnk, hM, HB⟩ := hrel
  clear hm0
  by_cases hlt : k < l.length
  ·have hki : (k : Int) < (l.length : Int) := by omega
   obtain ⟨g, o, hao, c0, c1⟩ := (HP.out _ HB.out).at hlt
   cases hao
   have hkx := HL.out l[k] (List.getElem_mem hlt)
   have HS : Hid (ofF (l.take (k + 1)) = putF (ofF (l.take k)) l[k].1 l[k].2) := hid (by rw [List.take_succ_eq_append_getElem hlt, ofF_snoc])
   generalize l[k] = p at *
   obtain ⟨x, y⟩ := p
   simp only at c0 c1 hkx HS
   have hM1 := hM.alloc (.cells #[.int .i64 x, .int .i64 y] 98)
   have HB1 := hid (HB.out.alloc HB.out.size (.cells #[.int .i64 x, .int .i64 y] 98))
   have hsz := HB.out.size
   clear hM HB
   go_wp2_with (first | (at_mapUpdate; refine wpList_putI _ rfl _ _ _ 31 rfl 3 3 keyI mapII _ _ _ _ rfl hM1 (by unfold maxLen; omega) _ rfl hkx y rfl ?_; intro w1 hM4 hgm; go_frame) | go_in)
   have HB8 := hid (HB1.out.grown hgm HB1.out.size (fun j hj => by cases hj; omega))
   rw [← HS.out] at hM4
   go_wp2_with fail
   go_roundw
   case rel => exact ⟨k + 1, n + 1, _, by omega, by go_num, by omega, hM4, HB8⟩
   case measure => simp [intOf]; omega
  ·obtain rfl : k = l.length := by omega
   have hki : ¬ (l.length : Int) < (l.length : Int) := by omega
   rw [List.take_length] at hM
   have HM := hid hM
   clear hM
   go_wp2_with fail
   go_ret
   first | exact ⟨⟨_, rfl, n, by omega, Nat.le_refl _, c, HM.out⟩, HB.out⟩ | exact ⟨⟨_, n, c, rfl, by omega, Nat.le_refl _, HM.out⟩, HB.out⟩ | exact ⟨⟨n, by omega, Nat.le_refl _, c, HM.out⟩, HB.out⟩ | exact ⟨⟨n, by omega, c, HM.out⟩, HB.out⟩
end

section
open Go.ChangeShapes Go.WideShapes Go.ChangeAt Go.RowKit Go.Deep
theorem array5N {α : Type} {cs : Array α} (h : cs.size = 5) : ∃ c0 c1 c2 c3 c4, cs = #[c0, c1, c2, c3, c4] := by
 obtain ⟨l⟩ := cs
 match l, h with
 | [c0, c1, c2, c3, c4], _ => exact ⟨c0, c1, c2, c3, c4, rfl⟩
theorem cellsPairN : Tryz.prog.cellsOf 98 = 2 := by kernel_rfl
theorem cellsIntN : Tryz.prog.cellsOf 3 = 1 := by kernel_rfl
theorem cellsNames : Tryz.prog.cellsOf 26 = 5 := by kernel_rfl
theorem frN_len : ∀ (l : List (Int × Int)), (frV l).length = l.length * 2
 | [] => rfl
 | a :: l => by
  have := frN_len l
  unfold frV at this ⊢
  rw [List.flatMap_cons, List.length_append, this]; simp; omega
theorem prn_of_cells {H : Type} {enc : TypeId × Value → H} {W : World} {v : Value} {fuel : Nat} {x : DataW H × List MemPlace}
  (hf : DataW.trod enc Tryz.prog W 0 (fun _ => true) true fuel 23 [v] = some x) : ∃ l, PrN W v l ∧ (∀ p ∈ l, IntOk p.1 ∧ IntOk p.2) ∧ ((∀ n ∈ DataW.weights Tryz.prog 23 x.1, n ≤ reachBytes) → l.length ≤ 9000000000000) := by
 rcases open_slice_pairs Tryz.underlying23 Tryz.underlying98 cellsPairN rfl rfl cellsIntN cellsIntN hf with ⟨hcs, hx⟩ | ⟨a, len', cap', m, n, V0, V1, D0, D1, P0, P1, hcs, hb, hl, hm, hmm, hx, hi⟩
 ·obtain rfl : v = .slice none 0 0 := by simpa using hcs
  exact ⟨[], ⟨rfl, none, 0, rfl, by simp, (fun _ => ⟨rfl, rfl⟩), (fun h => by simp at h)⟩, (fun p hp => by cases hp), by simp⟩
 ·obtain ⟨len, cap, rfl, rfl⟩ : ∃ len cap, len = len' ∧ cap = cap' := ⟨_, _, rfl, rfl⟩
  obtain rfl : v = .slice (some a) len cap := by simpa using hcs
  simp only [if_true] at hmm
  have h0 : ∀ i, ∃ z : Int, i < len → V0 i = .int .i64 z ∧ IntOk z := fun i => by
   by_cases hlt : i < len
   ·obtain ⟨_, _, ht, _⟩ := hi i (by omega)
    obtain ⟨z, hc, _, hw⟩ := DataW.trod_int Tryz.underlying3 ht
    exact ⟨z, fun _ => ⟨by simpa using hc, bounds_i64 hw⟩⟩
   ·exact ⟨0, fun h => absurd h hlt⟩
  have h1 : ∀ i, ∃ z : Int, i < len → V1 i = .int .i64 z ∧ IntOk z := fun i => by
   by_cases hlt : i < len
   ·obtain ⟨_, _, _, ht⟩ := hi i (by omega)
    obtain ⟨z, hc, _, hw⟩ := DataW.trod_int Tryz.underlying3 ht
    exact ⟨z, fun _ => ⟨by simpa using hc, bounds_i64 hw⟩⟩
   ·exact ⟨0, fun h => absurd h hlt⟩
  obtain ⟨Z0, hZ0⟩ := Classical.skolem.1 h0
  obtain ⟨Z1, hZ1⟩ := Classical.skolem.1 h1
  have hlen : ((List.range len).map fun i => ((Z0 i, Z1 i) : Int × Int)).length = len := by simp
  have hel : ∀ (i : Nat) (h : i < ((List.range len).map fun i => ((Z0 i, Z1 i) : Int × Int)).length), ((List.range len).map fun i => ((Z0 i, Z1 i) : Int × Int))[i] = (Z0 i, Z1 i) := fun i h => by simp
  have hok : ∀ p ∈ (List.range len).map fun i => ((Z0 i, Z1 i) : Int × Int), IntOk p.1 ∧ IntOk p.2 := fun p hp => by
   obtain ⟨i, hi', rfl⟩ := List.mem_map.1 hp
   exact ⟨(hZ0 i (List.mem_range.1 hi')).2, (hZ1 i (List.mem_range.1 hi')).2⟩
  have hwl : (∀ n ∈ DataW.weights Tryz.prog 23 x.1, n ≤ reachBytes) → ((List.range len).map fun i => ((Z0 i, Z1 i) : Int × Int)).length ≤ 9000000000000 := by
   intro hw
   rw [hlen]
   have hb16 : Tryz.prog.bytesOf 98 = 16 := by kernel_rfl
   rw [hx] at hw
   simp only [DataW.weights, Tryz.underlying23] at hw
   have := hw _ List.mem_cons_self
   rw [hb16] at this
   unfold reachBytes at this
   simp at this
   omega
  refine ⟨(List.range len).map fun i => ((Z0 i, Z1 i) : Int × Int), ?_, hok, hwl⟩
  clear hok hwl
  generalize (List.range len).map (fun i => ((Z0 i, Z1 i) : Int × Int)) = l at *
  subst hlen
  refine ⟨frN_len l, some a, cap, rfl, ⟨hl, hm⟩, (fun h => by cases h), fun hn => ?_⟩
  obtain ⟨b, off, spot⟩ := a
  have hspot : spot = none := by simpa [Addr.add] using World.cell?_spot (hi 0 (by omega)).1
  subst hspot
  refine ⟨b, off, rfl, fun i hii => ?_⟩
  have hk : i / 2 < l.length := by omega
  obtain ⟨c0, c1, _, _⟩ := hi (i / 2) (by omega)
  rw [Addr.add_lit, (hZ0 _ hk).1] at c0
  rw [Addr.add_lit, (hZ1 _ hk).1] at c1
  obtain ⟨e0, e1⟩ := frV_two l (i / 2) hk
  rw [hel _ hk] at e0 e1
  rcases Nat.mod_two_eq_zero_or_one i with h | h
  ·have ei : i = i / 2 * 2 := by omega
   rw [show (frV l)[i]? = (frV l)[i / 2 * 2]? from by rw [← ei], e0, ← c0]; congr 2; omega
  ·have ei : i = i / 2 * 2 + 1 := by omega
   rw [show (frV l)[i]? = (frV l)[i / 2 * 2 + 1]? from by rw [← ei], e1, ← c1]; congr 2; omega
theorem names_of_trod {H : Type} {enc : TypeId × Value → H} {W : World} {base : Nat} {v : Value} {d : DataW H} {p : List MemPlace}
  (hval : Value.okWide Tryz.prog W .any base 26 v) (h : DataW.Trod enc Tryz.prog W 0 (fun _ => true) true 26 v d p) (hwt : ∀ n ∈ DataW.weights Tryz.prog 26 d, n ≤ reachBytes) :
  ∃ (vk vs vv vt vo : Value) (lk ls lv lt : List (Int × Int)) (L : List Int), v = .agg #[vk, vs, vv, vt, vo] ∧ (PrN W vk lk ∧ ∀ p ∈ lk, IntOk p.1 ∧ IntOk p.2) ∧ (PrN W vs ls ∧ ∀ p ∈ ls, IntOk p.1 ∧ IntOk p.2) ∧ (PrN W vv lv ∧ ∀ p ∈ lv, IntOk p.1 ∧ IntOk p.2) ∧ (PrN W vt lt ∧ ∀ p ∈ lt, IntOk p.1 ∧ IntOk p.2) ∧ Ints W vo L ∧ lk.length ≤ 9000000000000 ∧ ls.length ≤ 9000000000000 ∧ lv.length ≤ 9000000000000 ∧ lt.length ≤ 9000000000000 := by
 obtain ⟨cs, rfl, hsz⟩ := okWide_struct Tryz.underlying26 hval
 obtain ⟨c0, c1, c2, c3, c4, rfl⟩ := array5N (hsz.trans cellsNames)
 obtain ⟨fuel, hf⟩ := h
 obtain ⟨xs, n, _, hx, hl, hlen, hf⟩ := DataW.trod_struct Tryz.underlying26 hf
 have h0 := hf 0 _ rfl
 have h1 := hf 1 _ rfl
 have h2 := hf 2 _ rfl
 have h3 := hf 3 _ rfl
 have h4 := hf 4 _ rfl
 match xs, hlen with
 | [y0, y1, y2, y3, y4], _ =>
  simp [Value.cells] at h0 h1 h2 h3 h4
  have hd := congrArg Prod.fst hx
  have hd : d = .agg ([y0, y1, y2, y3, y4].map (·.1)) := hd
  have hin : ∀ i (hi : i < 4) n, n ∈ DataW.weights Tryz.prog 23 ([y0, y1, y2, y3, y4][i]'(by simp; omega)).1 → n ≤ reachBytes := fun i hi n hn => hwt n (by
   rw [hd]
   simp only [DataW.weights, Tryz.underlying26, DataW.weightsEach, List.map_cons, List.map_nil]
   match i, hi with
   | 0, _ => simp at hn; simp [hn]
   | 1, _ => simp at hn; simp [hn]
   | 2, _ => simp at hn; simp [hn]
   | 3, _ => simp at hn; simp [hn])
  obtain ⟨lk, hk, ik, nk⟩ := prn_of_cells h0
  obtain ⟨ls, hs, is, ns⟩ := prn_of_cells h1
  obtain ⟨lv, hv, iv, nv⟩ := prn_of_cells h2
  obtain ⟨lt, ht, it, nt⟩ := prn_of_cells h3
  obtain ⟨L, ho⟩ := ints_of_cells h4
  exact ⟨c0, c1, c2, c3, c4, lk, ls, lv, lt, L, rfl, ⟨hk, ik⟩, ⟨hs, is⟩, ⟨hv, iv⟩, ⟨ht, it⟩, ho, nk (hin 0 (by omega)), ns (hin 1 (by omega)), nv (hin 2 (by omega)), nt (hin 3 (by omega))⟩
end

section
open Go.RowKit
structure KeepLaw (B : Nat) (Kp : (Nat → Prop) → Nat → World → World → Prop) : Prop where
 put : ∀ {X D A l o r}, B ≤ l → l < D → A.heap[l]? = some (.loop r) → Kp X D A (A.putObj l o)
 trans : ∀ {X D A B C}, Kp X D A B → Kp X D B C → Kp X D A C
 mono : ∀ {X D E A B}, Kp X D A B → D ≤ E → Kp X E A B
 same : ∀ {X D A B k o}, Kp X D A B → D ≤ k → ¬ X k → A.heap[k]? = some o → o.isCells = false → B.heap[k]? = some o
structure KeepsX (D : Nat) (X : Nat → Prop) (A B : World) : Prop where
 os : B.os = A.os
 tape : B.tape = A.tape
 output : B.output = A.output
 size : A.heap.size ≤ B.heap.size
 same : ∀ k, k < D ∨ X k → k < A.heap.size → B.heap[k]? = A.heap[k]?
theorem KeepsX.trans {D : Nat} {X : Nat → Prop} {A B C : World} (h : KeepsX D X A B) (k : KeepsX D X B C) : KeepsX D X A C :=
 ⟨k.os.trans h.os, k.tape.trans h.tape, k.output.trans h.output, Nat.le_trans h.size k.size, fun j hj hl => (k.same j hj (Nat.lt_of_lt_of_le hl h.size)).trans (h.same j hj hl)⟩
theorem KeepsX.of_below {D : Nat} {X : Nat → Prop} {A B : World} (h : Below A.heap.size A B) : KeepsX D X A B := ⟨h.os, h.tape, h.output, h.size, fun k _ hk => h.block k hk⟩
theorem KeepsX.below {D : Nat} {X : Nat → Prop} {A B : World} (h : KeepsX D X A B) (hD : D ≤ A.heap.size) : Below D A B := ⟨h.os, h.tape, h.output, h.size, fun k hk => h.same k (.inl hk) (by omega)⟩
theorem KeepsX.put {D l : Nat} {X : Nat → Prop} (A : World) (o : Obj) (hl : D ≤ l) (hX : ¬ X l) : KeepsX D X A (A.putObj l o) :=
 ⟨(grownBy_putObj' A l o).os, (grownBy_putObj' A l o).tape, (grownBy_putObj' A l o).output, (grownBy_putObj' A l o).size, fun k hk _ => World.putObj_heap_other (fun e => by subst e; exact hk.elim (fun h => by omega) hX)⟩
def StaysX {α : Type} (D : Nat) (J : (Nat → Prop) → List α → World → Prop) : Prop := ∀ X pre A B, J X pre A → KeepsX D X A B → J X pre B
def SeqOf {α : Type} (H : Nat → (Nat → Prop) → World → Value → α → Prop) (Kp : (Nat → Prop) → Nat → World → World → Prop) (F : Fence) (n : Nat) (P : Program) (g : Nat) (pb lb : Array Value) (L : List α) (w : World) : Prop :=
 ∀ (l : Nat) (J : (Nat → Prop) → List α → World → Prop) (Jx : List α → World → Prop) (W : World), KeepsX w.heap.size (fun _ => False) w W → StaysX W.heap.size J →
  (∀ X pre v r A, J X pre A → H W.heap.size X A v r → (∀ k, X k → W.heap.size ≤ k) → (pre ++ [r]) <+: L → YieldAt F (n - 1) P l #[v] A fun e B =>
   (e = .returned (.bool true) ∧ (∃ X', J X' (pre ++ [r]) B ∧ ∀ k, X' k → X k ∨ (A.heap.size ≤ k ∧ k < B.heap.size)) ∧ Kp X W.heap.size A B) ∨ (e = .returned (.bool false) ∧ Jx (pre ++ [r]) B ∧ Kp X W.heap.size A B)) →
  J (fun _ => False) [] W →
  CallsIn F n P g (pb ++ #[.func (.yield l) #[] #[]] ++ lb) W fun e B => (∃ v, e = .returned v) ∧ ((∃ X, J X L B) ∨ ∃ pre, pre <+: L ∧ Jx pre B)
def roundEndO {α : Type} (Kp : (Nat → Prop) → Nat → World → World → Prop) (D : Nat) (I : (Nat → Prop) → List α → World → Prop) (Ix : Code → List α → World → Prop) (X : Nat → Prop) (xs : List α) (W : World) : Exit → Act → World → Prop
 | .normal, _, B => (∃ X', I X' xs B ∧ ∀ k, X' k → X k ∨ (W.heap.size ≤ k ∧ k < B.heap.size)) ∧ Kp X D W B
 | .ret, _, B => Kp X D W B ∧ Ix .ret xs B
 | .exit id, _, B => Kp X D W B ∧ Ix (.exit id) xs B
 | _, _, _ => False
def KpN (N : Nat → Prop) (X : Nat → Prop) (D : Nat) (A B : World) : Prop := A.heap.size ≤ B.heap.size ∧ ∀ k, N k ∨ D ≤ k → ¬ X k → k < A.heap.size → B.heap[k]? = A.heap[k]?
theorem kpN_law {N : Nat → Prop} {B : Nat} (hN : ∀ k, N k → k < B) : KeepLaw B (KpN N) :=
 ⟨fun {X D A l o r} hB hl _ => ⟨Nat.le_of_eq World.putObj_size.symm, fun k hk _ _ => World.putObj_heap_other (fun e => by subst e; exact hk.elim (fun q => by have := hN _ q; omega) (fun q => by omega))⟩,
  fun h k => ⟨Nat.le_trans h.1 k.1, fun j hj hX hl => (k.2 j hj hX (Nat.lt_of_lt_of_le hl h.1)).trans (h.2 j hj hX hl)⟩,
  fun h e => ⟨h.1, fun j hj => h.2 j (hj.imp id (fun q => Nat.le_trans e q))⟩, fun h hk hX e _ => (h.2 _ (.inr hk) hX (Array.getElem?_eq_some_iff.1 e).1).trans e⟩
theorem KpN.of_grown {N X : Nat → Prop} {D : Nat} {A B : World} {row : Option Nat} (h : A.grownBy B row) (hr : ∀ j, row = some j → (¬ N j ∧ j < D) ∨ X j) : KpN N X D A B :=
 ⟨h.size, fun k hk hX hl => h.block k hl (fun e => (hr k e.symm).elim (fun q => hk.elim q.1 (fun z => by omega)) hX)⟩
theorem KpN.trans {N X : Nat → Prop} {D : Nat} {A B C : World} (h : KpN N X D A B) (k : KpN N X D B C) : KpN N X D A C :=
 ⟨Nat.le_trans h.1 k.1, fun j hj hX hl => (k.2 j hj hX (Nat.lt_of_lt_of_le hl h.1)).trans (h.2 j hj hX hl)⟩
theorem KpN.of_below {N X : Nat → Prop} {D : Nat} {A B : World} (h : Below A.heap.size A B) : KpN N X D A B := ⟨h.size, fun k _ _ hk => h.block k hk⟩
section
variable {α : Type} {H : Nat → (Nat → Prop) → World → Value → α → Prop} {Kp : (Nat → Prop) → Nat → World → World → Prop}
theorem range_of (hH : ∀ {D X W v x l o r}, H D X W v x → l < D → W.heap[l]? = some (.loop r) → H D X (W.putObj l o) v x)
  {F : Fence} {n : Nat} {P : Program} {g : Operand} {ps : Array Tmp} {assign body : Code} {Q : Exit → Act → World → Prop} {a : Act} {w w0 : World} {gf : Nat} {pb lb : Array Value} {L : List α}
  (hKp : KeepLaw w.heap.size Kp) (hro : F.round = none) (h1 : 1 ≤ n) (hg : a.eval g = .func (.func gf) pb lb) (hFg : F.fn gf) (eg : ∀ args w, (callFunc gf args).run P w = .ok (.enter gf args) w)
  (hseq : SeqOf H Kp F (n - 1) P gf pb lb L w0) (hb0 : KeepsX w0.heap.size (fun _ => False) w0 w) (hps : ps.size = 1)
  (I : (Nat → Prop) → List α → World → Prop) (Ix : Code → List α → World → Prop) (hI : StaysX w.heap.size I) (hIx : ∀ c pre W (r : Loop) o, Ix c pre W → W.heap[w.heap.size + 1]? = some (.loop r) → Ix c pre (W.putObj (w.heap.size + 1) o)) (h0 : I (fun _ => False) [] w) (a1 : Value → Act)
  (hassign : ∀ (l : Nat) (v : Value) (W : World) (K : Act → World → Prop), K (a1 v) W →
   assign.wpIn (F.inRound l) (n - 1 - 1) P (Exit.then K (fun _ _ _ => False)) { tmps := (ps.zip #[v]).foldl (fun t (p, v) => t.setIfInBounds p v) a.tmps, defers := [] } W)
  (hbody : ∀ (l : Nat) (X : Nat → Prop) (pre : List α) (v : Value) (r : α) (W : World), w.heap.size ≤ l → l < w.heap.size + 2 → (∃ q, W.heap[l]? = some (.loop q)) → (∀ k, X k → w.heap.size + 2 ≤ k) → I X pre W → H (w.heap.size + 2) X W v r → (pre ++ [r]) <+: L → w.heap.size + 2 ≤ W.heap.size →
   body.wpIn (F.inRound l) (n - 1 - 1) P (roundEndO Kp w.heap.size I Ix X (pre ++ [r]) W) (a1 v) W)
  (hdone : ∀ X W, I X L W → W.heap[w.heap.size]? = some (.deferred (some [])) → Q .normal { a with defers := { target := .collected w.heap.size, args := #[] } :: a.defers } W)
  (hstop : ∀ c pre W, pre <+: L → Ix c pre W → W.heap[w.heap.size]? = some (.deferred (some [])) → c.wpIn F n P Q { a with defers := { target := .collected w.heap.size, args := #[] } :: a.defers } W) :
  (Code.rangeFunc g ps assign body).wpIn F n P Q a w := by
 refine wpIn_rangeFunc fun fn hfn => ?_
 rw [hro]
 generalize hD : w.heap.size = D at *
 obtain ⟨rec, hrec⟩ : ∃ rec : LoopState → Option Code → Loop, rec = fun st pe => { state := st, pending := pe, fn, tmps := a.tmps, params := ps, assign, body, defers := D } := ⟨_, rfl⟩
 have hrun : (Instr.enterLoop fn a.tmps ps assign body none).run P w = .ok (D + 1, [{ target := .collected D, args := #[] }]) ((w.alloc (.deferred (some []))).alloc (.loop (rec .ready none))) := by
  rw [hrec, ← hD]; exact run_enterLoop_outer _ _ _ _ _
 have hbel : Below w.heap.size w ((w.alloc (.deferred (some []))).alloc (.loop (rec .ready none))) := ((Below.refl _ w).alloc (Nat.le_refl _) _).alloc (by simp) _
 have hsz : ((w.alloc (.deferred (some []))).alloc (.loop (rec .ready none))).heap.size = D + 2 := by simp [hD]
 have hl1 : ((w.alloc (.deferred (some []))).alloc (.loop (rec .ready none))).heap[D + 1]? = some (.loop (rec .ready none)) := by
  have := World.alloc_heap_new (w.alloc (.deferred (some []))) (.loop (rec .ready none))
  rwa [World.size_alloc, hD] at this
 have hd1 : ((w.alloc (.deferred (some []))).alloc (.loop (rec .ready none))).heap[D]? = some (.deferred (some [])) := by
  rw [Below.heap_alloc _ _ _ (by simp [hD])]
  have := World.alloc_heap_new w (.deferred (some []))
  rwa [hD] at this
 generalize (w.alloc (.deferred (some []))).alloc (.loop (rec .ready none)) = W1 at *
 rw [hD] at hbel
 have hput : ∀ (X : Nat → Prop) (W : World) (o : Obj), (∀ k, X k → D + 2 ≤ k) → KeepsX D X W (W.putObj (D + 1) o) := fun X W o h =>
  KeepsX.put W o (by omega) (fun q => by have := h _ q; omega)
 refine ⟨D + 1, _, W1, { target := .fn (.func gf) lb, args := pb ++ #[.func (.yield (D + 1)) #[] #[]] }, W1, gf, pb ++ #[.func (.yield (D + 1)) #[] #[]] ++ lb, W1, hrun, ?_, ?_, ?_, fun _ => h1, ?_⟩
 ·simp only [resolve, hg]; simp [go_sem]
 ·intro f' hf'; simp [Target.leads] at hf'; subst hf'; exact hFg
 ·simp [invoke, go_sem, eg]
 have hat : ∀ {X : Nat → Prop} {A B : World} {k : Nat} {o : Obj}, KeepsX W1.heap.size X A B → k < D + 2 → A.heap[k]? = some o → B.heap[k]? = some o := fun h hk e => (h.same _ (.inl (by omega)) (Array.getElem?_eq_some_iff.1 e).1).trans e
 refine (hseq (D + 1) (fun X pre W => (∀ k, X k → D + 2 ≤ k) ∧ I X pre W ∧ W.heap[D + 1]? = some (.loop (rec .ready none)) ∧ W.heap[D]? = some (.deferred (some [])))
  (fun pre W => ∃ c, Ix c pre W ∧ W.heap[D + 1]? = some (.loop (rec .done (some c))) ∧ W.heap[D]? = some (.deferred (some []))) W1
  (hb0.trans ⟨hbel.os, hbel.tape, hbel.output, hbel.size, fun j hj hl => hbel.block j (by rw [← hD]; exact hl)⟩)
  (fun X pre A B h hb => ⟨h.1, hI _ _ _ _ h.2.1 ⟨hb.os, hb.tape, hb.output, hb.size, fun k hk hl => hb.same k (hk.imp (fun q => by omega) id) hl⟩, hat hb (by omega) h.2.2.1, hat hb (by omega) h.2.2.2⟩)
  ?_ ⟨fun _ h => h.elim, hI _ _ _ _ h0 (KeepsX.of_below (by rw [hD]; exact hbel)), hl1, hd1⟩).mono ?_
 ·rintro X pre v r A ⟨hX, hi, hl, hk⟩ hr _ hpre
  rw [hsz] at hr ⊢
  have hlt : D + 1 < A.heap.size := (Array.getElem?_eq_some_iff.1 hl).1
  have hy := run_yield (P := P) (args := #[v]) hl (by rw [hrec]; exact hps.symm)
  rw [hrec] at hy
  refine ⟨fn, _, assign, body, hy, roundIn_of_wpIn hfn (hassign _ v A _ ⟨_, run_beginRound hl (by rw [hrec]), ?_⟩)⟩
  have hl2 : (A.putObj (D + 1) (.loop { rec .ready none with state := .busy })).heap[D + 1]? = some (.loop { rec .ready none with state := .busy }) := World.putObj_heap_same hlt
  have hk2 : (A.putObj (D + 1) (.loop { rec .ready none with state := .busy })).heap[D]? = some (.deferred (some [])) := (World.putObj_heap_other (by omega)).trans hk
  have hK2 := hKp.put (X := X) (D := D + 2) (A := A) (l := D + 1) (o := .loop { rec .ready none with state := .busy }) (by omega) (by omega) hl
  refine wpIn_mono (hbody _ X pre v r _ (by omega) (by omega) ⟨_, hl2⟩ hX (hI _ _ _ _ hi (hput _ _ _ hX)) (hH hr (by omega) hl) hpre (by simp; omega)) ?_
  rintro e a3 W3 hp
  have fin : ∀ (jump : Option Code), Kp X D (A.putObj (D + 1) (.loop { rec .ready none with state := .busy })) W3 →
    ∃ B, (Instr.endRound (D + 1) jump).run P W3 = .ok (.bool jump.isNone) B ∧ (∃ (r : Loop) (o : Obj), W3.heap[D + 1]? = some (.loop r) ∧ B = W3.putObj (D + 1) o) ∧ (∀ Y, (∀ k, Y k → D + 2 ≤ k) → KeepsX D Y W3 B) ∧ Kp X (D + 2) A B ∧ B.heap[D + 1]? = some (.loop (rec (if jump.isNone then .ready else .done) jump)) ∧ B.heap[D]? = some (.deferred (some [])) := fun jump hk3 => by
   have hl3 := hKp.same hk3 (by omega) (fun q => by have := hX _ q; omega) hl2 rfl
   have hd3 := hKp.same hk3 (Nat.le_refl _) (fun q => by have := hX _ q; omega) hk2 rfl
   have hlt3 := (Array.getElem?_eq_some_iff.1 hl3).1
   refine ⟨_, run_endRound (P := P) jump hl3, ⟨_, _, hl3, rfl⟩, fun Y hY => hput Y _ _ hY, hKp.trans (hKp.trans hK2 (hKp.mono hk3 (by omega))) (hKp.put (by omega) (by omega) hl3), ?_, (World.putObj_heap_other (by omega)).trans hd3⟩
   rw [World.putObj_heap_same hlt3, hrec]
  cases e with
  | normal =>
   obtain ⟨⟨X', hi3, hX'⟩, hk3⟩ := hp
   obtain ⟨B, hr, _, hb, hkb, hl4, hd4⟩ := fin none hk3
   rw [World.putObj_size] at hX'
   have hY : ∀ k, X' k → D + 2 ≤ k := fun k q => (hX' k q).elim (hX k) (fun h => by omega)
   have hsz2 := (hb X' hY).size
   exact ⟨_, B, hr, .inl ⟨rfl, ⟨X', ⟨hY, hI _ _ _ _ hi3 (hb X' hY), hl4, hd4⟩, fun k q => (hX' k q).imp id (fun h => ⟨h.1, Nat.lt_of_lt_of_le h.2 hsz2⟩)⟩, hkb⟩⟩
  | ret =>
   obtain ⟨hk3, hi3⟩ := hp
   obtain ⟨B, hr, ⟨lr, lo, hl3, hB⟩, _, hkb, hl4, hd4⟩ := fin (some .ret) hk3
   exact ⟨_, B, hr, .inr ⟨rfl, ⟨_, by rw [hB]; exact hIx _ _ _ lr lo hi3 hl3, hl4, hd4⟩, hkb⟩⟩
  | exit id =>
   obtain ⟨hk3, hi3⟩ := hp
   obtain ⟨B, hr, ⟨lr, lo, hl3, hB⟩, _, hkb, hl4, hd4⟩ := fin (some (.exit id)) hk3
   exact ⟨_, B, hr, .inr ⟨rfl, ⟨_, by rw [hB]; exact hIx _ _ _ lr lo hi3 hl3, hl4, hd4⟩, hkb⟩⟩
  | goto t => exact hp.elim
  | panic ch => exact hp.elim
  | outgrown => exact hp.elim
 ·rintro e W2 ⟨⟨v, rfl⟩, (⟨X, hX, hi, hl, hk⟩ | ⟨pre, hpre, c, hi, hl, hk⟩)⟩
  ·have hlt := (Array.getElem?_eq_some_iff.1 hl).1
   refine ⟨none, _, by have := run_endLoop (P := P) hl (by rw [hrec]; simp); rw [hrec] at this; exact this, ?_⟩
   exact hdone X _ (hI _ _ _ _ hi (hput _ _ _ hX)) ((World.putObj_heap_other (by omega)).trans hk)
  ·refine ⟨some c, _, by have := run_endLoop (P := P) hl (by rw [hrec]; simp); rw [hrec] at this; exact this, ?_⟩
   exact hstop c pre _ hpre (hIx _ _ _ _ _ hi hl) ((World.putObj_heap_other (by omega)).trans hk)
end
end

section
open Go.RowKit
def BoxN (w : World) (p : Nat) (t : TypeId) (cs : Array Value) : Prop := w.heap[p]? = some (.cells cs t (0, 0))
section
variable {w w' : World} {p : Nat} {t : TypeId} {cs : Array Value}
theorem BoxN.lt (h : BoxN w p t cs) : p < w.heap.size := (Array.getElem?_eq_some_iff.1 h).1
theorem BoxN.cell (h : BoxN w p t cs) {i : Nat} {v : Value} (hv : cs[i]? = some v) : w.cell? ⟨p, i, none⟩ = some v := by rw [cell_of_row w p i _ _ _ h]; exact hv
theorem BoxN.free (h : BoxN w p t cs) (i : Nat) : w.frozen? ⟨p, i, none⟩ = false := frozen_of_row w p i _ _ h
theorem BoxN.new (w : World) (t : TypeId) (cs : Array Value) : BoxN (w.alloc (.cells cs t)) w.heap.size t cs := World.alloc_heap_new w _
theorem BoxN.below (h : BoxN w p t cs) (hb : Below w.heap.size w w') : BoxN w' p t cs := (hb.block p h.lt).trans h
theorem BoxN.kept {row : Option Nat} (h : BoxN w p t cs) (hg : w.grownBy w' row) (hne : some p ≠ row) : BoxN w' p t cs := (hg.block p h.lt hne).trans h
theorem BoxN.set (h : BoxN w p t cs) (i : Nat) (v : Value) : BoxN (w.setCell ⟨p, i, none⟩ v) p t (cs.setIfInBounds i v) := heap_setCell_same w p i cs t v h
theorem BoxN.far (h : BoxN w p t cs) {a : Addr} (ha : p ≠ a.block) (v : Value) : BoxN (w.setCell a v) p t cs := (heap_setCell_other w a p v ha).trans h
end
theorem owns_no_box {w : World} {b : Nat} {e t : TypeId} {s n p : Nat} {v : Value} {xs : List Value} {cs : Array Value} (h : w.ownsRow b e s v n xs) (k : BoxN w p t cs) (hne : e ≠ t) : v.ownBlock = none ∨ v.ownBlock ≠ some p := by
 rcases h.2 with ⟨rfl, _⟩ | ⟨g, c, cur, rfl, _, hh, _⟩
 ·exact .inl rfl
 ·right
  intro e2
  simp [Value.ownBlock] at e2
  subst e2
  unfold BoxN at k
  rw [hh] at k
  injection k with k
  injection k with _ k
  exact hne k
theorem grown_set (w : World) (a : Addr) (u : Value) : w.grownBy (w.setCell a u) (some a.block) :=
 ⟨rfl, rfl, rfl, by simp, fun k _ hk => Below.heap_setCell w a u k (fun e => hk (by rw [e]))⟩
theorem owns_weak {w : World} {b b' : Nat} {e : TypeId} {s n : Nat} {v : Value} {xs : List Value} (h : w.ownsRow b e s v n xs) (hb : b' ≤ b) : w.ownsRow b' e s v n xs := by
 refine ⟨h.1, ?_⟩
 rcases h.2 with q | ⟨g, c, cur, e1, e2, r⟩
 ·exact .inl q
 ·exact .inr ⟨g, c, cur, e1, Nat.le_trans hb e2, r⟩
def IntO (w : World) (b : Nat) (v : Value) (L : List Int) : Prop := w.ownsRow b 3 1 v L.length (L.map (Value.int .i64))
section
variable {w w' : World} {b : Nat} {v : Value} {L : List Int}
theorem IntO.ints (h : IntO w b v L) : Ints w v L := Ints.of_owns h
theorem IntO.below (h : IntO w b v L) (hb : Below w.heap.size w w') : IntO w' b v L := owns_below h hb
theorem IntO.box {p : Nat} {t : TypeId} {cs : Array Value} (h : IntO w b v L) (k : BoxN w p t cs) (hne : 3 ≠ t) (hg : w.grownBy w' (some p)) : IntO w' b v L := World.ownsRow.kept h hg (owns_no_box h k hne)
theorem IntO.nil (w : World) (b : Nat) : IntO w b (.slice none 0 0) [] := ⟨rfl, .inl ⟨rfl, rfl⟩⟩
theorem IntO.lit (w : World) {b : Nat} (hb : b ≤ w.heap.size) : IntO (w.alloc (.cells #[] 3)) b (.slice (some ⟨w.heap.size, 0, none⟩) 0 0) [] := World.ownsRow_lit (base := b) (size := 1) w #[] 0 hb (by decide) rfl
end
end

section
open Go.RowKit Go.Shelf
attribute [local go_sem] Oper.semAt_some
abbrev IntH : Nat → (Nat → Prop) → World → Value → Int → Prop := fun _ _ _ v x => v = .int .i64 x
theorem svalues_any (ao : Option Addr) (m cap : Nat) (w : World) :
  Calls Tryz.prog 61 #[.slice ao m cap] w fun e w' => e = .returned (.func (.func 81) #[] #[.pointer (some ⟨w.heap.size, 0, none⟩)]) ∧ w' = w.alloc (.cells #[.slice ao m cap] 24) := by
 go_enter Tryz.func61, Tryz.ntmps61
 go_wp2_with fail
 go_ret
 exact ⟨rfl, rfl⟩
theorem take_pre {α : Type} (l : List α) {k : Nat} (hk : k < l.length) : (l.take k ++ [l[k]]) <+: l := by
 rw [← List.take_succ_eq_append_getElem hk]; exact List.take_prefix _ _
theorem svalues_seq (n Bs : Nat) (va : Value) (xs : List Int) (w : World) (hB : Bs < w.heap.size) (hc : w.cell? ⟨Bs, 0, none⟩ = some va) (hI : Ints w va xs) :
  SeqOf IntH (KpN fun k => k < w.heap.size) Fence.wide n Tryz.prog 81 #[] #[.pointer (some ⟨Bs, 0, none⟩)] xs w := by
 intro l J Jx W hW hJ hY h0
 obtain ⟨ao, cap, rfl, hal⟩ := hI.form
 have hWb : Below w.heap.size w W := hW.below (Nat.le_refl _)
 have hcell := (hWb.cell (p := ⟨Bs, 0, none⟩) hB).trans hc
 have HI := hid hI
 have HW0 : Hid (∀ j, j < w.heap.size → W.heap[j]? = w.heap[j]?) := hid (fun j hj => hWb.block j hj)
 have HYL := hid (fun X pre v r A a b c d => yield_depth (m := n - 1) rfl 1 (hY X pre v r A a b c d))
 have HWS := hid hW.size
 clear hY hW hWb hc hI
 refine (callsIn_wide (n := n)).2 ((callsIn_wide (n := 2)).1 ?_)
 refine callsIn_of_wp Tryz.func81 rfl trivial ?_ rfl
 simp only [Tryz.ntmps81, List.size_toArray, List.length_cons, List.length_nil, Nat.reduceAdd, Nat.reduceSub, Array.replicate_succ, Array.replicate_zero, List.push_toArray, List.append_toArray, List.nil_append, List.cons_append]
 gi_wp2
 gi_loopw [7] (fun i wr => ∃ (k : Nat) (X : Nat → Prop), k ≤ xs.length ∧ i = .int .i64 (k : Int) ∧ Hid (J X (xs.take k) wr) ∧ Hid (∀ j, X j → W.heap.size ≤ j) ∧ Hid (∀ j, j < w.heap.size → wr.heap[j]? = w.heap[j]?) ∧ Hid (W.heap.size ≤ wr.heap.size))
  (fun i _ => xs.length - (intOf i).toNat)
 case atStart => exact ⟨0, fun _ => False, Nat.zero_le _, rfl, hid h0, hid (fun _ q => q.elim), HW0, hid (Nat.le_refl _)⟩
 case round =>
  clear h0 hcell
  obtain ⟨k, X, hk, rfl, HJ, HX, HS, HZ⟩ := hrel
  by_cases hlt : k < xs.length
  ·have hki : (k : Int) < (xs.length : Int) := by omega
   obtain ⟨g, o, hg, hcx⟩ := HI.out.at hlt
   cases hg
   have hcx := (World.cell?_of_block (HS.out g (block_lt hcx))).trans hcx
   have HT : Hid (xs.take (k + 1) = xs.take k ++ [xs[k]]) := hid (List.take_succ_eq_append_getElem hlt)
   have HP := hid (take_pre xs hlt)
   obtain ⟨fn, tmps, assign, body, hy, hR⟩ := HYL.out X (xs.take k) (.int .i64 xs[k]) xs[k] wr HJ.out rfl HX.out HP.out
   generalize xs[k] = x at *
   gi_wp2
   refine hR.mono ?_
   rintro e W3 (⟨rfl, ⟨X', hJ', hX'⟩, hk'⟩ | ⟨rfl, hx, _⟩)
   ·have HJ2 : Hid (J X' (xs.take (k + 1)) W3) := hid (by rw [HT.out]; exact hJ')
    have HX2 : Hid (∀ j, X' j → W.heap.size ≤ j) := hid (fun j q => (hX' j q).elim (HX.out j) (fun z => Nat.le_trans HZ.out z.1))
    have HS2 : Hid (∀ j, j < w.heap.size → W3.heap[j]? = w.heap[j]?) := hid (fun j hj => (hk'.2 j (.inl hj) (fun q => by have := HX.out j q; have := HWS.out; omega) (by have := HZ.out; have := HWS.out; omega)).trans (HS.out j hj))
    have HZ2 : Hid (W.heap.size ≤ W3.heap.size) := hid (Nat.le_trans HZ.out hk'.1)
    clear hJ' hX' hk' hcx
    gi_wp2
    go_roundw
    case rel => exact ⟨k + 1, X', by omega, by go_num, HJ2, HX2, HS2, HZ2⟩
    case measure => simp [intOf]; omega
   ·gi_wp2
    refine bodyPost_ret (results_none rfl _ _ _) rfl ?_
    exact ⟨⟨_, rfl⟩, .inr ⟨_, HP.out, hx⟩⟩
  ·obtain rfl : k = xs.length := by omega
   have hki : ¬ (xs.length : Int) < (xs.length : Int) := by omega
   have HJ2 : Hid (J X xs wr) := hid (by have q := HJ.out; rwa [List.take_length] at q)
   gi_wp2
   go_end0
   exact ⟨⟨_, rfl⟩, .inl ⟨X, HJ2.out⟩⟩
theorem owns_same {A B : World} {b : Nat} {e : TypeId} {s n : Nat} {v : Value} {xs : List Value} (h : A.ownsRow b e s v n xs) (hs : ∀ g, v.ownBlock = some g → B.heap[g]? = A.heap[g]?) : B.ownsRow b e s v n xs := by
 refine ⟨h.1, ?_⟩
 rcases h.2 with q | ⟨g, c, cur, e1, e2, e3, r⟩
 ·exact .inl q
 ·exact .inr ⟨g, c, cur, e1, e2, by rw [hs g (by rw [e1]; rfl)]; exact e3, r⟩
theorem owns_put {A : World} {b : Nat} {e : TypeId} {s n D : Nat} {v : Value} {xs : List Value} {o : Obj} (h : A.ownsRow b e s v n xs) (hD : A.heap[D]? = some o) (ho : o.isCells = false) (o' : Obj) : (A.putObj D o').ownsRow b e s v n xs := by
 refine owns_same h fun g hg => World.putObj_heap_other fun e => ?_
 subst e
 rcases h.2 with ⟨rfl, _⟩ | ⟨g', c, cur, rfl, _, e3, _⟩
 ·cases hg
 ·simp [Value.ownBlock] at hg
  subst hg
  rw [hD] at e3
  cases e3
  cases ho
theorem sappend_any (Bs : Nat) (va : Value) (xs : List Int) (w : World) (hB : Bs < w.heap.size) (hc : w.cell? ⟨Bs, 0, none⟩ = some va) (hI : Ints w va xs) (hn : xs.length ≤ 100000) :
  Calls Tryz.prog 94 #[.slice none 0 0, .func (.func 81) #[] #[.pointer (some ⟨Bs, 0, none⟩)]] w fun e w' => ∃ v, e = .returned v ∧ IntO w' w.heap.size v xs ∧ Below w.heap.size w w' := by
 obtain ⟨i0, hi, hz0, hz1, hz2⟩ := info_parts infoInt
 refine (callsIn_wide (n := 3)).1 ?_
 refine callsIn_of_wp_marks Tryz.func94 rfl trivial ?_ rfl
 simp only [Tryz.ntmps94, List.size_toArray, List.length_cons, List.length_nil, Nat.reduceAdd, Nat.reduceSub, Array.replicate_succ, Array.replicate_zero, List.push_toArray, List.append_toArray, List.nil_append, List.cons_append]
 have hbel := box_below w (.cells #[.slice none 0 0] 24)
 have hbx := Boxed.new w 24 (.slice none 0 0)
 have hs1 : (w.alloc (.cells #[.slice none 0 0] 24)).heap.size = w.heap.size + 1 := by simp
 gi_wp2_with fail
 generalize w.alloc (.cells #[.slice none 0 0] 24) = W1 at *
 refine range_of (H := IntH) (Kp := KpN fun k => k < w.heap.size) (gf := 81) (pb := #[]) (lb := #[.pointer (some ⟨Bs, 0, none⟩)]) (L := xs) (fun h _ _ => h) (kpN_law (by intro k hk; omega)) rfl (by omega) rfl trivial (fun args w => by kernel_rfl)
  (svalues_seq _ Bs va xs w hB hc hI) ⟨hbel.os, hbel.tape, hbel.output, hbel.size, fun k _ hk => hbel.block k hk⟩ rfl
  (fun X pre W => ∃ v, Boxed W w.heap.size 24 v ∧ IntO W (w.heap.size + 1) v pre ∧ (∀ b, v.ownBlock = some b → X b) ∧ Below w.heap.size w W ∧ ∃ a n c, v = .slice a n c)
  (fun _ _ _ => False) ?stay (fun _ _ _ _ _ q _ => q) ?start
  (fun v => { tmps := #[.slice none 0 0, .func (.func 81) #[] #[.pointer (some ⟨Bs, 0, none⟩)], .pointer (some ⟨w.heap.size, 0, none⟩), undef, .slice none 0 0, v, .func (.func 81) #[] #[.pointer (some ⟨Bs, 0, none⟩)], v, undef, undef, undef, undef, undef], defers := [] }) ?assign ?body ?done ?stop
 case stay =>
  rintro X pre A B ⟨v, h1, h2, h3, h4, h5⟩ hk
  refine ⟨v, (hk.same _ (.inl (by omega)) h1.lt).trans h1, owns_same h2 (fun g hg => hk.same g (.inr (h3 g hg)) (World.ownsRow.lt h2 g hg).2), h3, h4.trans ⟨hk.os, hk.tape, hk.output, hk.size, fun k q => hk.same k (.inl (by omega)) (by have := h4.size; omega)⟩, h5⟩
 case start => exact ⟨_, hbx, IntO.nil _ _, fun b e => (by cases e), hbel, ⟨_, _, _, rfl⟩⟩
 case assign =>
  intro l v W K hK
  gi_wp2
  exact hK
 case body =>
  rintro l X pre v x W hl1 hl2 _ hX ⟨v0, hbox, hO, hXb, hblw, a, m, c, rfl⟩ rfl hpre hsz
  have hpl : pre.length < xs.length := by have := hpre.length_le; simp at this; omega
  have hbc := hbox.cell
  have hbf := hbox.frozen
  have hOl := hO.1
  have HO := hid hO
  have HX := hid hX
  have HXb := hid hXb
  have HBX := hid hbox
  have HBL := hid hblw
  have hsz0 := hblw.size
  have hs1a : W1.heap.size ≤ w.heap.size + 1 := by omega
  have hs1b : w.heap.size + 1 ≤ W1.heap.size := by omega
  clear hbel hbx hs1 hO hX hXb hbox hblw hOl
  have hbe := box_below W (.cells #[.int .i64 x] 3)
  have hown : W.ownsRow (w.heap.size + 1) 3 1 (.slice a m c) pre.length (pre.map (Value.int .i64)) := HO.out
  gi_wp2_with (gi_at_builtin; refine wpListIn_append_own_at _ rfl _ _ 24 rfl (w.heap.size + 1) 3 i0 (.int .i64 0) 1 8 Tryz.underlying24 hi hz0 hz1 hz2 rfl (by decide) _ _ _ rfl (hown.alloc _) ⟨_, 0, none⟩ 1 1 [.int .i64 x] rfl rfl ?c1 ?c2 ?c3 ?c4 ?c5 ?_)
  try case c1 => exact cell_one_new _ _ _
  try case c2 => first | rfl | (intro u hu; simp at hu; subst hu; rfl)
  case c3 => unfold maxLen; omega
  case c4 => omega
  case c5 => simp; omega
  intro v' w1 hown' hgrow _ hat
  obtain ⟨g', cap', rfl, hg1, hg2⟩ := hown'.form (by omega)
  have hrow : ∀ j, (Value.slice a m c).ownBlock = some j → X j := HXb.out
  have hbn : some w.heap.size ≠ (Value.slice a m c).ownBlock := fun e => by have := HX.out _ (hrow _ e.symm); omega
  have hb1 : BoxN w1 w.heap.size 24 #[.slice a m c] := BoxN.kept (BoxN.below (show BoxN W w.heap.size 24 #[.slice a m c] from HBX.out) hbe) hgrow hbn
  have hbc1 := hb1.cell (i := 0) rfl
  have hbf1 := hb1.free 0
  have hgs := grown_set w1 ⟨w.heap.size, 0, none⟩ (.slice (some ⟨g', 0, none⟩) (pre.length + 1) cap')
  have HB2 := hid (hb1.set 0 (.slice (some ⟨g', 0, none⟩) (pre.length + 1) cap'))
  have HO2 : Hid (IntO (w1.setCell ⟨w.heap.size, 0, none⟩ (.slice (some ⟨g', 0, none⟩) (pre.length + 1) cap')) (w.heap.size + 1) (.slice (some ⟨g', 0, none⟩) (pre.length + 1) cap') (pre ++ [x])) := hid (by
   unfold IntO
   rw [List.map_append, List.length_append]
   exact World.ownsRow.kept hown' hgs (owns_no_box hown' hb1 (by decide)))
  have HX2 : Hid (∀ b, (Value.slice (some ⟨g', 0, none⟩) (pre.length + 1) cap').ownBlock = some b → X b ∨ (W.heap.size ≤ b ∧ b < (w1.setCell ⟨w.heap.size, 0, none⟩ (.slice (some ⟨g', 0, none⟩) (pre.length + 1) cap')).heap.size)) := hid (fun b e => by
   have hlt := (World.ownsRow.lt hown' b e).2
   rcases hat with q | q
   ·rw [q] at e; exact .inl (hrow b e)
   ·rw [q] at e; cases e; right; exact ⟨by simp, by simpa using hlt⟩)
  have HBL2 := hid (((HBL.out.alloc HBL.out.size (.cells #[.int .i64 x] 3)).grown hgrow (by simp; omega) (fun j e => by have := (World.ownsRow.lt hown j e).1; omega)).setCell (p := ⟨w.heap.size, 0, none⟩) (Nat.le_refl _) (.slice (some ⟨g', 0, none⟩) (pre.length + 1) cap'))
  have HKP := hid (((KpN.of_below (N := fun k => k < w.heap.size) (X := X) (D := W1.heap.size) hbe).trans (KpN.of_grown hgrow (fun j e => .inr (hrow j e)))).trans (KpN.of_grown hgs (fun j e => .inl (by cases e; exact ⟨Nat.lt_irrefl _, by show w.heap.size < W1.heap.size; omega⟩))))
  clear hown' hgrow hat hb1 hgs hown hbe
  gi_wp2_with fail
  exact ⟨⟨fun k => X k ∨ (W.heap.size ≤ k ∧ k < (w1.setCell ⟨w.heap.size, 0, none⟩ (.slice (some ⟨g', 0, none⟩) (pre.length + 1) cap')).heap.size), ⟨_, HB2.out, HO2.out, HX2.out, HBL2.out, _, _, _, rfl⟩, fun k q => q⟩, HKP.out⟩
 case done =>
  rintro X W ⟨v, h1, h2, h3, h4, a, m, c, rfl⟩ hK
  have hc1 := h1.cell
  have HO := hid h2
  have HB := hid h4
  have hsz := h4.size
  have HK := hid hK
  clear h1 h2 h3 h4 hbel hbx hK
  gi_wp2_with fail
  refine ⟨by simp, .inl ⟨_, _, rfl, run_takeDeferred HK.out, ?_⟩⟩
  exact ⟨_, results_tmp rfl _ _ _, _, rfl, owns_weak (owns_put HO.out HK.out rfl _) (Nat.le_succ _), HB.out.trans (belowK_b (w := w) (Nat.le_refl _) W W1.heap.size _ _ (by omega) HK.out rfl rfl)⟩
 case stop => exact fun _ _ _ _ q => q.elim
end

section
open Go.RowKit
abbrev valF (Bs : Nat) : Value := .func (.func 81) #[] #[.pointer (some ⟨Bs, 0, none⟩)]
def srtI (l : List Int) : List Int := l.mergeSort fun x y => decide (x ≤ y)
theorem scollect_any (Bs : Nat) (va : Value) (xs : List Int) (w : World) (hB : Bs < w.heap.size) (hc : w.cell? ⟨Bs, 0, none⟩ = some va) (hI : Ints w va xs) (hn : xs.length ≤ 100000) :
  Calls Tryz.prog 79 #[valF Bs] w fun e w' => ∃ v, e = .returned v ∧ IntO w' w.heap.size v xs ∧ Below w.heap.size w w' := by
 have CA := hid (sappend_any Bs va xs w hB hc hI hn)
 clear hB hc hI hn
 go_enter Tryz.func79, Tryz.ntmps79
 go_wp2_with fail
 refine CA.out.mono ?_
 rintro e w1 ⟨v, rfl, hO, hb⟩
 have HO := hid hO
 clear CA hO
 go_wp2_with fail
 go_ret
 exact ⟨_, rfl, HO.out, hb⟩
theorem ssorted_any (Bs : Nat) (va : Value) (xs : List Int) (w : World) (hB : Bs < w.heap.size) (hc : w.cell? ⟨Bs, 0, none⟩ = some va) (hI : Ints w va xs) (hn : xs.length ≤ 100000) :
  Calls Tryz.prog 60 #[valF Bs] w fun e w' => ∃ v, e = .returned v ∧ IntO w' w.heap.size v (srtI xs) ∧ Below w.heap.size w w' := by
 have CA := hid (scollect_any Bs va xs w hB hc hI hn)
 clear hB hc hI
 go_enter Tryz.func60, Tryz.ntmps60
 go_wp2_with fail
 refine CA.out.mono ?_
 rintro e w1 ⟨v, rfl, hO, hb⟩
 have CS := hid (isort_own w.heap.size v xs w1 hO (by omega))
 have HL := hid (fun b e => (World.ownsRow.lt hO b e).1)
 clear CA hO
 go_wp2_with fail
 refine CS.out.mono ?_
 rintro e w2 ⟨rfl, hO2, hg⟩
 have hb2 := hb.grown hg hb.size (fun j e => HL.out j e)
 have HO : Hid (IntO w2 w.heap.size v (srtI xs)) := hid (by
  unfold IntO srtI
  rw [List.length_mergeSort]
  exact hO2)
 clear CS hO2 hg hb
 go_wp2_with fail
 go_ret
 exact ⟨_, rfl, HO.out, hb2⟩
def wholeP (xs : List Int) (n : Nat) : Prop := xs = [] ∨ (xs.length = n ∧ ∀ k (hk : k < (srtI xs).length), (srtI xs)[k] = (k : Int))
instance (xs : List Int) (n : Nat) : Decidable (wholeP xs n) := by unfold wholeP; infer_instance
theorem rwhole_any (va : Value) (xs : List Int) (n : Nat) (w : World) (hI : Ints w va xs) (hn : xs.length ≤ 100000) :
  Calls Tryz.prog 30 #[va, .int .i64 (n : Int)] w fun e w' => e = .returned (.bool (decide (wholeP xs n))) ∧ Below w.heap.size w w' := by
 obtain ⟨ao, cap, rfl, hal⟩ := hI.form
 by_cases h0 : xs.length = 0
 ·have HV : Hid (true = decide (wholeP xs n)) := hid (by rw [decide_eq_true (.inl (List.eq_nil_of_length_eq_zero h0))])
  have hq : ((xs.length : Int) == 0) = true := by rw [h0]; rfl
  clear h0
  go_enter Tryz.func30, Tryz.ntmps30
  go_wp2_with fail
  go_ret
  exact ⟨ret_b HV.out, Below.refl _ _⟩
 have hne : xs ≠ [] := fun e => h0 (by rw [e]; rfl)
 have hq : ((xs.length : Int) == 0) = false := by simpa using h0
 by_cases h1 : xs.length = n
 ·have hq1 : ((xs.length : Int) != (n : Int)) = false := by simp; omega
  have HV : Hid (decide (∀ k (hk : k < (srtI xs).length), (srtI xs)[k] = (k : Int)) = decide (wholeP xs n)) := hid (by
   rw [Bool.eq_iff_iff]
   simp only [decide_eq_true_eq]
   unfold wholeP
   exact ⟨fun q => .inr ⟨h1, q⟩, fun q => (q.resolve_left hne).2⟩)
  have hsl : (srtI xs).length ≤ 100000 := by unfold srtI; rw [List.length_mergeSort]; exact hn
  have CV := hid (svalues_any ao xs.length cap w)
  have hbx := box_below w (.cells #[.slice ao xs.length cap] 24)
  have hc : (w.alloc (.cells #[.slice ao xs.length cap] 24)).cell? ⟨w.heap.size, 0, none⟩ = some (.slice ao xs.length cap) := (Boxed.new w 24 _).cell
  have CS := hid (ssorted_any w.heap.size _ xs _ (by simp) hc (hI.below hbx) hn)
  generalize srtI xs = S at *
  clear h0 hne hI hc h1
  go_enter Tryz.func30, Tryz.ntmps30
  go_wp2_with fail
  refine CV.out.mono ?_
  rintro e w1 ⟨rfl, rfl⟩
  clear CV
  go_wp2_with fail
  refine CS.out.mono ?_
  rintro e w2 ⟨v, rfl, hO, hb⟩
  have hb2 := hbx.trans (hb.mono hbx.size)
  have HI := hid hO.ints
  obtain ⟨so, sc, rfl, _⟩ := HI.out.form
  clear CS hO hb hbx
  go_wp2_with fail
  go_loopw [18] (fun i wr => ∃ k : Nat, k ≤ S.length ∧ i = .int .i64 (k : Int) ∧ Hid (∀ j (hj : j < S.length), j < k → S[j] = (j : Int)) ∧ wr = w2) (fun i _ => S.length - (intOf i).toNat)
  case atStart => exact ⟨0, by omega, rfl, hid (fun j _ h => absurd h (Nat.not_lt_zero _)), rfl⟩
  case round =>
   obtain ⟨k, hk, rfl, HN, rfl⟩ := hrel
   by_cases hlt : k < S.length
   ·have hki : (k : Int) < (S.length : Int) := by omega
    obtain ⟨g, o, hg, hcx⟩ := HI.out.at hlt
    cases hg
    have HY : Hid (S[k] = (k : Int) → ∀ j (hj : j < S.length), j < k + 1 → S[j] = (j : Int)) := hid (fun e j hj q => by
     rcases Nat.lt_or_ge j k with z | z
     ·exact HN.out j hj z
     ·obtain rfl : j = k := by omega
      exact e)
    have HF : Hid (S[k] ≠ (k : Int) → false = decide (∀ k (hk : k < S.length), S[k] = (k : Int))) := hid (fun e => by rw [decide_eq_false (fun q => e (q k hlt))])
    generalize S[k] = x at *
    by_cases hx : x = (k : Int)
    ·have HN2 := hid (HY.out hx)
     have hxq : (x != (k : Int)) = false := by simpa using hx
     clear HY HF HN hx
     go_wp2_with fail
     go_roundw
     case rel => exact ⟨k + 1, by omega, by go_num, HN2, trivial⟩
     case measure => simp [intOf]; omega
    ·have HF2 := hid (HF.out hx)
     have hxq : (x != (k : Int)) = true := by simpa using hx
     clear HY HF HN hx
     go_wp2_with fail
     go_ret
     exact ⟨ret_b (HF2.out.trans HV.out), hb2⟩
   ·obtain rfl : k = S.length := by omega
    have hki : ¬ (S.length : Int) < (S.length : Int) := by omega
    have HT : Hid (true = decide (∀ k (hk : k < S.length), S[k] = (k : Int))) := hid (by rw [decide_eq_true (fun k hk => HN.out k hk hk)])
    clear HN
    go_wp2_with fail
    go_ret
    exact ⟨ret_b (HT.out.trans HV.out), hb2⟩
 ·have hq1 : ((xs.length : Int) != (n : Int)) = true := by simp; omega
  have HV : Hid (false = decide (wholeP xs n)) := hid (by
   rw [decide_eq_false]
   rintro (q | q)
   ·exact hne q
   ·exact h1 q.1)
  clear h0 hne hI h1
  go_enter Tryz.func30, Tryz.ntmps30
  go_wp2_with fail
  go_ret
  exact ⟨ret_b HV.out, Below.refl _ _⟩
def risS (F : Int → Option Int) (S : List Int) : Prop := ∀ m (h : m + 1 < S.length), nmF F (S[m]'(Nat.lt_of_succ_lt h)) < nmF F S[m + 1]
instance (F : Int → Option Int) (S : List Int) : Decidable (risS F S) := decidable_of_iff (∀ m, m < S.length - 1 → ∀ h : m + 1 < S.length, nmF F (S[m]'(Nat.lt_of_succ_lt h)) < nmF F S[m + 1]) ⟨fun q m h => q m (by omega) h, fun q m _ h => q m h⟩
def risP (F : Int → Option Int) (L : List Int) : Prop := risS F (srtI L)
instance (F : Int → Option Int) (L : List Int) : Decidable (risP F L) := by unfold risP; infer_instance
theorem rrising_any (v va : Value) (F : Int → Option Int) (L : List Int) (w : World) (hN : NmI w v F) (hI : Ints w va L) (hl : ∀ x ∈ L, InI x) (hn : L.length ≤ 100000) :
  Calls Tryz.prog 64 #[v, va] w fun e w' => e = .returned (.bool (decide (risP F L))) ∧ Below w.heap.size w w' := by
 obtain ⟨ao, cap, rfl, hal⟩ := hI.form
 have HV : Hid (risP F L ↔ risS F (srtI L)) := hid Iff.rfl
 have HSI : Hid (∀ x ∈ srtI L, InI x) := hid (fun x hx => hl x ((List.mergeSort_perm _ _).mem_iff.1 hx))
 have hsl : (srtI L).length ≤ 100000 := by unfold srtI; rw [List.length_mergeSort]; exact hn
 have CV := hid (svalues_any ao L.length cap w)
 have hbx := box_below w (.cells #[.slice ao L.length cap] 24)
 have hc : (w.alloc (.cells #[.slice ao L.length cap] 24)).cell? ⟨w.heap.size, 0, none⟩ = some (.slice ao L.length cap) := (Boxed.new w 24 _).cell
 have CS := hid (ssorted_any w.heap.size _ L _ (by simp) hc (hI.below hbx) hn)
 have CN := hid (fun x wx (hx : Below w.heap.size w wx) (hi : InI x) => rname_any v F x wx (hN.below hx) hi)
 generalize srtI L = S at *
 clear hI hc hN hl
 go_enter Tryz.func64, Tryz.ntmps64
 go_wp2_with fail
 refine CV.out.mono ?_
 rintro e w1 ⟨rfl, rfl⟩
 clear CV
 go_wp2_with fail
 refine CS.out.mono ?_
 rintro e w2 ⟨v2, rfl, hO, hb⟩
 have hb2 := hid (hbx.trans (hb.mono hbx.size))
 have HI := hid hO.ints
 obtain ⟨so, sc, rfl, _⟩ := HI.out.form
 clear CS hO hb hbx
 go_wp2_with fail
 go_loopw [6] (fun i wr => ∃ k : Nat, 1 ≤ k ∧ (k ≤ S.length ∨ k = 1) ∧ i = .int .i64 (k : Int) ∧ Hid (∀ j (hj : j + 1 < S.length), j + 1 < k → nmF F (S[j]'(Nat.lt_of_succ_lt hj)) < nmF F S[j + 1]) ∧ Hid (Below w2.heap.size w2 wr)) (fun i _ => S.length - (intOf i).toNat)
 case atStart => exact ⟨1, Nat.le_refl _, .inr rfl, rfl, hid (fun j _ h2 => by omega), hid (Below.refl _ _)⟩
 case round =>
  obtain ⟨k, hk1, hk2, rfl, HN, HB⟩ := hrel
  by_cases hlt : k < S.length
  ·obtain ⟨m, rfl⟩ : ∃ m, k = m + 1 := ⟨k - 1, by omega⟩
   have hki : (m : Int) + 1 < (S.length : Int) := by omega
   have hkm : (m : Int) < (S.length : Int) := by omega
   have hwr : IntKind.i64.wrap (m : Int) = (m : Int) := by rw [IntKind.wrap_i64]; omega
   have hm0 : decide ((m : Int) < 0) = false := decide_eq_false (by omega)
   have hm1 : decide ((m : Int) + 1 < 0) = false := decide_eq_false (by omega)
   have hm2 : decide ((S.length : Int) ≤ (m : Int) + 1) = false := decide_eq_false (by omega)
   have hp0 : (0 : Int) ≤ (m : Int) + 1 := by omega
   have hp2 : ((m : Int) + 1).toNat = m + 1 := by omega
   have HI2 := HI.out.below HB.out
   obtain ⟨g, o, hg, hc1⟩ := HI2.at (k := m) (by omega)
   cases hg
   obtain ⟨g', o', hg', hc2⟩ := HI2.at hlt
   cases hg'
   have hi1 := HSI.out _ (List.getElem_mem (show m < S.length by omega))
   have hi2 := HSI.out _ (List.getElem_mem hlt)
   have HY : Hid (nmF F (S[m]'(Nat.lt_of_succ_lt hlt)) < nmF F S[m + 1] → ∀ j (hj : j + 1 < S.length), j + 1 < m + 1 + 1 → nmF F (S[j]'(Nat.lt_of_succ_lt hj)) < nmF F S[j + 1]) := hid (fun e j hj q2 => by
    rcases Nat.lt_or_ge j m with z | z
    ·exact HN.out j hj (by omega)
    ·obtain rfl : j = m := by omega
     exact e)
   have HF : Hid (¬ nmF F (S[m]'(Nat.lt_of_succ_lt hlt)) < nmF F S[m + 1] → false = decide (risP F L)) := hid (fun e => by rw [decide_eq_false (fun q => e ((HV.out.1 q) m hlt))])
   have CNQ := hid (fun x n (hi : InI x) => (CN.out x (wr.drewN n) (below_then hb2.out (below_drewN HB.out n)) hi).mono fun _ _ h => And.intro h.1 h.2.symm)
   generalize S[m + 1] = y at *
   generalize S[m] = x at *
   clear HI2 HN
   by_cases hlt2 : nmF F x < nmF F y
   ·have HN2 := hid (HY.out hlt2)
    have hd : decide (nmF F y ≤ nmF F x) = false := decide_eq_false (by omega)
    clear HY HF hlt2
    go_wp2_with fail
    go_quiet ((go_at_call 82; exact Calls.quiet_of_same (CNQ.out _ _ (by first | exact hi1 | exact hi2))))
    go_wp2_with fail
    go_roundw
    case rel => exact ⟨m + 1 + 1, by omega, .inl (by omega), by go_num, HN2, hid (below_drewN HB.out _)⟩
    case measure => simp [intOf]; omega
   ·have HF2 := hid (HF.out hlt2)
    have hd : decide (nmF F y ≤ nmF F x) = true := decide_eq_true (by omega)
    clear HY HF hlt2
    go_wp2_with fail
    go_quiet ((go_at_call 82; exact Calls.quiet_of_same (CNQ.out _ _ (by first | exact hi1 | exact hi2))))
    have hbz := below_then hb2.out (below_drewN HB.out nq)
    go_wp2_with fail
    go_ret
    exact ⟨ret_b HF2.out, hbz⟩
  ·have hki : ¬ (k : Int) < (S.length : Int) := by omega
   have HT : Hid (true = decide (risP F L)) := hid (by rw [decide_eq_true (HV.out.2 (fun j hj => HN.out j hj (by omega)))])
   have hbz := below_then hb2.out HB.out
   clear HN HV
   go_wp2_with fail
   go_ret
   exact ⟨ret_b HT.out, hbz⟩
end

section
open Go.RowKit
theorem NmI.form {w : World} {v : Value} {F : Int → Option Int} (h : NmI w v F) : ∃ m, v = .map m := by
 rcases h with ⟨rfl, _⟩ | ⟨b, n, c, rfl, _⟩ <;> exact ⟨_, rfl⟩
def InF (F : Int → Option Int) : Prop := ∀ x, InI x → InI (nmF F x)
structure NmA (w : World) (vK vS vV vT : Value) (FK FS FV FT : Int → Option Int) : Prop where
 k : NmI w vK FK
 s : NmI w vS FS
 v : NmI w vV FV
 t : NmI w vT FT
theorem NmA.below {w w' : World} {vK vS vV vT : Value} {FK FS FV FT : Int → Option Int} (h : NmA w vK vS vV vT FK FS FV FT) (hb : Below w.heap.size w w') : NmA w' vK vS vV vT FK FS FV FT := ⟨h.k.below hb, h.s.below hb, h.v.below hb, h.t.below hb⟩
def keepP (FK FS FV FT : Int → Option Int) (Lk Ls Lv Lt : List Int) : Prop := apartP FK Lk ∧ apartP FS Ls ∧ apartP FV Lv ∧ risP FT Lt
instance (FK FS FV FT : Int → Option Int) (Lk Ls Lv Lt : List Int) : Decidable (keepP FK FS FV FT Lk Ls Lv Lt) := by unfold keepP; infer_instance
theorem rnkeeps_any (vK vS vV vT vO pk ps pv pt : Value) (FK FS FV FT : Int → Option Int) (Lk Ls Lv Lt : List Int) (w : World) (hN : NmA w vK vS vV vT FK FS FV FT) (hO : ∃ a n c, vO = .slice a n c)
  (hk : Ints w pk Lk) (hs : Ints w ps Ls) (hv : Ints w pv Lv) (ht : Ints w pt Lt) (ik : ∀ x ∈ Lk, InI x) (is : ∀ x ∈ Ls, InI x) (iv : ∀ x ∈ Lv, InI x) (it : ∀ x ∈ Lt, InI x) (fk : InF FK) (fs : InF FS) (fv : InF FV)
  (nk : Lk.length ≤ 100000) (ns : Ls.length ≤ 100000) (nv : Lv.length ≤ 100000) (nt : Lt.length ≤ 100000) :
  Calls Tryz.prog 32 #[.agg #[vK, vS, vV, vT, vO], .agg #[pk, ps, pv, pt]] w fun e w' => e = .returned (.bool (decide (keepP FK FS FV FT Lk Ls Lv Lt))) ∧ Below w.heap.size w w' := by
 have CK := hid (fun wx (hx : Below w.heap.size w wx) => rapart_any vK pk FK Lk wx (hN.k.below hx) (hk.below hx) (fun x hx => ⟨ik x hx, fk x (ik x hx)⟩) nk)
 have CS := hid (fun wx (hx : Below w.heap.size w wx) => rapart_any vS ps FS Ls wx (hN.s.below hx) (hs.below hx) (fun x hx => ⟨is x hx, fs x (is x hx)⟩) ns)
 have CV := hid (fun wx (hx : Below w.heap.size w wx) => rapart_any vV pv FV Lv wx (hN.v.below hx) (hv.below hx) (fun x hx => ⟨iv x hx, fv x (iv x hx)⟩) nv)
 have CT := hid (fun wx (hx : Below w.heap.size w wx) => rrising_any vT pt FT Lt wx (hN.t.below hx) (ht.below hx) it nt)
 obtain ⟨mK, rfl⟩ := hN.k.form
 obtain ⟨mS, rfl⟩ := hN.s.form
 obtain ⟨mV, rfl⟩ := hN.v.form
 obtain ⟨mT, rfl⟩ := hN.t.form
 obtain ⟨oa, on, oc, rfl⟩ := hO
 obtain ⟨ka, kc, rfl, _⟩ := hk.form
 obtain ⟨sa, sc, rfl, _⟩ := hs.form
 obtain ⟨va, vc, rfl, _⟩ := hv.form
 obtain ⟨ta, tc, rfl, _⟩ := ht.form
 have HQ : Hid (decide (keepP FK FS FV FT Lk Ls Lv Lt) = (decide (apartP FK Lk) && (decide (apartP FS Ls) && (decide (apartP FV Lv) && decide (risP FT Lt))))) := hid (by
  rw [Bool.eq_iff_iff]
  simp only [Bool.and_eq_true, decide_eq_true_eq]
  exact Iff.rfl)
 rw [HQ.out]
 obtain ⟨q1, e1⟩ : ∃ q, decide (apartP FK Lk) = q := ⟨_, rfl⟩
 obtain ⟨q2, e2⟩ : ∃ q, decide (apartP FS Ls) = q := ⟨_, rfl⟩
 obtain ⟨q3, e3⟩ : ∃ q, decide (apartP FV Lv) = q := ⟨_, rfl⟩
 obtain ⟨q4, e4⟩ : ∃ q, decide (risP FT Lt) = q := ⟨_, rfl⟩
 rw [e1, e2, e3, e4]
 rw [e1] at CK
 rw [e2] at CS
 rw [e3] at CV
 rw [e4] at CT
 clear HQ e1 e2 e3 e4 hN hk hs hv ht ik is iv it fk fs fv
 have hb1 := box_below w (.cells #[.map mK, .map mS, .map mV, .map mT, .slice oa on oc] 33)
 have hx1 := BoxN.new w 33 #[.map mK, .map mS, .map mV, .map mT, .slice oa on oc]
 have hs1 : (w.alloc (.cells #[.map mK, .map mS, .map mV, .map mT, .slice oa on oc] 33)).heap.size = w.heap.size + 1 := by simp
 have hx2 := BoxN.new (w.alloc (.cells #[.map mK, .map mS, .map mV, .map mT, .slice oa on oc] 33)) 67 #[.slice ka Lk.length kc, .slice sa Ls.length sc, .slice va Lv.length vc, .slice ta Lt.length tc]
 rw [hs1] at hx2
 have hb2 := hb1.alloc hb1.size (.cells #[.slice ka Lk.length kc, .slice sa Ls.length sc, .slice va Lv.length vc, .slice ta Lt.length tc] 67)
 have hx1 := hx1.below (box_below _ (.cells #[.slice ka Lk.length kc, .slice sa Ls.length sc, .slice va Lv.length vc, .slice ta Lt.length tc] 67))
 clear hs1
 go_enter Tryz.func32, Tryz.ntmps32
 go_upto_region 1 with fail
 generalize (w.alloc (.cells #[.map mK, .map mS, .map mV, .map mT, .slice oa on oc] 33)).alloc (.cells #[.slice ka Lk.length kc, .slice sa Ls.length sc, .slice va Lv.length vc, .slice ta Lt.length tc] 67) = w2 at *
 have c0 := hx1.cell (i := 0) rfl
 have d0 := hx2.cell (i := 0) rfl
 have HX1 := hid hx1
 have HX2 := hid hx2
 have CK1 := hid (CK.out _ hb2)
 clear hb1 hx1 hx2 CK
 go_wp2_with fail
 refine CK1.out.mono ?_
 rintro e w3 ⟨rfl, h3⟩
 have hb3 := below_then hb2 h3
 cases q1 with
 | false =>
  go_wp2_with fail
  go_ret
  exact ⟨rfl, hb3⟩
 | true =>
 have HX1 := hid (HX1.out.below h3)
 have HX2 := hid (HX2.out.below h3)
 have c1 := HX1.out.cell (i := 1) rfl
 have d1 := HX2.out.cell (i := 1) rfl
 have CS1 := hid (CS.out _ hb3)
 clear c0 d0 CK1 CS h3 hb2
 go_wp2_with fail
 refine CS1.out.mono ?_
 rintro e w4 ⟨rfl, h4⟩
 have hb4 := below_then hb3 h4
 cases q2 with
 | false =>
  go_wp2_with fail
  go_ret
  exact ⟨rfl, hb4⟩
 | true =>
 have HX1 := hid (HX1.out.below h4)
 have HX2 := hid (HX2.out.below h4)
 have c2 := HX1.out.cell (i := 2) rfl
 have d2 := HX2.out.cell (i := 2) rfl
 have CV1 := hid (CV.out _ hb4)
 clear c1 d1 CS1 CV h4 hb3
 go_wp2_with fail
 refine CV1.out.mono ?_
 rintro e w5 ⟨rfl, h5⟩
 have hb5 := below_then hb4 h5
 cases q3 with
 | false =>
  go_wp2_with fail
  go_ret
  exact ⟨rfl, hb5⟩
 | true =>
 have HX1 := hid (HX1.out.below h5)
 have HX2 := hid (HX2.out.below h5)
 have c3 := HX1.out.cell (i := 3) rfl
 have d3 := HX2.out.cell (i := 3) rfl
 have CT1 := hid (CT.out _ hb5)
 clear c2 d2 CV1 CT h5 hb4
 go_wp2_with fail
 refine CT1.out.mono ?_
 rintro e w6 ⟨rfl, h6⟩
 have hb6 := below_then hb5 h6
 go_wp2_with fail
 go_ret
 exact ⟨by simp, hb6⟩
end

end Go.Proofs.YtipmfhgdeghmjaaGreat
