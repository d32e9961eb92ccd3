/- Walks and plain facts that the proof of the statement CanonApart uses, joined: CanG HisW HisY OrdAG CanH CanJ VecA VecB VecC VecD TblM VecE VecF VecG VecH LevD TblD TblE TblF TblG TblJ TblH TblK VecJ VecK CanK CroA BoxN CroB CroC. Conditions: each theorem's own. -/
import Derived.Deep.MidRow
import Derived.ChangeKeysEq
import Derived.Outline
import Derived.Laws.BitsAllLaws
import Derived.Deep.RegionLaw
import Derived.Deep.AppendLies
import Derived.RangeFuncBox
import Derived.Maps.AppendAt
import Derived.Test.YtlajeemkoldngaaPCanonApart0
import Derived.Test.YtlajeemkoldngaaPCanonApart1
namespace Go.Proofs.Ytlajeemkoldngaa
set_option maxHeartbeats 32000000
set_option maxRecDepth 100000
open Lib (hid)
section
open Go.RowKit
theorem grown_cells {g : Nat} : ∀ (vs : List Value) (o : Nat) (w : World), w.grownBy (w.setCells g o vs) (some g)
 | [], _, _ => ⟨rfl, rfl, rfl, Nat.le_refl _, fun _ _ _ => rfl⟩
 | x :: r, o, w => by rw [World.setCells]; exact (grown_setC w ⟨g, o, none⟩ x).trans (grown_cells r (o + 1) _)
theorem own_first {w : World} {base : Nat} {v : Value} {l : List OpV} (h : Own w base v l) (hl : 0 < l.length) : ∃ g2 cp2, v = .slice (some ⟨g2, 0, none⟩) l.length cp2 ∧ base ≤ g2 := by
 obtain ⟨h1, h2⟩ := h
 rcases h2 with ⟨_, h2⟩ | ⟨g, cap, cur, e1, e2, _⟩
 ·rw [h2] at hl; cases hl
 ·exact ⟨g, cap, e1, e2⟩
section
variable {s : List TxnV} {g cap base base2 bM bS bK bV nM cM : Nat} {i k iO iS kK kV : Nat} {W : World}
theorem CanF.apart_at (f : CanF s g base base2 bM bS bK bV) {j : Nat} (hi : i < s.length) (hj : j < s.length) (hne : j ≠ i) {b : Nat} (hb : s[i].v.ownBlock = some b) : s[j].v.ownBlock ≠ some b := by
 have ha := List.pairwise_iff_getElem.1 f.apart
 rcases Nat.lt_or_ge j i with e | e
 ·intro h; exact ha j i hj hi e b h hb
 ·exact ha i j hi hj (by omega) b hb
theorem CanI.op (f : CanF s g base base2 bM bS bK bV) (q : CanI s g cap base base2 bM bS bK bV nM cM i k iO iS (k + 1) (k + 1) W) (hi : i < s.length) (hk : k < (opsAt s i).length) {g2 n2 cp2 : Nat} (hv : s[i].v = .slice (some ⟨g2, 0, none⟩) n2 cp2) (o : OpV) (ho : o = cOp (s.map txE) (opsAt s i)[k]) :
  CanI s g cap base base2 bM bS bK bV nM cM i (k + 1) iO iS (k + 1) (k + 1) (W.setCells g2 (k * 3) [.bool o.wr, .int .i64 o.key, .int .i64 o.val]) := by
 have h1 := f.gM; have h2 := f.MS; have h3 := f.SK; have h4 := f.KV; have h5 := f.g2
 have hgr := grown_cells (g := g2) [.bool o.wr, .int .i64 o.key, .int .i64 o.val] (k * 3) W
 have hb2 := f.op hi (b := g2) (by rw [hv]; rfl)
 have hkl : k < (opsTo s i k i).length := by rw [opsTo_len]; exact hk
 refine ⟨World.ownsRow.kept q.own hgr (.inr (fun e => by simp [Value.ownBlock] at e; omega)), fun j hj => ?_, q.mM.kept hgr (fun e => by cases e; omega), q.mS.kept hgr (fun e => by cases e; omega), q.mK.kept hgr (fun e => by cases e; omega), q.mV.kept hgr (fun e => by cases e; omega)⟩
 by_cases e : j = i
 ·subst e
  have hq := q.ops j hj
  rw [hv] at hq ⊢
  rw [opsTo_succ hk, ← ho]
  exact hq.store hkl o
 ·rw [opsTo_other e]
  exact World.ownsRow.kept (q.ops j hj) hgr (.inr (f.apart_at hi hj e (by rw [hv]; rfl)))
theorem CanI.done (q : CanI s g cap base base2 bM bS bK bV nM cM i (opsAt s i).length (i + 1) (i + 1) (opsAt s i).length (opsAt s i).length W) (hi : i < s.length) : CanI s g cap base base2 bM bS bK bV nM cM (i + 1) 0 (i + 1) (i + 1) 0 0 W := by
 have hn : opsN (s.take i) + (opsAt s i).length = opsN (s.take (i + 1)) := by rw [opsN_take s i hi, opsAt_eq hi]
 refine ⟨q.own, fun j hj => by rw [← opsTo_done]; exact q.ops j hj, q.mM, q.mS, ?_, ?_⟩
 ·have := q.mK
  rw [kTo_done hi, hn] at this
  exact this
 ·have := q.mV
  rw [vTo_done hi, hn] at this
  exact this
theorem nameF_nil : nameF [] = fun _ => none := by funext x; unfold nameF; simp
theorem nameF_zero : nameF [0] = putF (fun _ => none) 0 0 := by
 funext x
 unfold nameF putF
 by_cases e : x = 0
 ·subst e; simp [posL]
 ·rw [if_neg (by simpa using e), if_neg e]
theorem sTo_zero : sTo s 0 = [] := by unfold sTo; simp
theorem kTo_zero : kTo s 0 0 = [] := by unfold kTo; simp [keyE]
theorem vTo_zero : vTo s 0 0 = [] := by unfold vTo; simp [valA]
theorem opsTo_zero (j : Nat) : opsTo s 0 0 j = opsAt s j := by
 unfold opsTo
 rw [if_neg (by omega)]
 split
 ·simp
 ·rfl
theorem CanI.start (hO : OwnT W base (.slice (some ⟨g, 0, none⟩) s.length cap) s) (hP : ∀ t ∈ s, Own W base2 t.v t.l) (hM : MapI eI Try.prog 3 W bM nM (rankF (stL s) (stL s)) cM) (hS : MapI eI Try.prog 3 W bS 0 (fun _ => none) 0) (hK : MapI eI Try.prog 3 W bK 0 (fun _ => none) 0) (hV : MapI eI Try.prog 3 W bV 1 (putF (fun _ => none) 0 0) 1) :
  CanI s g cap base base2 bM bS bK bV nM cM 0 0 0 0 0 0 W := by
 refine ⟨by rw [outTo_zero]; exact hO, fun j hj => ?_, hM, ?_, ?_, ?_⟩
 ·rw [opsTo_zero, opsAt_eq hj]; exact hP _ (List.getElem_mem hj)
 ·rw [sTo_zero]
  show MapI _ _ _ _ _ _ (nameF []) _
  rw [nameF_nil]; exact hS
 ·rw [kTo_zero]
  show MapI _ _ _ _ _ _ (nameF []) _
  rw [nameF_nil]; exact hK
 ·rw [vTo_zero]
  show MapI _ _ _ _ _ _ (nameF [0]) _
  rw [nameF_zero]; exact hV
theorem CanI.copy (f : CanF s g base base2 bM bS bK bV) (hbs : base ≤ base2) (hb2 : base2 ≤ W.heap.size) (q : CanI s g cap base base2 bM bS bK bV nM cM s.length 0 s.length s.length 0 0 W) : CopyOf W base (.slice (some ⟨g, 0, none⟩) s.length cap) (s.map (cTx (s.map txE))) := by
 have ho := q.own
 rw [outTo_all] at ho
 refine ⟨base2, ⟨hbs, hb2⟩, ho, fun b hb => by simp [Value.ownBlock] at hb; have := f.g2; omega, fun t ht => ?_, ?_⟩
 ·obtain ⟨u, hu, rfl⟩ := List.mem_map.1 ht
  obtain ⟨j, hj, rfl⟩ := List.mem_iff_getElem.1 hu
  have := q.ops j hj
  unfold opsTo at this
  rw [if_pos hj, opsAt_eq hj] at this
  exact this
 ·rw [List.pairwise_map]
  exact f.apart
end
end

section
open Go.RowKit
theorem CopyOf.txns {w : World} {base : Nat} {v : Value} {c : List TxnV} (h : CopyOf w base v c) : Txns w v c := by
 obtain ⟨b2, h1, h2, h3, h4, h5⟩ := h
 exact ⟨h2.row, fun t ht => (h4 t ht).ops⟩
end

section
open Go.RowKit
def zT (t : TxnV) : TxnV := ⟨t.s, t.b, t.c, .slice none 0 0, t.l⟩
theorem zT_of {c h : List TxnV} (e : c.map txE = h.map txE) : c.map zT = h.map zT := by
 have k : ∀ l : List TxnV, l.map zT = (l.map txE).map fun q => (⟨q.1, q.2.1, q.2.2.1, .slice none 0 0, q.2.2.2⟩ : TxnV) := fun l => by rw [List.map_map]; rfl
 rw [k, k, e]
theorem opsN_z (h : List TxnV) : opsN (h.map zT) = opsN h := by unfold opsN; rw [List.map_map]; rfl
theorem partsB_z (h : List TxnV) : partsB (h.map zT) = partsB h := by unfold partsB; rw [List.all_map]; rfl
theorem wvH_z (h : List TxnV) : wvH (h.map zT) = wvH h := by unfold wvH; rw [List.flatMap_map]; rfl
theorem opsAt_z (h : List TxnV) (k : Nat) : opsAt (h.map zT) k = opsAt h k := by unfold opsAt; rw [List.getElem?_map]; cases h[k]? <;> rfl
theorem wrTo_z (h : List TxnV) (k : Nat) : wrTo (h.map zT) k = wrTo h k := by
 unfold wrTo
 congr 1
 funext F j
 rw [opsAt_z]
theorem valuesB_z (h : List TxnV) : valuesB (h.map zT) = valuesB h := by
 unfold valuesB okW
 rw [wvH_z, List.all_map, List.length_map, wrTo_z]; rfl
theorem stampsB_z (h : List TxnV) : stampsB (h.map zT) = stampsB h := by
 have : stL (h.map zT) = stL h := by unfold stL; rw [List.flatMap_map]; rfl
 unfold stampsB; rw [this]
theorem endF_z (h : List TxnV) : endF (h.map zT) = endF h := by
 funext x
 unfold endF
 rw [List.filter_map, List.getLast?_map, Option.map_map]; rfl
theorem sesOk_z (h : List TxnV) (k : Nat) : sesOk (h.map zT) k = sesOk h k := by
 unfold sesOk
 rw [List.getElem?_map, ← List.map_take, endF_z]
 cases h[k]? <;> rfl
theorem sesB_z (h : List TxnV) : sesB (h.map zT) = sesB h := by
 unfold sesB
 rw [List.length_map]
 congr 1
 funext k
 exact sesOk_z h k
theorem checkI_z (h : List TxnV) : checkI (h.map zT) = checkI h := by
 unfold checkI rightB
 rw [List.length_map, opsN_z, partsB_z, valuesB_z, stampsB_z, sesB_z]
theorem checkI_txE {c h : List TxnV} (e : c.map txE = h.map txE) : checkI c = checkI h := by
 rw [← checkI_z c, ← checkI_z h, zT_of e]
end

section
open Go.RowKit
section
variable {w w' : World} {b0 base : Nat} {v v' u : Value} {c : List TxnV}
end
section
variable {w w' : World} {gv b0 k : Nat} {D : List TxnV}
end
theorem txE_mem {c h : List TxnV} (e : c.map txE = h.map txE) {t : TxnV} (ht : t ∈ c) : ∃ u ∈ h, txE u = txE t := by
 have : txE t ∈ h.map txE := by rw [← e]; exact List.mem_map.2 ⟨t, ht, rfl⟩
 obtain ⟨u, hu, h2⟩ := List.mem_map.1 this
 exact ⟨u, hu, h2⟩
theorem ok_txE {c h : List TxnV} (e : c.map txE = h.map txE) (hok : ∀ t ∈ h, t.ok) : ∀ t ∈ c, t.ok := fun t ht => by
 obtain ⟨u, hu, h2⟩ := txE_mem e ht
 have h3 := hok u hu
 unfold txE at h2
 simp only [Prod.mk.injEq] at h2
 obtain ⟨q1, q2, q3, q4⟩ := h2
 unfold TxnV.ok at *
 rw [← q1, ← q2, ← q3, ← q4]; exact h3
end

section
theorem zA {α : Type _} (l : List α) (i : Nat) (a : α) : l.toArray.setIfInBounds i a = (l.set i a).toArray := List.setIfInBounds_toArray ..
theorem zB {α : Type _} {x : α} {xs : List α} {a : α} : (x :: xs).set 0 a = a :: xs := List.set_cons_zero
theorem zC {α : Type _} {x : α} {xs : List α} {i : Nat} {a : α} : (x :: xs).set (i + 1) a = x :: xs.set i a := List.set_cons_succ
end
section
theorem tG {P : Program} {ops : Array Oper} {Q : Exit → Act → World → Prop} {md : Region.Mode} {S : World → Prop} (d : Option Tmp) (i : Nat) {oi : Oper} (v : Value) {fuel : Nat} {listed : Array Bool} {a : Act} {w : World} (hi : ops[i]? = some oi) (hd : oi.dst = d)
 (hy : YieldsIf P ops S oi v a) (hS : S w) (h : wpAnyH P md ops Q S fuel (listed.setIfInBounds i true) (a.put d v) w)
 (hs : Region.noSelect ops = true := by kernel_rfl) (hf : Region.free md ops listed i = true := by kernel_rfl) (hr : (Region.ready md ops listed).contains i = true := by kernel_rfl)
 (hQ : ∀ c a w, Q (.panic c) (a.put oi.dst v) w → Q (.panic c) a w := by exact fun _ _ _ h => h) : wpAnyH P md ops Q S (fuel + 1) listed a w := takeG d hi hd hs hf hr hQ hy hS h
theorem tA {P : Program} {ops : Array Oper} {Q : Exit → Act → World → Prop} {md : Region.Mode} {S : World → Prop} (d : Option Tmp) (i : Nat) {oi : Oper} {v : Value} {fuel : Nat} {listed : Array Bool} {a : Act} {w : World} (hi : ops[i]? = some oi) (hd : oi.dst = d)
 (hS : S w) (h : wpAnyH P md ops Q S fuel (listed.setIfInBounds i true) (a.put d v) w)
 (hy : YieldsIf P ops S oi v a := by exact Or.inl ⟨by rfl, by intro w _; go_simp; try (with_reducible rfl)⟩)
 (hs : Region.noSelect ops = true := by kernel_rfl) (hf : Region.free md ops listed i = true := by kernel_rfl) (hr : (Region.ready md ops listed).contains i = true := by kernel_rfl)
 (hQ : ∀ c a w, Q (.panic c) (a.put oi.dst v) w → Q (.panic c) a w := by exact fun _ _ _ h => h) : wpAnyH P md ops Q S (fuel + 1) listed a w := takeG d hi hd hs hf hr hQ hy hS h
end
section
theorem rD {P : Program} {ops : Array Oper} {Q : Exit → Act → World → Prop} {md : Region.Mode} {S : World → Prop} {fuel : Nat} {listed : Array Bool} {a : Act} {w : World} (i : Nat) {o : Oper} (ho : ops[i]? = some o)
 (h : ∀ K' : Act → World → Prop, Go.Shut (∀ a w, S w → (S w → wpAnyH P md ops Q S fuel (listed.setIfInBounds i true) a w) → K' a w) → if Region.wanted o (yielded ops a.tmps) = true then Oper.wp P o a w K' Q else K' (a.put o.dst undef) w)
 (hr : Region.ready md ops listed = [i] := by kernel_rfl) : wpAnyH P md ops Q S (fuel + 1) listed a w := wpAnyH_ready hr (by simp) (AllReadyH.cons ho h AllReadyH.nil)
end
section
open Go.RowKit
theorem perm_lift {α β : Type} (f : α → β) {L M : List β} (p : L.Perm M) : ∀ h : List α, h.map f = M → ∃ s : List α, s.Perm h ∧ s.map f = L := by
 induction p with
 | nil => intro h e; exact ⟨[], by rw [List.map_eq_nil_iff.1 e], rfl⟩
 | cons x _ ih =>
  intro h e
  obtain ⟨a, t, rfl, e1, e2⟩ := List.map_eq_cons_iff.1 e
  obtain ⟨s, p, e3⟩ := ih t e2
  exact ⟨a :: s, p.cons a, by rw [List.map_cons, e1, e3]⟩
 | swap x y l =>
  intro h e
  obtain ⟨a, t, rfl, e1, e2⟩ := List.map_eq_cons_iff.1 e
  obtain ⟨b, t, rfl, e3, e4⟩ := List.map_eq_cons_iff.1 e2
  exact ⟨b :: a :: t, List.Perm.swap a b t, by rw [List.map_cons, List.map_cons, e1, e3, e4]⟩
 | trans _ _ ih1 ih2 =>
  intro h e
  obtain ⟨s, p, e1⟩ := ih2 h e
  obtain ⟨u, q, e2⟩ := ih1 s e1
  exact ⟨u, q.trans p, e2⟩
theorem srt_lift {h c s : List TxnV} (hce : c.map txE = h.map txE) (hs : IsSrt c s) : ∃ s', IsSrt h s' ∧ s'.map txE = s.map txE := by
 have p := hs.1.map txE
 rw [hce] at p
 obtain ⟨s', q, e⟩ := perm_lift txE p h rfl
 refine ⟨s', ⟨q, ?_⟩, e⟩
 have h1 : (s.map txE).Pairwise fun x y => x.2.1 < y.2.1 := by rw [List.pairwise_map]; exact hs.2
 rw [← e, List.pairwise_map] at h1
 exact h1
theorem stL_perm {s c : List TxnV} (h : s.Perm c) : (stL s).Perm (stL c) := by
 unfold stL
 induction h with
 | nil => exact List.Perm.refl _
 | cons x _ ih => rw [List.flatMap_cons, List.flatMap_cons]; exact ih.append_left _
 | swap x y l =>
  simp only [List.flatMap_cons, ← List.append_assoc]
  exact List.Perm.append_right _ List.perm_append_comm
 | trans _ _ h1 h2 => exact h1.trans h2
theorem opsN_perm {s c : List TxnV} (h : s.Perm c) : opsN s = opsN c := by
 induction h with
 | nil => rfl
 | cons x _ ih => unfold opsN at *; simp only [List.map_cons, List.sum_cons] at *; omega
 | swap x y l => unfold opsN; simp only [List.map_cons, List.sum_cons]; omega
 | trans _ _ h1 h2 => exact h1.trans h2
theorem putI_run {α : Type} {e : α → Value} {P : Program} {k el t : TypeId} {b n c : Nat} {f : Int → Option α} {w : World} (hk : P.underlying k = some (.int .i64)) (ht : P.underlying t = some (.map k el)) (hown : MapI e P k w b n f c) (hn : n < maxLen) {key : Int} (hkey : InI key) (val : α) :
  ∃ w', (Instr.mapUpdate t (.map (some b)) (.int .i64 key) (e val)).run P w = .ok () w' ∧ MapI e P k w' b (n + 1) (putF f key val) (if (f key).isSome then c else c + 1) ∧ w.grownBy w' (some b) := by
 obtain ⟨D, hD, hs, ht2⟩ := hown
 obtain ⟨w', hrun, h1, h2⟩ := hD.update (Maps.int_keyed hk) ht hn (keyOf_I hk hkey) (rdE_mk e val)
 refine ⟨w', hrun, ⟨_, h1, ?_, fun y hy => ?_⟩, h2⟩
 ·rw [Maps.size_put (hD.tidy (Maps.int_keyed hk)), (ht2 key hkey).1, hs]
 ·by_cases he : y = key
  ·subst he
   rw [putF_same]
   exact ⟨Maps.has_put_same hD.isMap (isKey_I y) _, fun u hu z => by cases hu; exact Maps.atKey_put_same hD.isMap (isKey_I y) _ _⟩
  ·have hne : Lit.int .i64 y ≠ .int .i64 key := fun h => he (by cases h; rfl)
   rw [putF_other f val he]
   exact ⟨(Maps.has_put_other hne _).trans (ht2 y hy).1, fun u hu z => (Maps.atKey_put_other hne _ _).trans ((ht2 y hy).2 u hu z)⟩
theorem owns_at {w : World} {base : Nat} {e : TypeId} {size g cap n : Nat} {xs : List Value} (h : w.ownsRow base e size (.slice (some ⟨g, 0, none⟩) n cap) n xs) {j : Nat} (hj : j < n * size) : w.cell? ⟨g, j, none⟩ = xs[j]? ∧ w.frozen? ⟨g, j, none⟩ = false := by
 have hr := Row.of_owns h
 constructor
 ·obtain ⟨_, ao, cap', e1, _, _, hc⟩ := hr
  cases e1
  by_cases hn : 0 < n
  ·obtain ⟨b, off, e2, hcell⟩ := hc hn
   cases e2
   have := hcell j hj
   simpa using this
  ·have : n = 0 := by omega
   subst this; simp at hj
 ·obtain ⟨h1, h2⟩ := h
  rcases h2 with ⟨h2, _⟩ | ⟨g', cap', cur, e1, e2, hb, _⟩
  ·cases h2
  ·cases e1
   simp [World.frozen?, hb]
section
variable {s : List TxnV} {g cap base base2 bM bS bK bV nM cM : Nat} {i k iO iS kK kV : Nat} {W : World}
theorem CanI.cells3 (q : CanI s g cap base base2 bM bS bK bV nM cM i k i iS kK kV W) (hi : i < s.length) (x y : Int) :
  (W.cell? ⟨g, i * 4, none⟩ = some (.int .i64 s[i].s) ∧ W.frozen? ⟨g, i * 4, none⟩ = false) ∧
  ((W.setCell ⟨g, i * 4, none⟩ (.int .i64 x)).cell? ⟨g, i * 4 + 1, none⟩ = some (.int .i64 s[i].b) ∧ (W.setCell ⟨g, i * 4, none⟩ (.int .i64 x)).frozen? ⟨g, i * 4 + 1, none⟩ = false) ∧
  (((W.setCell ⟨g, i * 4, none⟩ (.int .i64 x)).setCell ⟨g, i * 4 + 1, none⟩ (.int .i64 y)).cell? ⟨g, i * 4 + 2, none⟩ = some (.int .i64 s[i].c) ∧ ((W.setCell ⟨g, i * 4, none⟩ (.int .i64 x)).setCell ⟨g, i * 4 + 1, none⟩ (.int .i64 y)).frozen? ⟨g, i * 4 + 2, none⟩ = false) := by
 have hl := outTo_len (s := s) (i := i) (by omega)
 have hi2 : i < (outTo s i).length := by omega
 have ho := q.own
 unfold OwnT at ho
 rw [hl] at ho
 obtain ⟨q0, q1, q2, q3⟩ := txV_at (outTo s i) i hi2
 rw [outTo_at hi hi2] at q0 q1 q2
 have o1 := owns_set ho (i * 4) (.int .i64 x)
 have o2 := owns_set o1 (i * 4 + 1) (.int .i64 y)
 have a0 := owns_at ho (j := i * 4) (by omega)
 have a1 := owns_at o1 (j := i * 4 + 1) (by omega)
 have a2 := owns_at o2 (j := i * 4 + 2) (by omega)
 rw [q0] at a0
 rw [List.getElem?_set_ne (by omega), q1] at a1
 rw [List.getElem?_set_ne (by omega), List.getElem?_set_ne (by omega), q2] at a2
 exact ⟨a0, a1, a2⟩
theorem CanI.vcell (q : CanI s g cap base base2 bM bS bK bV nM cM i k (i + 1) iS kK kV W) (hi : i < s.length) : W.cell? ⟨g, i * 4 + 3, none⟩ = some s[i].v := by
 have hl := outTo_len (s := s) (i := i + 1) (by omega)
 have hi2 : i < (outTo s (i + 1)).length := by omega
 have ho := q.own
 unfold OwnT at ho
 rw [hl] at ho
 obtain ⟨_, _, _, q3⟩ := txV_at (outTo s (i + 1)) i hi2
 have a := (owns_at ho (j := i * 4 + 3) (by omega)).1
 rw [q3] at a
 rw [a]
 have hl0 := outTo_len (s := s) (i := i) (by omega)
 simp only [outTo_succ hi, List.getElem_set_self]
 rfl
end
theorem cnamed_any (va : Value) (h : List TxnV) (w : World) (hT : Txns w va h) (hok : ∀ t ∈ h, t.ok) (hc : checkI h = 0) :
  Calls Try.prog 20 #[va] w fun e w' => (∃ v c s, e = .returned v ∧ CopyOf w' w.heap.size v c ∧ IsSrt h s ∧ c.map txE = canE (s.map txE)) ∧ Below w.heap.size w w' := by
 have h64 := (check_zero hc).1
 have hops := (check_zero hc).2.1
 have HN : Hid (∀ t ∈ h, t.l.length ≤ 1200) := hid (fun t ht => by
  obtain ⟨k, hk, rfl⟩ := List.mem_iff_getElem.1 ht
  have := opsN_at h k hk
  omega)
 have HC := hid hc
 have HOK := hid hok
 have CC := hid (hcopy_any va h w hT (by omega) (fun t ht => Nat.le_trans (HN.out t ht) (by omega)))
 have HOP := hid hops
 clear hT hok hc hops
 go_enter Try.func20, Try.ntmps20
 go_wp2_with fail
 refine CC.out.mono ?_
 rintro e w1 ⟨v1, c, rfl, hce, hC, hb1⟩
 have hcl : c.length = h.length := by have := congrArg List.length hce; simpa using this
 have hcc : checkI c = 0 := by rw [checkI_txE hce]; exact HC.out
 obtain ⟨base2, ⟨hb2a, hb2b⟩, hO, hvb, hown, hap⟩ := hC
 have hsv : ∀ t ∈ c, ∃ ao n cp, t.v = .slice ao n cp := fun t ht => by
  obtain ⟨_, ao, cap, e, _⟩ := (hown t ht).ops
  exact ⟨ao, _, cap, e⟩
 have hnb : (c.map (·.b)).Nodup := begins_nodup (check_rightB hcc).2.2.1
 have CS := hid (tsort_own w.heap.size v1 c w1 hO hsv hnb (by omega))
 have HF : Hid (∀ s w2, IsSrt c s → OwnT w2 w.heap.size v1 s → w1.grownBy w2 v1.ownBlock → (∀ t ∈ s, Own w2 base2 t.v t.l) ∧ s.Pairwise ApartT ∧ Below w.heap.size w w2 ∧ base2 ≤ w2.heap.size ∧ (∀ t ∈ s, t.ok) ∧ (stL s).Nodup ∧ s.length = h.length ∧ opsN s ≤ 1024 ∧ ∃ s', IsSrt h s' ∧ s'.map txE = s.map txE) := hid (fun s w2 hs hO2 hg => by
  have hp : s.Perm c := hs.1
  have hok2 : ∀ t ∈ c, t.ok := ok_txE hce HOK.out
  refine ⟨fun t ht => ?_, ?_, ?_, ?_, fun t ht => hok2 t (hp.mem_iff.1 ht), ?_, by rw [hp.length_eq, hcl], ?_, srt_lift hce hs⟩
  ·exact World.ownsRow.kept (hown t (hp.mem_iff.1 ht)) hg (by
    cases hvo : v1.ownBlock with
    | none =>
     cases hto : t.v.ownBlock with
     | none => exact .inl rfl
     | some b => exact .inr (fun e => by cases e)
    | some b => exact .inr (fun e => by have h1 := World.ownsRow.lt (hown t (hp.mem_iff.1 ht)) b e; have h2 := hvb b hvo; omega))
  ·exact (hp.pairwise_iff (fun {a b} h q e f => h q f e)).2 hap
  ·exact hb1.grown hg hb1.size (fun j hj => (World.ownsRow.lt hO j hj).1)
  ·exact Nat.le_trans hb2b hg.size
  ·have h1 := (check_rightB hcc).2.2.1
   unfold stampsB at h1
   exact (stL_perm hp).nodup_iff.2 (of_decide_eq_true h1)
  ·rw [opsN_perm hp]
   exact (check_zero hcc).2.1)
 have HVB := hid hvb
 have HB2 := hid hb2a
 clear CC hb1 hce hcl hcc hO hvb hown hap hsv hnb hb2b
 go_wp2_with fail
 refine CS.out.mono ?_
 rintro e w2 ⟨rfl, s, hs, hO2, hg2⟩
 obtain ⟨hP, hap, hb2, hsz2, hok2, hst, hsl, hop, s', hs', hse⟩ := HF.out s w2 hs hO2 hg2
 have HSR := hid (And.intro hs' hse)
 have hTs : Txns w2 v1 s := ⟨Row.of_owns hO2, fun t ht => (hP t ht).ops⟩
 have CR := hid (cranks_any v1 s w2 hTs hok2 hst (by omega))
 have hHc : Hid (checkI c = checkI c) := hid rfl
 clear CS HF hg2 hs hs' hse hHc
 rcases hO2.split with ⟨rfl, rfl⟩ | ⟨g, cap, rfl, hgb⟩
 ·clear hO2 hop hap hP hst hok2 hTs hsl
  go_wp2_with fail
  refine CR.out.mono ?_
  rintro e w3 ⟨⟨bM, nM, cM, rfl, hnM, hbM, hM⟩, h3⟩
  have hmm := @run_makeMap Try.prog
  have hb3 := below_then hb2 h3
  have hs4 : ((w3.alloc (.map #[] 0)).alloc (.map #[] 0)).heap.size = w3.heap.size + 1 + 1 := by simp
  have hs5 : (w3.alloc (.map #[] 0)).heap.size = w3.heap.size + 1 := by simp
  have hm2 := MapI.made eI Try.prog 3 ((w3.alloc (.map #[] 0)).alloc (.map #[] 0))
  rw [hs4] at hm2
  have hx5 : Below w3.heap.size w3 (((w3.alloc (.map #[] 0)).alloc (.map #[] 0)).alloc (.map #[] 0)) := (((Below.refl _ _).alloc (Nat.le_refl _) _).alloc (by rw [hs5]; omega) _).alloc (by rw [hs4]; omega) _
  obtain ⟨w5, hrun, _, hg5⟩ := putI_run keyI mapNames hm2 (by unfold maxLen; omega) (inI_of (x := 0) (by unfold IntOk; omega)) (0 : Int)
  have hrun : Sem.run Try.prog (Instr.mapUpdate 68 (.map (some (w3.heap.size + 1 + 1))) (.int .i64 0) (.int .i64 0)) (((w3.alloc (.map #[] 0)).alloc (.map #[] 0)).alloc (.map #[] 0)) = .ok () w5 := hrun
  have HB5 : Hid (Below w.heap.size w w5) := hid (by
   have h1 := below_then hb3 hx5
   have h2 := hb3.size
   exact h1.grown hg5 h1.size (fun j hj => by cases hj; omega))
  clear hM h3 CR hm2 hx5 hs4 hs5 hg5 hb2 hb3
  go_wp2_with fail
  clear hrun hmm
  go_loopw [24] (fun i wr => i = .int .i64 0 ∧ Hid (Below w.heap.size w wr)) (fun _ _ => 0)
  case atStart => exact ⟨rfl, HB5⟩
  case round =>
   obtain ⟨rfl, HB⟩ := hrel
   have HCP : Hid (CopyOf wr w.heap.size (.slice none 0 0) []) := hid ⟨w.heap.size, ⟨Nat.le_refl _, HB.out.size⟩, World.ownsRow_nil _ _ _ _, fun b hb => (by cases hb), fun t ht => (by cases ht), List.Pairwise.nil⟩
   go_wp2_with fail
   go_ret
   first | exact ⟨⟨_, HCP.out, s', HSR.out.1, by rw [HSR.out.2]; rfl⟩, HB.out⟩ | exact ⟨⟨_, rfl, _, HCP.out, s', HSR.out.1, by rw [HSR.out.2]; rfl⟩, HB.out⟩ | exact ⟨⟨_, _, s', rfl, HCP.out, HSR.out.1, by rw [HSR.out.2]; rfl⟩, HB.out⟩
 ·have HP := hid hP
  have HAP := hid hap
  have HO2 := hid hO2
  have hg2 : g < base2 := HVB.out g rfl
  have HST := hid hst
  have HOK2 := hid hok2
  have HSL := hid hsl
  clear hP hap hO2 hTs hst hok2 hsl
  go_wp2_with fail
  refine CR.out.mono ?_
  rintro e w3 ⟨⟨bM, nM, cM, rfl, hnM, hbM, hM⟩, h3⟩
  have hmm := @run_makeMap Try.prog
  have hlM := hM.lt
  have HM := hid (fun wx (hx : Below w3.heap.size w3 wx) => hM.below hx)
  have HO3 := hid (fun wx (hx : Below w3.heap.size w3 wx) => OwnT.below (OwnT.below HO2.out h3) hx)
  have HP3 := hid (fun wx (hx : Below w3.heap.size w3 wx) t ht => ((HP.out t ht).below h3).below hx)
  have HB3 := hid (below_then hb2 h3)
  have hz3 := h3.size
  have HO2K := HO2
  have HPK := HP
  clear hM h3 CR HO2 HP hb2
  obtain ⟨hbg, hgz⟩ : w.heap.size ≤ g ∧ g < w2.heap.size := World.ownsRow.lt HO2K.out g rfl
  have hF : CanF s g w.heap.size base2 bM w3.heap.size (w3.heap.size + 1) (w3.heap.size + 1 + 1) := ⟨hg2, hbg, fun t ht b hb => by have := World.ownsRow.lt (HPK.out t ht) b hb; omega, HAP.out, by omega, hlM, by omega, by omega⟩
  have hs4 : ((w3.alloc (.map #[] 0)).alloc (.map #[] 0)).heap.size = w3.heap.size + 1 + 1 := by simp
  have hs5 : (w3.alloc (.map #[] 0)).heap.size = w3.heap.size + 1 := by simp
  have hm0 := ((MapI.made eI Try.prog 3 w3).alloc (.map #[] 0)).alloc (.map #[] 0)
  have hm1 := (MapI.made eI Try.prog 3 (w3.alloc (.map #[] 0))).alloc (.map #[] 0)
  have hm2 := MapI.made eI Try.prog 3 ((w3.alloc (.map #[] 0)).alloc (.map #[] 0))
  rw [hs5] at hm1
  rw [hs4] at hm2
  have hx5 : Below w3.heap.size w3 (((w3.alloc (.map #[] 0)).alloc (.map #[] 0)).alloc (.map #[] 0)) := (((Below.refl _ _).alloc (Nat.le_refl _) _).alloc (by rw [hs5]; omega) _).alloc (by rw [hs4]; omega) _
  obtain ⟨w5, hrun, hm3, hg5⟩ := putI_run keyI mapNames hm2 (by unfold maxLen; omega) (inI_of (x := 0) (by unfold IntOk; omega)) (0 : Int)
  have hrun : Sem.run Try.prog (Instr.mapUpdate 68 (.map (some (w3.heap.size + 1 + 1))) (.int .i64 0) (.int .i64 0)) (((w3.alloc (.map #[] 0)).alloc (.map #[] 0)).alloc (.map #[] 0)) = .ok () w5 := hrun
  have HQ0 : Hid (CanI s g cap w.heap.size base2 bM w3.heap.size (w3.heap.size + 1) (w3.heap.size + 1 + 1) nM cM 0 0 0 0 0 0 w5) := hid (CanI.start
   (World.ownsRow.kept (HO3.out _ hx5) hg5 (.inr (fun e => by simp [Value.ownBlock] at e; omega)))
   (fun t ht => World.ownsRow.kept (HP3.out _ hx5 t ht) hg5 (.inr (fun e => by have := World.ownsRow.lt (HPK.out t ht) _ e; omega)))
   ((HM.out _ hx5).kept hg5 (fun e => by injection e with e; omega)) (hm0.kept hg5 (fun e => by injection e with e; omega)) (hm1.kept hg5 (fun e => by injection e with e; omega)) (by simpa using hm3))
  have HB5 : Hid (Below w.heap.size w w5) := hid (by
   have h1 := below_then HB3.out hx5
   exact h1.grown hg5 h1.size (fun j hj => by cases hj; omega))
  have HFF := hid hF
  clear hm0 hm1 hm2 hm3 hx5 hs4 hs5 hg5 HM HO3 HP3 HO2K HPK hF
  go_wp2_with fail
  clear hrun hmm
  generalize w3.heap.size + 1 + 1 = bV at *
  generalize w3.heap.size + 1 = bK at *
  generalize w3.heap.size = bS at *
  go_loopw [24] (fun i wr => ∃ i' : Nat, i' ≤ s.length ∧ i = .int .i64 (i' : Int) ∧ Hid (CanI s g cap w.heap.size base2 bM bS bK bV nM cM i' 0 i' i' 0 0 wr) ∧ Hid (Below w.heap.size w wr)) (fun i _ => s.length - (intOf i).toNat)
  case atStart => exact ⟨0, by omega, rfl, HQ0, HB5⟩
  case round =>
   obtain ⟨i, hi, rfl, HQ, HB⟩ := hrel
   by_cases hlt : i < s.length
   ·have hki : (i : Int) < (s.length : Int) := by omega
    have hi9 := hlt
    have hq := HQ.out
    have hpV := hq.mV.lt
    have hMS := HFF.out.MS
    have hSK := HFF.out.SK
    have hKV := HFF.out.KV
    have hgM := HFF.out.gM
    obtain ⟨⟨a0, _⟩, ⟨a1, _⟩, ⟨a2, _⟩, a3⟩ := hq.cells hlt
    have hOi := hq.ops i hlt
    rw [opsTo_now, List.take_zero, List.map_nil, List.nil_append, List.drop_zero] at hOi
    obtain ⟨ua, uc, hu, _⟩ := hOi.ops.form
    have htb := HOK2.out s[i] (List.getElem_mem hlt)
    have hsl7 : s.length ≤ 64 := by have := HSL.out; omega
    have LK : ∀ x, x ∈ stL s → InI x → ∀ wx, MapI eI Try.prog 3 wx bM nM (rankF (stL s) (stL s)) cM → Sem.run Try.prog (Instr.lookup 35 (.map (some bM)) (.int .i64 x) false) wx = .ok (.int .i64 (rankI (stL s) x)) wx := fun x hx hi wx hM => by
     have := lookI_run false keyI mapII 0 (zeroI wx) hM hi
     rw [show rankF (stL s) (stL s) x = some (rankI (stL s) x) from if_pos hx] at this
     exact this
    have HLB := hid (LK s[i].b (stL_mem.2 ⟨_, List.getElem_mem hlt, .inl rfl⟩) (inI_of htb.1.2.1))
    have HLC := hid (LK s[i].c (stL_mem.2 ⟨_, List.getElem_mem hlt, .inr rfl⟩) (inI_of htb.1.2.2))
    have HXO : Hid (∀ o ∈ opsAt s i, InI o.key ∧ InI o.val) := hid (fun o ho => by
     rw [opsAt_eq hi9] at ho
     exact ⟨inI_of (htb.2 o ho).1, inI_of (htb.2 o ho).2⟩)
    have CO8 := hid (fun wx (q : CanI s g cap w.heap.size base2 bM bS bK bV nM cM i 0 i i 0 0 wx) => cof_any bS i (firsts (sTo s i)) s[i].s wx q.mS (by omega) (inI_of htb.1.1))
    have HSS := hid (fun wa wb (q : CanI s g cap w.heap.size base2 bM bS bK bV nM cM i 0 i i 0 0 wa) hM hg => CanI.ses (W1 := wb) HFF.out q hi9 hM hg)
    have HC3 := hid (fun wx (q : CanI s g cap w.heap.size base2 bM bS bK bV nM cM i 0 i (i + 1) 0 0 wx) x y => q.cells3 hi9 x y)
    have HCE := hid (fun wx (q : CanI s g cap w.heap.size base2 bM bS bK bV nM cM i 0 i (i + 1) 0 0 wx) => q.cell HFF.out hi9 _ _ _ (ses_now hi9) (rank_now s[i].b) (rank_now s[i].c))
    have HVC := hid (fun wx k kK kV (q : CanI s g cap w.heap.size base2 bM bS bK bV nM cM i k (i + 1) (i + 1) kK kV wx) => q.vcell hi9)
    have HOW := hid (fun wx k kK kV (q : CanI s g cap w.heap.size base2 bM bS bK bV nM cM i k (i + 1) (i + 1) kK kV wx) => q.ops i hi9)
    have HU2 := hid hu
    rw [hu] at a3
    rw [hu] at HVC
    rw [hu] at HOW
    clear LK hOi htb hu
    generalize s[i].s = sx at *
    generalize s[i].b = bx at *
    generalize s[i].c = cx at *
    generalize rankI (stL s) bx = py at *
    generalize rankI (stL s) cx = pz at *
    generalize ((posL (firsts (sTo s i)) sx : Nat) : Int) = px at *
    obtain ⟨b0, b1, b2, b3⟩ := txnBlock wr (.int .i64 sx) (.int .i64 bx) (.int .i64 cx) (.slice ua (opsAt s i).length uc) 41
    have hq8 := hq.below (box_below wr (.cells #[.int .i64 sx, .int .i64 bx, .int .i64 cx, .slice ua (opsAt s i).length uc] 41))
    have hb8 := HB.out.alloc HB.out.size (.cells #[.int .i64 sx, .int .i64 bx, .int .i64 cx, .slice ua (opsAt s i).length uc] 41)
    clear hq HQ HB
    go_upto_region 8 with fail
    generalize wr.alloc (.cells #[.int .i64 sx, .int .i64 bx, .int .i64 cx, .slice ua (opsAt s i).length uc] 41) = w8 at *
    generalize wr.heap.size = p9 at *
    have kd := (Below.refl w8.heap.size w8).drew
    have HQ8 := hid (hq8.below kd)
    have HB8 := hid hb8.drew
    have b0 := (kd.cell (p := ⟨p9, 0, none⟩) (block_lt b0)).trans b0
    have b1 := (kd.cell (p := ⟨p9, 1, none⟩) (block_lt b1)).trans b1
    have b2 := (kd.cell (p := ⟨p9, 2, none⟩) (block_lt b2)).trans b2
    have b3 := (kd.cell (p := ⟨p9, 3, none⟩) (block_lt b3)).trans b3
    have hd0 : decide ((i : Int) < 0) = false := decide_eq_false (by omega)
    have hd1 : decide ((s.length : Int) ≤ (i : Int)) = false := decide_eq_false (by omega)
    have hd2 : decide (s.length ≤ i) = false := decide_eq_false (by omega)
    have hbgS : w.heap.size ≤ bS := by have := HFF.out.bg; omega
    clear kd hq8 hb8 a0 a1 a2 a3
    refine wp_region_held_drew (S := fun wx => ((wx.cell? ⟨p9, 0, none⟩ = some (.int .i64 sx) ∧ wx.cell? ⟨p9, 1, none⟩ = some (.int .i64 bx) ∧ wx.cell? ⟨p9, 2, none⟩ = some (.int .i64 cx) ∧ wx.cell? ⟨p9, 3, none⟩ = some (.slice ua (opsAt s i).length uc)) ∧ MapI eI Try.prog 3 wx bM nM (rankF (stL s) (stL s)) cM)) (by kernel_rfl) ⟨⟨b0, b1, b2, b3⟩, HQ8.out.mM⟩ (fun hS0 => ?_)
    generalize w8.drew = wd at *
    refine tG (some 29) 0 ?vca0x1 rfl rfl (Or.inl ⟨by rfl, ?hca0x1⟩) hS0 ?rca0x1
    case hca0x1 => (intro w hw; obtain ⟨⟨m0, m1, m2, m3⟩, m4⟩ := hw; have l1 := HLB.out w m4; have l2 := HLC.out w m4; go_simp; try (with_reducible rfl))
    try simp only [Act.put, zA, zB, zC]
    refine tG (some 30) 1 ?vca1x2 rfl rfl (Or.inl ⟨by rfl, ?hca1x2⟩) hS0 ?rca1x2
    case hca1x2 => (intro w hw; obtain ⟨⟨m0, m1, m2, m3⟩, m4⟩ := hw; have l1 := HLB.out w m4; have l2 := HLC.out w m4; go_simp; try (with_reducible rfl))
    try simp only [Act.put, zA, zB, zC]
    refine tG (some 31) 2 ?vca2x3 rfl rfl (Or.inl ⟨by rfl, ?hca2x3⟩) hS0 ?rca2x3
    case hca2x3 => (intro w hw; obtain ⟨⟨m0, m1, m2, m3⟩, m4⟩ := hw; have l1 := HLB.out w m4; have l2 := HLC.out w m4; go_simp; try (with_reducible rfl))
    try simp only [Act.put, zA, zB, zC]
    refine tG (some 32) 3 ?vca3x4 rfl rfl (Or.inl ⟨by rfl, ?hca3x4⟩) hS0 ?rca3x4
    case hca3x4 => (intro w hw; obtain ⟨⟨m0, m1, m2, m3⟩, m4⟩ := hw; have l1 := HLB.out w m4; have l2 := HLC.out w m4; go_simp; try (with_reducible rfl))
    try simp only [Act.put, zA, zB, zC]
    refine tG (some 33) 4 ?vca4x5 rfl rfl (Or.inl ⟨by rfl, ?hca4x5⟩) hS0 ?rca4x5
    case hca4x5 => (intro w hw; obtain ⟨⟨m0, m1, m2, m3⟩, m4⟩ := hw; have l1 := HLB.out w m4; have l2 := HLC.out w m4; go_simp; try (with_reducible rfl))
    try simp only [Act.put, zA, zB, zC]
    refine tG (some 34) 5 ?vca5x6 rfl rfl (Or.inl ⟨by rfl, ?hca5x6⟩) hS0 ?rca5x6
    case hca5x6 => (intro w hw; obtain ⟨⟨m0, m1, m2, m3⟩, m4⟩ := hw; have l1 := HLB.out w m4; have l2 := HLC.out w m4; go_simp; try (with_reducible rfl))
    try simp only [Act.put, zA, zB, zC]
    refine tG (some 35) 6 ?vca6x7 rfl rfl (Or.inl ⟨by rfl, ?hca6x7⟩) hS0 ?rca6x7
    case hca6x7 => (intro w hw; obtain ⟨⟨m0, m1, m2, m3⟩, m4⟩ := hw; have l1 := HLB.out w m4; have l2 := HLC.out w m4; go_simp; try (with_reducible rfl))
    try simp only [Act.put, zA, zB, zC]
    refine tG (some 36) 7 ?vca7x8 rfl rfl (Or.inl ⟨by rfl, ?hca7x8⟩) hS0 ?rca7x8
    case hca7x8 => (intro w hw; obtain ⟨⟨m0, m1, m2, m3⟩, m4⟩ := hw; have l1 := HLB.out w m4; have l2 := HLC.out w m4; go_simp; try (with_reducible rfl))
    try simp only [Act.put, zA, zB, zC]
    refine tG (some 37) 8 ?vca8x9 rfl rfl (Or.inl ⟨by rfl, ?hca8x9⟩) hS0 ?rca8x9
    case hca8x9 => (intro w hw; obtain ⟨⟨m0, m1, m2, m3⟩, m4⟩ := hw; have l1 := HLB.out w m4; have l2 := HLC.out w m4; go_simp; try (with_reducible rfl))
    try simp only [Act.put, zA, zB, zC]
    refine tG (some 39) 10 ?vca10x10 rfl rfl (Or.inl ⟨by rfl, ?hca10x10⟩) hS0 ?rca10x10
    case hca10x10 => (intro w hw; obtain ⟨⟨m0, m1, m2, m3⟩, m4⟩ := hw; have l1 := HLB.out w m4; have l2 := HLC.out w m4; go_simp; try (with_reducible rfl))
    try simp only [Act.put, zA, zB, zC]
    refine tG (some 40) 11 ?vca11x11 rfl rfl (Or.inl ⟨by rfl, ?hca11x11⟩) hS0 ?rca11x11
    case hca11x11 => (intro w hw; obtain ⟨⟨m0, m1, m2, m3⟩, m4⟩ := hw; have l1 := HLB.out w m4; have l2 := HLC.out w m4; go_simp; try (with_reducible rfl))
    try simp only [Act.put, zA, zB, zC]
    refine tG (some 41) 12 ?vca12x12 rfl rfl (Or.inl ⟨by rfl, ?hca12x12⟩) hS0 ?rca12x12
    case hca12x12 => (intro w hw; obtain ⟨⟨m0, m1, m2, m3⟩, m4⟩ := hw; have l1 := HLB.out w m4; have l2 := HLC.out w m4; go_simp; try (with_reducible rfl))
    try simp only [Act.put, zA, zB, zC]
    refine tG (some 42) 13 ?vca13x13 rfl rfl (Or.inl ⟨by rfl, ?hca13x13⟩) hS0 ?rca13x13
    case hca13x13 => (intro w hw; obtain ⟨⟨m0, m1, m2, m3⟩, m4⟩ := hw; have l1 := HLB.out w m4; have l2 := HLC.out w m4; go_simp; try (with_reducible rfl))
    try simp only [Act.put, zA, zB, zC]
    refine tG (some 43) 14 ?vca14x14 rfl rfl (Or.inl ⟨by rfl, ?hca14x14⟩) hS0 ?rca14x14
    case hca14x14 => (intro w hw; obtain ⟨⟨m0, m1, m2, m3⟩, m4⟩ := hw; have l1 := HLB.out w m4; have l2 := HLC.out w m4; go_simp; try (with_reducible rfl))
    try simp only [Act.put, zA, zB, zC]
    refine tG (some 44) 15 ?vca15x15 rfl rfl (Or.inl ⟨by rfl, ?hca15x15⟩) hS0 ?rca15x15
    case hca15x15 => (intro w hw; obtain ⟨⟨m0, m1, m2, m3⟩, m4⟩ := hw; have l1 := HLB.out w m4; have l2 := HLC.out w m4; go_simp; try (with_reducible rfl))
    try simp only [Act.put, zA, zB, zC]
    refine tG (some 45) 16 ?vca16x16 rfl rfl (Or.inl ⟨by rfl, ?hca16x16⟩) hS0 ?rca16x16
    case hca16x16 => (intro w hw; obtain ⟨⟨m0, m1, m2, m3⟩, m4⟩ := hw; have l1 := HLB.out w m4; have l2 := HLC.out w m4; go_simp; try (with_reducible rfl))
    try simp only [Act.put, zA, zB, zC]
    refine tG (some 46) 17 ?vca17x17 rfl rfl (Or.inl ⟨by rfl, ?hca17x17⟩) hS0 ?rca17x17
    case hca17x17 => (intro w hw; obtain ⟨⟨m0, m1, m2, m3⟩, m4⟩ := hw; have l1 := HLB.out w m4; have l2 := HLC.out w m4; go_simp; try (with_reducible rfl))
    try simp only [Act.put, zA, zB, zC]
    refine rD 9 rfl (fun K hK => ?_)
    go_simp
    refine (CO8.out _ HQ8.out).mono ?_
    rintro e wA ⟨rfl, hMA, hgA⟩
    have HQA := hid (HSS.out _ _ HQ8.out hMA hgA)
    have sA : ((wA.cell? ⟨p9, 0, none⟩ = some (.int .i64 sx) ∧ wA.cell? ⟨p9, 1, none⟩ = some (.int .i64 bx) ∧ wA.cell? ⟨p9, 2, none⟩ = some (.int .i64 cx) ∧ wA.cell? ⟨p9, 3, none⟩ = some (.slice ua (opsAt s i).length uc)) ∧ MapI eI Try.prog 3 wA bM nM (rankF (stL s) (stL s)) cM) := ⟨⟨hgA.cell hS0.1.1 (fun e => absurd (Option.some.inj e) (by show p9 ≠ bS; omega)), hgA.cell hS0.1.2.1 (fun e => absurd (Option.some.inj e) (by show p9 ≠ bS; omega)), hgA.cell hS0.1.2.2.1 (fun e => absurd (Option.some.inj e) (by show p9 ≠ bS; omega)), hgA.cell hS0.1.2.2.2 (fun e => absurd (Option.some.inj e) (by show p9 ≠ bS; omega))⟩, HQA.out.mM⟩
    have HBA := hid (HB8.out.grown hgA HB8.out.size (fun j hj => by cases hj; omega))
    show K _ _
    refine hK.out _ _ sA (fun _ => ?_)
    clear hK K hMA hgA
    refine tG (some 47) 18 ?vca18x19 rfl rfl (Or.inl ⟨by rfl, ?hca18x19⟩) sA ?rca18x19
    case hca18x19 => (intro w hw; obtain ⟨⟨m0, m1, m2, m3⟩, m4⟩ := hw; have l1 := HLB.out w m4; have l2 := HLC.out w m4; go_simp; try (with_reducible rfl))
    try simp only [Act.put, zA, zB, zC]
    refine tG (some 48) 19 ?vca19x20 rfl rfl (Or.inl ⟨by rfl, ?hca19x20⟩) sA ?rca19x20
    case hca19x20 => (intro w hw; obtain ⟨⟨m0, m1, m2, m3⟩, m4⟩ := hw; have l1 := HLB.out w m4; have l2 := HLC.out w m4; go_simp; try (with_reducible rfl))
    try simp only [Act.put, zA, zB, zC]
    refine rD 20 rfl (fun K hK => ?_)
    have hc3 := HC3.out _ HQA.out px py
    have hc0 := hc3.1.1
    have hf0 := hc3.1.2
    go_simp
    have sB : (((wA.setCell ⟨g, i * 4, none⟩ (.int .i64 px)).cell? ⟨p9, 0, none⟩ = some (.int .i64 sx) ∧ (wA.setCell ⟨g, i * 4, none⟩ (.int .i64 px)).cell? ⟨p9, 1, none⟩ = some (.int .i64 bx) ∧ (wA.setCell ⟨g, i * 4, none⟩ (.int .i64 px)).cell? ⟨p9, 2, none⟩ = some (.int .i64 cx) ∧ (wA.setCell ⟨g, i * 4, none⟩ (.int .i64 px)).cell? ⟨p9, 3, none⟩ = some (.slice ua (opsAt s i).length uc)) ∧ MapI eI Try.prog 3 (wA.setCell ⟨g, i * 4, none⟩ (.int .i64 px)) bM nM (rankF (stL s) (stL s)) cM) := ⟨⟨(World.cell?_setCell_other _ _ _ _ (fun e => by injection e with e; omega)).trans sA.1.1, (World.cell?_setCell_other _ _ _ _ (fun e => by injection e with e; omega)).trans sA.1.2.1, (World.cell?_setCell_other _ _ _ _ (fun e => by injection e with e; omega)).trans sA.1.2.2.1, (World.cell?_setCell_other _ _ _ _ (fun e => by injection e with e; omega)).trans sA.1.2.2.2⟩, sA.2.cell (by show bM ≠ g; omega) _⟩
    refine hK.out _ _ sB (fun _ => ?_)
    clear hK K hc0 hf0 hc3
    refine tG (some 49) 21 ?vca21x22 rfl rfl (Or.inl ⟨by rfl, ?hca21x22⟩) sB ?rca21x22
    case hca21x22 => (intro w hw; obtain ⟨⟨m0, m1, m2, m3⟩, m4⟩ := hw; have l1 := HLB.out w m4; have l2 := HLC.out w m4; go_simp; try (with_reducible rfl))
    try simp only [Act.put, zA, zB, zC]
    refine tG (some 50) 22 ?vca22x23 rfl rfl (Or.inl ⟨by rfl, ?hca22x23⟩) sB ?rca22x23
    case hca22x23 => (intro w hw; obtain ⟨⟨m0, m1, m2, m3⟩, m4⟩ := hw; have l1 := HLB.out w m4; have l2 := HLC.out w m4; go_simp; try (with_reducible rfl))
    try simp only [Act.put, zA, zB, zC]
    refine rD 23 rfl (fun K hK => ?_)
    have hc3 := HC3.out _ HQA.out px py
    have hc0 := hc3.2.1.1
    have hf0 := hc3.2.1.2
    go_simp
    have sC : ((((wA.setCell ⟨g, i * 4, none⟩ (.int .i64 px)).setCell ⟨g, i * 4 + 1, none⟩ (.int .i64 py)).cell? ⟨p9, 0, none⟩ = some (.int .i64 sx) ∧ ((wA.setCell ⟨g, i * 4, none⟩ (.int .i64 px)).setCell ⟨g, i * 4 + 1, none⟩ (.int .i64 py)).cell? ⟨p9, 1, none⟩ = some (.int .i64 bx) ∧ ((wA.setCell ⟨g, i * 4, none⟩ (.int .i64 px)).setCell ⟨g, i * 4 + 1, none⟩ (.int .i64 py)).cell? ⟨p9, 2, none⟩ = some (.int .i64 cx) ∧ ((wA.setCell ⟨g, i * 4, none⟩ (.int .i64 px)).setCell ⟨g, i * 4 + 1, none⟩ (.int .i64 py)).cell? ⟨p9, 3, none⟩ = some (.slice ua (opsAt s i).length uc)) ∧ MapI eI Try.prog 3 ((wA.setCell ⟨g, i * 4, none⟩ (.int .i64 px)).setCell ⟨g, i * 4 + 1, none⟩ (.int .i64 py)) bM nM (rankF (stL s) (stL s)) cM) := ⟨⟨(World.cell?_setCell_other _ _ _ _ (fun e => by injection e with e; omega)).trans sB.1.1, (World.cell?_setCell_other _ _ _ _ (fun e => by injection e with e; omega)).trans sB.1.2.1, (World.cell?_setCell_other _ _ _ _ (fun e => by injection e with e; omega)).trans sB.1.2.2.1, (World.cell?_setCell_other _ _ _ _ (fun e => by injection e with e; omega)).trans sB.1.2.2.2⟩, sB.2.cell (by show bM ≠ g; omega) _⟩
    refine hK.out _ _ sC (fun _ => ?_)
    clear hK K hc0 hf0 hc3
    refine tG (some 51) 24 ?vca24x25 rfl rfl (Or.inl ⟨by rfl, ?hca24x25⟩) sC ?rca24x25
    case hca24x25 => (intro w hw; obtain ⟨⟨m0, m1, m2, m3⟩, m4⟩ := hw; have l1 := HLB.out w m4; have l2 := HLC.out w m4; go_simp; try (with_reducible rfl))
    try simp only [Act.put, zA, zB, zC]
    refine tG (some 52) 25 ?vca25x26 rfl rfl (Or.inl ⟨by rfl, ?hca25x26⟩) sC ?rca25x26
    case hca25x26 => (intro w hw; obtain ⟨⟨m0, m1, m2, m3⟩, m4⟩ := hw; have l1 := HLB.out w m4; have l2 := HLC.out w m4; go_simp; try (with_reducible rfl))
    try simp only [Act.put, zA, zB, zC]
    refine rD 26 rfl (fun K hK => ?_)
    have hc3 := HC3.out _ HQA.out px py
    have hc0 := hc3.2.2.1
    have hf0 := hc3.2.2.2
    go_simp
    have sD : (((((wA.setCell ⟨g, i * 4, none⟩ (.int .i64 px)).setCell ⟨g, i * 4 + 1, none⟩ (.int .i64 py)).setCell ⟨g, i * 4 + 2, none⟩ (.int .i64 pz)).cell? ⟨p9, 0, none⟩ = some (.int .i64 sx) ∧ (((wA.setCell ⟨g, i * 4, none⟩ (.int .i64 px)).setCell ⟨g, i * 4 + 1, none⟩ (.int .i64 py)).setCell ⟨g, i * 4 + 2, none⟩ (.int .i64 pz)).cell? ⟨p9, 1, none⟩ = some (.int .i64 bx) ∧ (((wA.setCell ⟨g, i * 4, none⟩ (.int .i64 px)).setCell ⟨g, i * 4 + 1, none⟩ (.int .i64 py)).setCell ⟨g, i * 4 + 2, none⟩ (.int .i64 pz)).cell? ⟨p9, 2, none⟩ = some (.int .i64 cx) ∧ (((wA.setCell ⟨g, i * 4, none⟩ (.int .i64 px)).setCell ⟨g, i * 4 + 1, none⟩ (.int .i64 py)).setCell ⟨g, i * 4 + 2, none⟩ (.int .i64 pz)).cell? ⟨p9, 3, none⟩ = some (.slice ua (opsAt s i).length uc)) ∧ MapI eI Try.prog 3 (((wA.setCell ⟨g, i * 4, none⟩ (.int .i64 px)).setCell ⟨g, i * 4 + 1, none⟩ (.int .i64 py)).setCell ⟨g, i * 4 + 2, none⟩ (.int .i64 pz)) bM nM (rankF (stL s) (stL s)) cM) := ⟨⟨(World.cell?_setCell_other _ _ _ _ (fun e => by injection e with e; omega)).trans sC.1.1, (World.cell?_setCell_other _ _ _ _ (fun e => by injection e with e; omega)).trans sC.1.2.1, (World.cell?_setCell_other _ _ _ _ (fun e => by injection e with e; omega)).trans sC.1.2.2.1, (World.cell?_setCell_other _ _ _ _ (fun e => by injection e with e; omega)).trans sC.1.2.2.2⟩, sC.2.cell (by show bM ≠ g; omega) _⟩
    refine hK.out _ _ sD (fun _ => ?_)
    clear hK K hc0 hf0 hc3
    refine wpAnyH_done (by kernel_rfl) ?_ _
    have HQC := hid (HCE.out _ HQA.out)
    have hbg2 := HFF.out.bg
    have HBC := hid (((HBA.out.setCell (p := ⟨g, i * 4, none⟩) hbg2 (.int .i64 px)).setCell (p := ⟨g, i * 4 + 1, none⟩) hbg2 (.int .i64 py)).setCell (p := ⟨g, i * 4 + 2, none⟩) hbg2 (.int .i64 pz))
    have hv9 := sD.1.2.2.2
    clear sA sB sC sD hS0 HQA HBA b0 b1 b2 b3
    generalize (((wA.setCell ⟨g, i * 4, none⟩ (.int .i64 px)).setCell ⟨g, i * 4 + 1, none⟩ (.int .i64 py)).setCell ⟨g, i * 4 + 2, none⟩ (.int .i64 pz)) = wB at *
    go_wp2_with fail
    go_loopw [56] (fun k wr => ∃ k' : Nat, k' ≤ (opsAt s i).length ∧ k = .int .i64 (k' : Int) ∧ Hid (CanI s g cap w.heap.size base2 bM bS bK bV nM cM i k' (i + 1) (i + 1) k' k' wr) ∧ Hid (Below w.heap.size w wr)) (fun k _ => (opsAt s i).length - (intOf k).toNat)
    case atStart => exact ⟨0, by omega, rfl, HQC, HBC⟩
    case round =>
     obtain ⟨k, hk, rfl, HQk, HBk⟩ := hrel
     clear hv9 HQC HBC HQ8 HB8
     by_cases hlk : k < (opsAt s i).length
     ·have hkk : (k : Int) < ((opsAt s i).length : Int) := by omega
      have hqk := HQk.out
      have hpk := hqk.mV.lt
      have hOk := HOW.out _ _ _ _ hqk
      have hkl : k < (opsTo s i k i).length := by rw [opsTo_len]; exact hlk
      obtain ⟨g2, cp2, e2, hg2b⟩ := own_first hOk (by omega)
      obtain ⟨rfl, rfl⟩ : ua = some ⟨g2, 0, none⟩ ∧ uc = cp2 := ⟨(Value.slice.inj e2).1, (Value.slice.inj e2).2.2⟩
      obtain ⟨gr, orr, hor, e0, e1, e3⟩ := hOk.ops.at hkl
      cases hor
      rw [opsTo_at hlk hkl] at e0 e1 e3
      simp only [Nat.zero_add] at e0 e1 e3
      have hg2M : g2 < bM := (HFF.out.op hi9 (by rw [HU2.out]; rfl)).2
      have hg2w : w.heap.size ≤ g2 := by have h1 := (HFF.out.op hi9 (b := g2) (by rw [HU2.out]; rfl)).1; have h2 := HB2.out; omega
      have hgg : g ≠ g2 := by have h1 := (HFF.out.op hi9 (b := g2) (by rw [HU2.out]; rfl)).1; have h2 := HFF.out.g2; omega
      have hopn : opsN (s.take i) ≤ 1024 := Nat.le_trans (opsN_le s i) hop
      have hokn : (opsAt s i).length ≤ 1024 := by have h1 := opsN_take s i hi9; have h2 := opsN_le s (i + 1); rw [opsAt_eq hi9]; omega
      have hxo := HXO.out _ (List.getElem_mem hlk)
      have COK := hid (fun wx (q : CanI s g cap w.heap.size base2 bM bS bK bV nM cM i k (i + 1) (i + 1) k k wx) => cof_any bK (opsN (s.take i) + k) (firsts (kTo s i k)) (opsAt s i)[k].key wx q.mK (by omega) hxo.1)
      have COV := hid (fun wx (q : CanI s g cap w.heap.size base2 bM bS bK bV nM cM i k (i + 1) (i + 1) (k + 1) k wx) => cof_any bV (opsN (s.take i) + k + 1) (0 :: firsts (valP (vTo s i k))) (opsAt s i)[k].val wx q.mV (by omega) hxo.2)
      have HSK := hid (fun wa wb (q : CanI s g cap w.heap.size base2 bM bS bK bV nM cM i k (i + 1) (i + 1) k k wa) hM hg => CanI.key (W1 := wb) HFF.out q hlk hM hg)
      have HSV := hid (fun wa wb (q : CanI s g cap w.heap.size base2 bM bS bK bV nM cM i k (i + 1) (i + 1) (k + 1) k wa) hM hg => CanI.val (W1 := wb) HFF.out q hlk hM hg)
      have HSO := hid (fun wx (q : CanI s g cap w.heap.size base2 bM bS bK bV nM cM i k (i + 1) (i + 1) (k + 1) (k + 1) wx) => q.op HFF.out hi9 hlk HU2.out _ (cOp_now hi9 hlk))
      have HTH : Hid (∀ wx, CanI s g cap w.heap.size base2 bM bS bK bV nM cM i k (i + 1) (i + 1) (k + 1) (k + 1) wx → wx.there g2 (k * 3) 3) := hid (fun wx q j hj => by
       have h1 := HOW.out _ _ _ _ q
       have hl3 : (opsTo s i k i).length = (opsAt s i).length := opsTo_len i
       unfold Own at h1
       rw [hl3] at h1
       have h2 := owns_at (j := k * 3 + j) h1 (by omega)
       refine ⟨?_, h2.2⟩
       rw [h2.1]
       have : k * 3 + j < (opV (opsTo s i k i)).length := by rw [opV_len]; omega
       rw [List.getElem?_eq_getElem this]; rfl)
      have hv3 := HVC.out _ _ _ _ hqk
      generalize (opsAt s i)[k] = x at *
      obtain ⟨xw, xk, xv⟩ := x
      simp only at e0 e1 e3 COK COV HSK HSV HSO
      generalize ((posL (firsts (kTo s i k)) xk : Nat) : Int) = pk at *
      generalize ((posL (0 :: firsts (valP (vTo s i k))) xv : Nat) : Int) = pv at *
      obtain ⟨z0, z1, z2⟩ := opBlock wr (.bool xw) (.int .i64 xk) (.int .i64 xv) 45
      have hbx := box_below wr (.cells #[.bool xw, .int .i64 xk, .int .i64 xv] 45)
      have hv3 := (hbx.cell (p := ⟨g, i * 4 + 3, none⟩) (block_lt hv3)).trans hv3
      have hqk8 := hqk.below hbx
      have hbk8 := HBk.out.alloc HBk.out.size (.cells #[.bool xw, .int .i64 xk, .int .i64 xv] 45)
      clear hqk hOk hkl e2 hbx HQk HBk hxo
      go_upto_region 12 with fail
      generalize wr.alloc (.cells #[.bool xw, .int .i64 xk, .int .i64 xv] 45) = w11 at *
      generalize wr.heap.size = p11 at *
      have kd := (Below.refl w11.heap.size w11).drew
      have HQ8 := hid (hqk8.below kd)
      have HB8 := hid hbk8.drew
      have z0 := (kd.cell (p := ⟨p11, 0, none⟩) (block_lt z0)).trans z0
      have z1 := (kd.cell (p := ⟨p11, 1, none⟩) (block_lt z1)).trans z1
      have z2 := (kd.cell (p := ⟨p11, 2, none⟩) (block_lt z2)).trans z2
      have hv3 := (kd.cell (p := ⟨g, i * 4 + 3, none⟩) (block_lt hv3)).trans hv3
      have hd3 : decide ((k : Int) < 0) = false := decide_eq_false (by omega)
      have hd4 : decide (((opsAt s i).length : Int) ≤ (k : Int)) = false := decide_eq_false (by omega)
      have hd5 : decide ((opsAt s i).length ≤ k) = false := decide_eq_false (by omega)
      clear kd hqk8 hbk8 e0 e1 e3
      refine wp_region_held_drew (S := fun wx => ((wx.cell? ⟨p11, 0, none⟩ = some (.bool xw) ∧ wx.cell? ⟨p11, 1, none⟩ = some (.int .i64 xk) ∧ wx.cell? ⟨p11, 2, none⟩ = some (.int .i64 xv)) ∧ wx.cell? ⟨g, i * 4 + 3, none⟩ = some (.slice (some ⟨g2, 0, none⟩) (opsAt s i).length uc))) (by kernel_rfl) ⟨⟨z0, z1, z2⟩, hv3⟩ (fun hS0 => ?_)
      generalize w11.drew = wd at *
      refine tG (some 61) 0 ?vcb0x1 rfl rfl (Or.inl ⟨by rfl, ?hcb0x1⟩) hS0 ?rcb0x1
      case hcb0x1 => (intro w hw; obtain ⟨⟨m0, m1, m2⟩, m3⟩ := hw; go_simp; try (with_reducible rfl))
      try simp only [Act.put, zA, zB, zC]
      refine tG (some 62) 1 ?vcb1x2 rfl rfl (Or.inl ⟨by rfl, ?hcb1x2⟩) hS0 ?rcb1x2
      case hcb1x2 => (intro w hw; obtain ⟨⟨m0, m1, m2⟩, m3⟩ := hw; go_simp; try (with_reducible rfl))
      try simp only [Act.put, zA, zB, zC]
      refine tG (some 63) 2 ?vcb2x3 rfl rfl (Or.inl ⟨by rfl, ?hcb2x3⟩) hS0 ?rcb2x3
      case hcb2x3 => (intro w hw; obtain ⟨⟨m0, m1, m2⟩, m3⟩ := hw; go_simp; try (with_reducible rfl))
      try simp only [Act.put, zA, zB, zC]
      refine tG (some 64) 3 ?vcb3x4 rfl rfl (Or.inl ⟨by rfl, ?hcb3x4⟩) hS0 ?rcb3x4
      case hcb3x4 => (intro w hw; obtain ⟨⟨m0, m1, m2⟩, m3⟩ := hw; go_simp; try (with_reducible rfl))
      try simp only [Act.put, zA, zB, zC]
      refine tG (some 65) 4 ?vcb4x5 rfl rfl (Or.inl ⟨by rfl, ?hcb4x5⟩) hS0 ?rcb4x5
      case hcb4x5 => (intro w hw; obtain ⟨⟨m0, m1, m2⟩, m3⟩ := hw; go_simp; try (with_reducible rfl))
      try simp only [Act.put, zA, zB, zC]
      refine tG (some 66) 5 ?vcb5x6 rfl rfl (Or.inl ⟨by rfl, ?hcb5x6⟩) hS0 ?rcb5x6
      case hcb5x6 => (intro w hw; obtain ⟨⟨m0, m1, m2⟩, m3⟩ := hw; go_simp; try (with_reducible rfl))
      try simp only [Act.put, zA, zB, zC]
      refine tG (some 67) 6 ?vcb6x7 rfl rfl (Or.inl ⟨by rfl, ?hcb6x7⟩) hS0 ?rcb6x7
      case hcb6x7 => (intro w hw; obtain ⟨⟨m0, m1, m2⟩, m3⟩ := hw; go_simp; try (with_reducible rfl))
      try simp only [Act.put, zA, zB, zC]
      refine tG (some 68) 7 ?vcb7x8 rfl rfl (Or.inl ⟨by rfl, ?hcb7x8⟩) hS0 ?rcb7x8
      case hcb7x8 => (intro w hw; obtain ⟨⟨m0, m1, m2⟩, m3⟩ := hw; go_simp; try (with_reducible rfl))
      try simp only [Act.put, zA, zB, zC]
      refine tG (some 69) 8 ?vcb8x9 rfl rfl (Or.inl ⟨by rfl, ?hcb8x9⟩) hS0 ?rcb8x9
      case hcb8x9 => (intro w hw; obtain ⟨⟨m0, m1, m2⟩, m3⟩ := hw; go_simp; try (with_reducible rfl))
      try simp only [Act.put, zA, zB, zC]
      refine tG (some 70) 9 ?vcb9x10 rfl rfl (Or.inl ⟨by rfl, ?hcb9x10⟩) hS0 ?rcb9x10
      case hcb9x10 => (intro w hw; obtain ⟨⟨m0, m1, m2⟩, m3⟩ := hw; go_simp; try (with_reducible rfl))
      try simp only [Act.put, zA, zB, zC]
      refine tG (some 71) 10 ?vcb10x11 rfl rfl (Or.inl ⟨by rfl, ?hcb10x11⟩) hS0 ?rcb10x11
      case hcb10x11 => (intro w hw; obtain ⟨⟨m0, m1, m2⟩, m3⟩ := hw; go_simp; try (with_reducible rfl))
      try simp only [Act.put, zA, zB, zC]
      refine tG (some 73) 12 ?vcb12x12 rfl rfl (Or.inl ⟨by rfl, ?hcb12x12⟩) hS0 ?rcb12x12
      case hcb12x12 => (intro w hw; obtain ⟨⟨m0, m1, m2⟩, m3⟩ := hw; go_simp; try (with_reducible rfl))
      try simp only [Act.put, zA, zB, zC]
      refine tG (some 74) 13 ?vcb13x13 rfl rfl (Or.inl ⟨by rfl, ?hcb13x13⟩) hS0 ?rcb13x13
      case hcb13x13 => (intro w hw; obtain ⟨⟨m0, m1, m2⟩, m3⟩ := hw; go_simp; try (with_reducible rfl))
      try simp only [Act.put, zA, zB, zC]
      refine tG (some 75) 14 ?vcb14x14 rfl rfl (Or.inl ⟨by rfl, ?hcb14x14⟩) hS0 ?rcb14x14
      case hcb14x14 => (intro w hw; obtain ⟨⟨m0, m1, m2⟩, m3⟩ := hw; go_simp; try (with_reducible rfl))
      try simp only [Act.put, zA, zB, zC]
      refine rD 11 rfl (fun K hK => ?_)
      go_simp
      refine (COK.out _ HQ8.out).mono ?_
      rintro e wK ⟨rfl, hMwK, hgwK⟩
      have HQK := hid (HSK.out _ _ HQ8.out hMwK hgwK)
      have swK : ((wK.cell? ⟨p11, 0, none⟩ = some (.bool xw) ∧ wK.cell? ⟨p11, 1, none⟩ = some (.int .i64 xk) ∧ wK.cell? ⟨p11, 2, none⟩ = some (.int .i64 xv)) ∧ wK.cell? ⟨g, i * 4 + 3, none⟩ = some (.slice (some ⟨g2, 0, none⟩) (opsAt s i).length uc)) := ⟨⟨hgwK.cell hS0.1.1 (fun e => absurd (Option.some.inj e) (by show p11 ≠ bK; omega)), hgwK.cell hS0.1.2.1 (fun e => absurd (Option.some.inj e) (by show p11 ≠ bK; omega)), hgwK.cell hS0.1.2.2 (fun e => absurd (Option.some.inj e) (by show p11 ≠ bK; omega))⟩, hgwK.cell hS0.2 (fun e => absurd (Option.some.inj e) (by show g ≠ bK; omega))⟩
      have HBK := hid (HB8.out.grown hgwK HB8.out.size (fun j hj => by cases hj; omega))
      show K _ _
      refine hK.out _ _ swK (fun _ => ?_)
      clear hK K hMwK hgwK
      refine rD 15 rfl (fun K hK => ?_)
      go_simp
      refine (COV.out _ HQK.out).mono ?_
      rintro e wV ⟨rfl, hMwV, hgwV⟩
      have HQV := hid (HSV.out _ _ HQK.out hMwV hgwV)
      have swV : ((wV.cell? ⟨p11, 0, none⟩ = some (.bool xw) ∧ wV.cell? ⟨p11, 1, none⟩ = some (.int .i64 xk) ∧ wV.cell? ⟨p11, 2, none⟩ = some (.int .i64 xv)) ∧ wV.cell? ⟨g, i * 4 + 3, none⟩ = some (.slice (some ⟨g2, 0, none⟩) (opsAt s i).length uc)) := ⟨⟨hgwV.cell swK.1.1 (fun e => absurd (Option.some.inj e) (by show p11 ≠ bV; omega)), hgwV.cell swK.1.2.1 (fun e => absurd (Option.some.inj e) (by show p11 ≠ bV; omega)), hgwV.cell swK.1.2.2 (fun e => absurd (Option.some.inj e) (by show p11 ≠ bV; omega))⟩, hgwV.cell swK.2 (fun e => absurd (Option.some.inj e) (by show g ≠ bV; omega))⟩
      have HBV := hid (HBK.out.grown hgwV HBK.out.size (fun j hj => by cases hj; omega))
      show K _ _
      refine hK.out _ _ swV (fun _ => ?_)
      clear hK K hMwV hgwV
      refine tG (some 77) 16 ?vcb16x17 rfl rfl (Or.inl ⟨by rfl, ?hcb16x17⟩) swV ?rcb16x17
      case hcb16x17 => (intro w hw; obtain ⟨⟨m0, m1, m2⟩, m3⟩ := hw; go_simp; try (with_reducible rfl))
      try simp only [Act.put, zA, zB, zC]
      refine tG (some 78) 17 ?vcb17x18 rfl rfl (Or.inl ⟨by rfl, ?hcb17x18⟩) swV ?rcb17x18
      case hcb17x18 => (intro w hw; obtain ⟨⟨m0, m1, m2⟩, m3⟩ := hw; go_simp; try (with_reducible rfl))
      try simp only [Act.put, zA, zB, zC]
      refine rD 18 rfl (fun K hK => ?_)
      have hth := HTH.out _ HQV.out
      refine wp_store_mid 45 _ _ rfl g2 (k * 3) #[.bool xw, .int .i64 pk, .int .i64 pv] rfl rfl hth (by kernel_rfl) (by simp [Value.oneCell']) ?_
      have sZ : (((wV.setCells g2 (k * 3) [.bool xw, .int .i64 pk, .int .i64 pv]).cell? ⟨p11, 0, none⟩ = some (.bool xw) ∧ (wV.setCells g2 (k * 3) [.bool xw, .int .i64 pk, .int .i64 pv]).cell? ⟨p11, 1, none⟩ = some (.int .i64 xk) ∧ (wV.setCells g2 (k * 3) [.bool xw, .int .i64 pk, .int .i64 pv]).cell? ⟨p11, 2, none⟩ = some (.int .i64 xv)) ∧ (wV.setCells g2 (k * 3) [.bool xw, .int .i64 pk, .int .i64 pv]).cell? ⟨g, i * 4 + 3, none⟩ = some (.slice (some ⟨g2, 0, none⟩) (opsAt s i).length uc)) := ⟨⟨(cell_put (by first | (show g ≠ g2; exact hgg) | (show p11 ≠ g2; omega)) _ _ _).trans swV.1.1, (cell_put (by first | (show g ≠ g2; exact hgg) | (show p11 ≠ g2; omega)) _ _ _).trans swV.1.2.1, (cell_put (by first | (show g ≠ g2; exact hgg) | (show p11 ≠ g2; omega)) _ _ _).trans swV.1.2.2⟩, (cell_put (by first | (show g ≠ g2; exact hgg) | (show p11 ≠ g2; omega)) _ _ _).trans swV.2⟩
      refine hK.out _ _ sZ (fun _ => ?_)
      clear hK K hth
      refine wpAnyH_done (by kernel_rfl) ?_ _
      have HQn := hid (HSO.out _ HQV.out)
      have HBn : Hid (Below w.heap.size w (wV.setCells g2 (k * 3) [.bool xw, .int .i64 pk, .int .i64 pv])) := hid (below_putC (by omega) _ _ _ HBV.out)
      clear hS0 swK swV sZ
      generalize (wV.setCells g2 (k * 3) [.bool xw, .int .i64 pk, .int .i64 pv]) = wZ at *
      go_wp2_with fail
      go_roundw
      case rel => exact ⟨k + 1, by omega, by go_num, HQn, HBn⟩
      case measure => simp [intOf]; omega
     ·obtain rfl : k = (opsAt s i).length := by omega
      have hkk : ¬ ((opsAt s i).length : Int) < ((opsAt s i).length : Int) := by omega
      have HQd := hid (CanI.done HQk.out hi9)
      clear HQk
      go_wp2_with fail
      go_roundw
      case rel => exact ⟨i + 1, by omega, by go_num, HQd, HBk⟩
      case measure => simp [intOf]; omega
   ·obtain rfl : i = s.length := by omega
    have hki : ¬ (s.length : Int) < (s.length : Int) := by omega
    have HCP := hid (HQ.out.copy HFF.out HB2.out (by have := HQ.out.mM.lt; omega))
    clear HQ
    go_wp2_with fail
    go_ret
    exact ⟨⟨_, rfl, _, HCP.out, s', HSR.out.1, by rw [HSR.out.2]; exact cTx_canE s⟩, HB.out⟩
end

section
open Go.RowKit
theorem canof_ok (va : Value) (h : List TxnV) (w : World) (hT : Txns w va h) (hok : ∀ t ∈ h, t.ok) (hsh : Short h) (hc : checkI h = 0) :
  Calls Try.prog 8 #[va] w fun e w' => (∃ v c s, e = .returned v ∧ CopyOf w' w.heap.size v c ∧ IsSrt h s ∧ c.map txE = canE (s.map txE)) ∧ Below w.heap.size w w' := by
 have CC := hid (hcheck_any va h w hT hok hsh)
 rw [hc] at CC
 have CN := hid (fun wx (hx : Below w.heap.size w wx) => cnamed_any va h wx (hT.below hx) hok hc)
 clear hT hok hsh hc
 go_enter Try.func8, Try.ntmps8
 go_wp2_with fail
 refine CC.out.mono ?_
 rintro e w1 ⟨rfl, h1⟩
 have CN1 := hid (CN.out _ h1)
 clear CN CC
 go_wp2_with fail
 refine CN1.out.mono ?_
 rintro e w2 ⟨⟨v, c, s, rfl, hC, hs, hce⟩, h2⟩
 have HR := hid (show ∃ b2, (w.heap.size ≤ b2 ∧ b2 ≤ w2.heap.size) ∧ OwnT w2 w.heap.size v c ∧ (∀ b, v.ownBlock = some b → b < b2) ∧ (∀ t ∈ c, Own w2 b2 t.v t.l) ∧ c.Pairwise ApartT from by
  obtain ⟨b2, x1, x2, x3, x4, x5⟩ := hC
  exact ⟨b2, ⟨Nat.le_trans h1.size x1.1, x1.2⟩, own_base' x2 h1.size, x3, x4, x5⟩)
 have HS := hid (And.intro hs hce)
 have hb := below_then h1 h2
 clear hC hs hce h1 h2 CN1
 go_wp2_with fail
 go_ret
 first | exact ⟨⟨_, rfl, c, HR.out, s, HS.out.1, HS.out.2⟩, hb⟩ | exact ⟨⟨_, c, s, rfl, HR.out, HS.out.1, HS.out.2⟩, hb⟩ | exact ⟨⟨c, HR.out, s, HS.out.1, HS.out.2⟩, hb⟩
theorem canis_ok (va : Value) (h s : List TxnV) (w : World) (hT : Txns w va h) (hok : ∀ t ∈ h, t.ok) (hsh : Short h) (hc : checkI h = 0) (hs : IsSrt h s) :
  Calls Try.prog 10 #[va] w fun e w' => e = .returned (.bool (decide (canE (s.map txE) = h.map txE))) ∧ Below w.heap.size w w' := by
 have CC := hid (hcheck_any va h w hT hok hsh)
 rw [hc] at CC
 have CN := hid (fun wx (hx : Below w.heap.size w wx) => cnamed_any va h wx (hT.below hx) hok hc)
 have HT := hid (fun wx (hx : Below w.heap.size w wx) => hT.below hx)
 have HS := hid hs
 clear hT hok hsh hc hs
 go_enter Try.func10, Try.ntmps10
 go_wp2_with fail
 refine CC.out.mono ?_
 rintro e w1 ⟨rfl, h1⟩
 have CN1 := hid (CN.out _ h1)
 clear CN CC
 go_wp2_with fail
 refine CN1.out.mono ?_
 rintro e w2 ⟨⟨v, c, s2, rfl, hC, hs2, hce⟩, h2⟩
 have hb := below_then h1 h2
 have CS := hid (sameH_any v va c h w2 hC.txns (HT.out _ hb))
 rw [show sameH c h = decide (canE (s.map txE) = h.map txE) from by rw [HS.out |> fun q => srt_eq q hs2, ← hce]; rfl] at CS
 obtain ⟨q, hq⟩ : ∃ q, decide (canE (s.map txE) = h.map txE) = q := ⟨_, rfl⟩
 rw [hq] at CS
 have HQ := hid hq
 clear hq
 clear hC hs2 hce h1 h2 CN1
 go_wp2_with fail
 refine CS.out.mono ?_
 rintro e w3 ⟨rfl, h3⟩
 have hb := below_then hb h3
 go_wp2_with fail
 go_ret
 exact ⟨ret_b HQ.out.symm, hb⟩
theorem cansame_ok (va vb : Value) (h g s u : List TxnV) (w : World) (hT : Txns w va h) (hok : ∀ t ∈ h, t.ok) (hsh : Short h) (hc : checkI h = 0) (hs : IsSrt h s) (hT2 : Txns w vb g) (hok2 : ∀ t ∈ g, t.ok) (hsh2 : Short g) (hc2 : checkI g = 0) (hs2 : IsSrt g u) :
  Calls Try.prog 11 #[va, vb] w fun e w' => e = .returned (.bool (decide (canE (s.map txE) = canE (u.map txE)))) ∧ Below w.heap.size w w' := by
 have CC := hid (hcheck_any va h w hT hok hsh)
 rw [hc] at CC
 have CC2 := hid (fun wx (hx : Below w.heap.size w wx) => hcheck_any vb g wx (hT2.below hx) hok2 hsh2)
 rw [hc2] at CC2
 have CN := hid (fun wx (hx : Below w.heap.size w wx) => cnamed_any va h wx (hT.below hx) hok hc)
 have CN2 := hid (fun wx (hx : Below w.heap.size w wx) => cnamed_any vb g wx (hT2.below hx) hok2 hc2)
 have HS := hid (And.intro hs hs2)
 clear hT hok hsh hc hs hT2 hok2 hsh2 hc2 hs2
 go_enter Try.func11, Try.ntmps11
 go_wp2_with fail
 refine CC.out.mono ?_
 rintro e w1 ⟨rfl, h1⟩
 have CC3 := hid (CC2.out _ h1)
 clear CC CC2
 go_wp2_with fail
 refine CC3.out.mono ?_
 rintro e w2 ⟨rfl, h2⟩
 have hb2 := below_then h1 h2
 have CN1 := hid (CN.out _ hb2)
 clear CN CC3 h1 h2
 go_wp2_with fail
 refine CN1.out.mono ?_
 rintro e w3 ⟨⟨v, c, s2, rfl, hC, hs2, hce⟩, h3⟩
 have hb3 := below_then hb2 h3
 have CN3 := hid (CN2.out _ hb3)
 have HC := hid hC
 have HE := hid (And.intro hs2 hce)
 clear CN1 CN2 h3 hb2 hC hs2 hce
 go_wp2_with fail
 refine CN3.out.mono ?_
 rintro e w4 ⟨⟨v2, c2, s3, rfl, hC2, hs3, hce3⟩, h4⟩
 have hb4 := below_then hb3 h4
 have CS := hid (sameH_any v v2 c c2 w4 (HC.out.txns.below h4) hC2.txns)
 rw [show sameH c c2 = decide (canE (s.map txE) = canE (u.map txE)) from by rw [srt_eq HS.out.1 HE.out.1, srt_eq HS.out.2 hs3, ← HE.out.2, ← hce3]; rfl] at CS
 obtain ⟨q, hq⟩ : ∃ q, decide (canE (s.map txE) = canE (u.map txE)) = q := ⟨_, rfl⟩
 rw [hq] at CS
 have HQ := hid hq
 clear hq
 clear CN3 hb3 hC2 hs3 hce3 h4
 go_wp2_with fail
 refine CS.out.mono ?_
 rintro e w5 ⟨rfl, h5⟩
 have hb := below_then hb4 h5
 go_wp2_with fail
 go_ret
 exact ⟨ret_b HQ.out.symm, hb⟩
def spA (u : Value) : List TxnV := [⟨9, 5, 8, u, [⟨true, 3, 7⟩]⟩]
def spW (u : Value) : List TxnV := [⟨0, 0, 1, u, [⟨true, 0, 1⟩]⟩]
theorem spA_check (u : Value) : checkI (spA u) = 0 := by kernel_rfl
theorem spW_check (u : Value) : checkI (spW u) = 0 := by kernel_rfl
theorem spA_ok (u : Value) : ∀ t ∈ spA u, t.ok := by
 intro t ht
 simp [spA] at ht
 subst ht
 refine ⟨⟨?_, ?_, ?_⟩, ?_⟩
 iterate 3 (simp [IntOk])
 intro o ho; simp at ho; subst ho; simp [OpV.ok, IntOk]
theorem spW_ok (u : Value) : ∀ t ∈ spW u, t.ok := by
 intro t ht
 simp [spW] at ht
 subst ht
 refine ⟨⟨?_, ?_, ?_⟩, ?_⟩
 iterate 3 (simp [IntOk])
 intro o ho; simp at ho; subst ho; simp [OpV.ok, IntOk]
theorem spA_short (u : Value) : Short (spA u) := fun t ht => by simp [spA] at ht; subst ht; simp
theorem spW_short (u : Value) : Short (spW u) := fun t ht => by simp [spW] at ht; subst ht; simp
theorem srt_one (t : TxnV) : IsSrt [t] [t] := ⟨List.Perm.refl _, List.pairwise_singleton _ _⟩
theorem spA_can (u : Value) : canE ((spA u).map txE) = [(0, 0, 1, [⟨true, 0, 1⟩])] := by
 show canE [(9, 5, 8, [⟨true, 3, 7⟩])] = _
 decide +kernel
theorem spW_can (u : Value) : canE ((spW u).map txE) = [(0, 0, 1, [⟨true, 0, 1⟩])] := by
 show canE [(0, 0, 1, [⟨true, 0, 1⟩])] = _
 decide +kernel
theorem lit_txn (w : World) (s b c key val : Int) : Txns ((w.alloc (.cells #[.bool true, .int .i64 key, .int .i64 val] 45)).alloc (.cells #[.int .i64 s, .int .i64 b, .int .i64 c, .slice (some ⟨w.heap.size, 0, none⟩) 1 1] 41)) (.slice (some ⟨w.heap.size + 1, 0, none⟩) 1 1) [⟨s, b, c, .slice (some ⟨w.heap.size, 0, none⟩) 1 1, [⟨true, key, val⟩]⟩] := by
 have hO : Ops _ (.slice (some ⟨w.heap.size, 0, none⟩) 1 1) [⟨true, key, val⟩] := Row.of_owns (World.ownsRow_lit (base := 0) (e := 45) (size := 3) w #[.bool true, .int .i64 key, .int .i64 val] 1 (Nat.zero_le _) (by decide) rfl)
 have hR : Row _ _ 1 4 _ := Row.of_owns (World.ownsRow_lit (base := 0) (e := 41) (size := 4) (w.alloc (.cells #[.bool true, .int .i64 key, .int .i64 val] 45)) #[.int .i64 s, .int .i64 b, .int .i64 c, .slice (some ⟨w.heap.size, 0, none⟩) 1 1] 1 (Nat.zero_le _) (by decide) rfl)
 rw [show (w.alloc (.cells #[.bool true, .int .i64 key, .int .i64 val] 45)).heap.size = w.heap.size + 1 from by simp] at hR
 exact ⟨hR, fun t ht => by
  simp at ht
  subst ht
  exact hO.below (box_below _ _)⟩
theorem speaks22_any (w : World) :
  Calls Try.prog 6 #[] w fun e w' => e = .returned (.bool true) ∧ Below w.heap.size w w' := by
 have C1 := fun (wx : World) => hid (write_op 3 7 wx)
 have C2 := fun (wx : World) => hid (write_op 0 1 wx)
 go_enter Try.func6, Try.ntmps6
 go_wp2_with fail
 refine ((C1 w).out).mono ?_
 rintro e w1 ⟨rfl, hb1⟩
 have HT1 := hid (lit_txn w1 9 5 8 3 7)
 have hx1 := (box_below w1 (.cells #[.bool true, .int .i64 3, .int .i64 7] 45))
 have hx2 := below_then hx1 (box_below (w1.alloc (.cells #[.bool true, .int .i64 3, .int .i64 7] 45)) (.cells #[.int .i64 9, .int .i64 5, .int .i64 8, .slice (some ⟨w1.heap.size, 0, none⟩) 1 1] 41))
 have hb2 := below_then hb1 hx2
 clear hx1 hx2 hb1
 go_upto_region 2 with fail
 generalize (w1.alloc (.cells #[.bool true, .int .i64 3, .int .i64 7] 45)).alloc (.cells #[.int .i64 9, .int .i64 5, .int .i64 8, .slice (some ⟨w1.heap.size, 0, none⟩) 1 1] 41) = w2 at *
 generalize w1.heap.size = a1 at *
 go_wp2_with fail
 refine ((C2 _).out).mono ?_
 rintro e w3 ⟨rfl, hb3⟩
 have HT2 := hid (lit_txn w3 0 0 1 0 1)
 have hx1 := (box_below w3 (.cells #[.bool true, .int .i64 0, .int .i64 1] 45))
 have hx2 := below_then hx1 (box_below (w3.alloc (.cells #[.bool true, .int .i64 0, .int .i64 1] 45)) (.cells #[.int .i64 0, .int .i64 0, .int .i64 1, .slice (some ⟨w3.heap.size, 0, none⟩) 1 1] 41))
 have hb34 := below_then hb3 hx2
 have HTA := hid (HT1.out.below hb34)
 have HB4 := hid (below_then hb2 hb34)
 clear hx1 hx2 hb3 hb2 C1 C2 hb34 HT1
 go_upto_region 3 with fail
 generalize (w3.alloc (.cells #[.bool true, .int .i64 0, .int .i64 1] 45)).alloc (.cells #[.int .i64 0, .int .i64 0, .int .i64 1, .slice (some ⟨w3.heap.size, 0, none⟩) 1 1] 41) = w4 at *
 generalize w3.heap.size = a3 at *
 generalize hu1 : (Value.slice (some ⟨a1, 0, none⟩) 1 1) = u1 at HTA
 generalize hu3 : (Value.slice (some ⟨a3, 0, none⟩) 1 1) = u3 at HT2
 clear hu1 hu3
 have HA := hid (fun wx (hx : Below w4.heap.size w4 wx) => (show Txns wx _ (spA u1) from HTA.out.below hx))
 have HW := hid (fun wx (hx : Below w4.heap.size w4 wx) => (show Txns wx _ (spW u3) from HT2.out.below hx))
 have CO := hid (canof_ok _ (spA u1) w4 (HA.out _ (Below.refl _ _)) (spA_ok _) (spA_short _) (spA_check _))
 have CI1 := hid (fun wx (hx : Below w4.heap.size w4 wx) => canis_ok _ (spA u1) (spA u1) wx (HA.out _ hx) (spA_ok _) (spA_short _) (spA_check _) (srt_one _))
 rw [show decide (canE ((spA u1).map txE) = (spA u1).map txE) = false from by rw [spA_can]; rfl] at CI1
 have CI2 := hid (fun wx (hx : Below w4.heap.size w4 wx) => canis_ok _ (spW u3) (spW u3) wx (HW.out _ hx) (spW_ok _) (spW_short _) (spW_check _) (srt_one _))
 rw [show decide (canE ((spW u3).map txE) = (spW u3).map txE) = true from by rw [spW_can]; rfl] at CI2
 have CS := hid (fun wx (hx : Below w4.heap.size w4 wx) => cansame_ok _ _ (spA u1) (spW u3) (spA u1) (spW u3) wx (HA.out _ hx) (spA_ok _) (spA_short _) (spA_check _) (srt_one _) (HW.out _ hx) (spW_ok _) (spW_short _) (spW_check _) (srt_one _))
 rw [show decide (canE ((spA u1).map txE) = canE ((spW u3).map txE)) = true from by rw [spA_can, spW_can]; rfl] at CS
 clear HTA HT2 HA
 go_wp2_with fail
 refine CO.out.mono ?_
 rintro e w5 ⟨⟨v, c, s, rfl, hC, hs, hce⟩, h5⟩
 have hss : s = spA u1 := (srt_eq hs (srt_one _))
 have C6 := hid (sameH_any v _ c (spW u3) w5 hC.txns (HW.out _ h5))
 rw [show sameH c (spW u3) = true from by unfold sameH; rw [hce, hss, spA_can]; rfl] at C6
 clear CO hC hs hce hss HW
 go_wp2_with fail
 refine C6.out.mono ?_
 rintro e w6 ⟨rfl, h6⟩
 have h6 := below_then h5 h6
 have D1 := hid (CI1.out _ h6)
 clear C6 CI1 h5
 go_wp2_with fail
 refine D1.out.mono ?_
 rintro e w7 ⟨rfl, h7⟩
 have h7 := below_then h6 h7
 have D2 := hid (CI2.out _ h7)
 clear D1 CI2 h6
 go_wp2_with fail
 refine D2.out.mono ?_
 rintro e w8 ⟨rfl, h8⟩
 have h8 := below_then h7 h8
 have D3 := hid (CS.out _ h8)
 clear D2 CS h7
 go_wp2_with fail
 refine D3.out.mono ?_
 rintro e w9 ⟨rfl, h9⟩
 have h9 := below_then h8 h9
 have hz := below_then HB4.out h9
 clear D3 h8 h9
 go_wp2_with fail
 go_ret
 exact ⟨rfl, hz⟩
end

section
open Go.RowKit
theorem Row.grown {w w' : World} {v : Value} {n size : Nat} {cs : List Value} {row : Option Nat} (h : Row w v n size cs) (hg : w.grownBy w' row) (hne : ∀ b, row = some b → v.ownBlock ≠ some b) : Row w' v n size cs := by
 obtain ⟨hl, ao, cap, rfl, hm, hno, hc⟩ := h
 refine ⟨hl, ao, cap, rfl, hm, hno, fun hn => ?_⟩
 obtain ⟨b, off, rfl, hcell⟩ := hc hn
 refine ⟨b, off, rfl, fun i hi => ?_⟩
 have h2 := hcell i hi
 rw [List.getElem?_eq_getElem (by omega)] at h2 ⊢
 exact hg.cell h2 (fun e => hne b e.symm rfl)
theorem txV_drop (h : List TxnV) (k : Nat) : txV (h.drop k) = (txV h).drop (k * 4) := by
 have e := congrArg txV (List.take_append_drop k h)
 rw [txV_app] at e
 rcases Nat.lt_or_ge k h.length with q | q
 ·have hl : (txV (h.take k)).length = k * 4 := by rw [txV_len, List.length_take]; omega
  rw [← e, List.drop_append_of_le_length (by omega), List.drop_of_length_le (l := txV (h.take k)) (by omega), List.nil_append]
 ·rw [List.drop_of_length_le q, List.drop_of_length_le (l := txV h) (by rw [txV_len]; omega)]; rfl
theorem txV_tak (h : List TxnV) (k : Nat) : txV (h.take k) = (txV h).take (k * 4) := by
 have e := congrArg txV (List.take_append_drop k h)
 rw [txV_app] at e
 rcases Nat.lt_or_ge k h.length with q | q
 ·have hl : (txV (h.take k)).length = k * 4 := by rw [txV_len, List.length_take]; omega
  rw [← e, List.take_append_of_le_length (by omega), List.take_of_length_le (l := txV (h.take k)) (by omega)]
 ·rw [List.take_of_length_le q, List.take_of_length_le (l := txV h) (by rw [txV_len]; omega)]
theorem txV_memb {h : List TxnV} {u : Value} : u ∈ txV h ↔ ∃ t ∈ h, u = .int .i64 t.s ∨ u = .int .i64 t.b ∨ u = .int .i64 t.c ∨ u = t.v := by unfold txV; simp [List.mem_flatMap]
structure SrtAt (h acc L : List TxnV) : Prop where
 perm : (acc ++ L).Perm h
 srt : acc.Pairwise fun t u => t.b < u.b
 ahead : ∀ t ∈ acc, ∀ u ∈ L, t.b < u.b
section
variable {h acc L : List TxnV}
theorem SrtAt.first (h : List TxnV) : SrtAt h [] h := ⟨List.Perm.refl _, List.Pairwise.nil, fun t ht => by cases ht⟩
theorem SrtAt.done (q : SrtAt h acc []) : IsSrt h acc := ⟨by have := q.perm; rwa [List.append_nil] at this, q.srt⟩
theorem SrtAt.next (q : SrtAt h acc L) (hn : (h.map (·.b)).Nodup) {k : Nat} (hk : k < L.length) (hm : ∀ i (hi : i < L.length), L[k].b ≤ L[i].b) : SrtAt h (acc ++ [L[k]]) (L.take k ++ L.drop (k + 1)) := by
 have eL : L = L.take k ++ L[k] :: L.drop (k + 1) := by rw [← List.drop_eq_getElem_cons hk, List.take_append_drop]
 have hnd : ((acc ++ L).map (·.b)).Nodup := (q.perm.map _).nodup_iff.2 hn
 rw [List.map_append, List.nodup_append] at hnd
 have hL := hnd.2.1
 have hmin : ∀ u ∈ L.take k ++ L.drop (k + 1), L[k].b < u.b := fun u hu => by
  have hu2 : u ∈ L := by
   rcases List.mem_append.1 hu with e | e
   ·exact List.mem_of_mem_take e
   ·exact List.mem_of_mem_drop e
  obtain ⟨i, hi, rfl⟩ := List.mem_iff_getElem.1 hu2
  have h1 := hm i hi
  have h2 : L[k].b ≠ L[i].b := fun e => by
   rw [eL, List.map_append, List.map_cons, List.nodup_append, List.nodup_cons] at hL
   rcases List.mem_append.1 hu with x | x
   ·exact hL.2.2 _ (List.mem_map_of_mem x) _ (List.mem_cons_self ..) e.symm
   ·exact hL.2.1.1 (e ▸ List.mem_map_of_mem (f := fun t : TxnV => t.b) x)
  omega
 refine ⟨?_, ?_, ?_⟩
 ·rw [List.append_assoc, List.singleton_append]
  refine List.Perm.trans ?_ q.perm
  conv => rhs; rw [eL]
  exact List.perm_middle.symm.append_left acc
 ·rw [List.pairwise_append]
  refine ⟨q.srt, List.pairwise_singleton _ _, fun t ht u hu => ?_⟩
  rw [List.mem_singleton] at hu; subst hu
  exact q.ahead t ht _ (List.getElem_mem hk)
 ·intro t ht u hu
  rcases List.mem_append.1 ht with ht | ht
  ·refine q.ahead t ht u ?_
   rcases List.mem_append.1 hu with e | e
   ·exact List.mem_of_mem_take e
   ·exact List.mem_of_mem_drop e
  ·rw [List.mem_singleton] at ht; subst ht
   exact hmin u hu
theorem SrtAt.mem (q : SrtAt h acc L) {t : TxnV} (ht : t ∈ L) : t ∈ h := q.perm.mem_iff.1 (List.mem_append.2 (.inr ht))
theorem SrtAt.len (q : SrtAt h acc L) : acc.length + L.length = h.length := by rw [← List.length_append]; exact q.perm.length_eq
theorem SrtAt.one (q : SrtAt h acc L) (ho : ∀ u ∈ txV h, u.oneCell' = true) : ∀ u ∈ txV L, u.oneCell' = true := fun u hu => by
 obtain ⟨t, ht, e⟩ := txV_memb.1 hu
 exact ho u (txV_memb.2 ⟨t, q.mem ht, e⟩)
end
theorem rows_form {w : World} {v : Value} {l : List TxnV} (h : Row w v l.length 4 (txV l)) : ∃ ao cap, v = .slice ao l.length cap ∧ (l.length ≤ cap ∧ cap ≤ 9223372036854775807) ∧ (ao = none → l.length = 0) := by
 obtain ⟨_, ao, cap, rfl, hm, hno, _⟩ := h
 exact ⟨ao, cap, rfl, hm, fun e => (hno e).1⟩
theorem rows_at {w : World} {ao : Option Addr} {n cap : Nat} {l : List TxnV} (h : Row w (.slice ao n cap) l.length 4 (txV l)) {k : Nat} (hk : k < l.length) :
  ∃ b off, ao = some ⟨b, off, none⟩ ∧ w.cell? ⟨b, off + k * 4, none⟩ = some (.int .i64 l[k].s) ∧ w.cell? ⟨b, off + k * 4 + 1, none⟩ = some (.int .i64 l[k].b) ∧ w.cell? ⟨b, off + k * 4 + 2, none⟩ = some (.int .i64 l[k].c) ∧ w.cell? ⟨b, off + k * 4 + 3, none⟩ = some l[k].v := by
 obtain ⟨_, ao', cap', he, hm, _, hc⟩ := h
 obtain ⟨rfl, _, _⟩ : ao = ao' ∧ n = l.length ∧ cap = cap' := by simpa using he
 obtain ⟨b, off, rfl, hcell⟩ := hc (by omega)
 obtain ⟨h0, h1, h2, h3⟩ := txV_at l k hk
 refine ⟨b, off, rfl, ?_, ?_, ?_, ?_⟩
 ·rw [hcell (k * 4) (by omega), h0]
 ·rw [Nat.add_assoc, hcell (k * 4 + 1) (by omega), h1]
 ·rw [Nat.add_assoc, hcell (k * 4 + 2) (by omega), h2]
 ·rw [Nat.add_assoc, hcell (k * 4 + 3) (by omega), h3]
theorem row4_newR (w : World) (x y z u : Value) (t : TypeId) : ∀ j v, [x, y, z, u][j]? = some v → (w.alloc (.cells #[x, y, z, u] t)).cell? ((⟨w.heap.size, 0, none⟩ : Addr).add j) = some v := by
 intro j v hj
 obtain ⟨c0, c1, c2, c3⟩ := txnBlock w x y z u t
 match j, hj with
 | 0, hu => simp at hu; subst hu; exact c0
 | 1, hu => simp at hu; subst hu; exact c1
 | 2, hu => simp at hu; subst hu; exact c2
 | 3, hu => simp at hu; subst hu; exact c3
 | j + 4, hu => simp at hu
theorem rows_slice {l : List TxnV} (hv : ∀ t ∈ l, ∃ a n c, t.v = .slice a n c) {k : Nat} (hk : k < l.length) : ∃ a n c, l[k].v = .slice a n c := hv _ (List.getElem_mem hk)
theorem rows_part {w : World} {g o n cap : Nat} {L : List TxnV} (h : Row w (.slice (some ⟨g, o, none⟩) n cap) L.length 4 (txV L)) (k : Nat) :
  ∀ j u, (txV (L.drop k))[j]? = some u → w.cell? ((⟨g, o + k * 4, none⟩ : Addr).add j) = some u := fun j u hu => by
 obtain rfl : n = L.length := by
  obtain ⟨_, ao', cap', he, _⟩ := h
  exact (Value.slice.inj he).2.1
 rw [txV_drop] at hu
 exact Row.part h k j u hu
theorem rsorted22_any (va : Value) (h : List TxnV) (w : World) (hT : Txns w va h) (hn : (h.map (·.b)).Nodup) (hl : h.length ≤ 1000) :
  Calls Try.prog 23 #[va] w fun e w' => (∃ v s, e = .returned v ∧ OwnT w' w.heap.size v s ∧ IsSrt h s) ∧ Below w.heap.size w w' := by
 obtain ⟨i0, hi, hz0, hz1, hz2⟩ := info_parts infoTxn
 have HN := hid hn
 have HONE := hid (txV_one hT)
 have HV : Hid (∀ t ∈ h, ∃ a n c, t.v = .slice a n c) := hid (fun t ht => by
  obtain ⟨_, ao, cap, e, _⟩ := hT.2 t ht
  exact ⟨ao, _, cap, e⟩)
 obtain ⟨ao, cap, rfl, hal⟩ := hT.form
 have hR := hT.1
 clear hn hT
 go_enter Try.func23, Try.ntmps23
 have hbx := (Below.refl w.heap.size w).alloc (Nat.le_refl _) (.cells #[] 41)
 have hO1 := hid (World.ownsRow_made (base := w.heap.size) (e := 41) (size := 4) w #[] 0 (Nat.le_refl _) (by decide) rfl)
 have hO2 : World.ownsRow ((w.alloc (.cells #[] 41)).alloc (.cells #[] 41)) (w.heap.size + 1) 41 4 (.slice (some ⟨w.heap.size + 1, 0, none⟩) 0 0) 0 [] := by
  have q := World.ownsRow_lit (base := w.heap.size + 1) (e := 41) (size := 4) (w.alloc (.cells #[] 41)) #[] 0 (by simp) (by decide) rfl
  rwa [World.size_alloc] at q
 go_wp2_with (first | (at_builtin; refine wpList_append_row rfl _ _ 22 rfl (w.heap.size + 1) 41 i0 (.agg #[.int .i64 0, .int .i64 0, .int .i64 0, .slice none 0 0]) 4 48 Try.underlying22 hi hz0 hz1 hz2 rfl (by decide) _ 0 [] rfl hO2 _ h.length _ rfl ((hR.below hbx).below ((Below.refl _ _).alloc (Nat.le_refl _) _)) ?d1 ?d2 ?d3 ?d4 ?_) | go_in)
 case d1 => exact HONE.out
 case d2 => unfold maxLen; omega
 case d3 => omega
 case d4 => simp
 intro v5 w5 hown5 hg5
 have hO5 : OwnT w5 (w.heap.size + 1) v5 h := by
  refine ⟨by rw [txV_len], ?_⟩
  have := hown5.2
  simpa using this
 have hb15 : Below (w.alloc (.cells #[] 41)).heap.size (w.alloc (.cells #[] 41)) w5 := ((Below.refl _ _).alloc (Nat.le_refl _) (.cells #[] 41)).grown hg5 (by simp) (by intro k hk; simp [Value.ownBlock] at hk; simp; omega)
 have hb5 : Below w.heap.size w w5 := hbx.trans (hb15.mono (by simp))
 have hA5 : OwnT w5 w.heap.size (.slice (some ⟨w.heap.size, 0, none⟩) 0 0) [] := owns_below hO1.out hb15
 have hap5 : ∀ b, (Value.slice (some ⟨w.heap.size, 0, none⟩) 0 0).ownBlock = some b → v5.ownBlock ≠ some b := fun b h1 h2 => by
  have q := (World.ownsRow.lt hO5 b h2).1
  simp [Value.ownBlock] at h1
  omega
 have hR5 := hO5.row
 clear hown5 hg5 hO5 hb15 hO1 hO2 hR hbx
 go_wp2_with fail
 go_loopw [3, 4] (fun vo vl wr => ∃ acc L, Hid (SrtAt h acc L) ∧ OwnT wr w.heap.size vo acc ∧ Row wr vl L.length 4 (txV L) ∧ Hid (∀ b, vo.ownBlock = some b → vl.ownBlock ≠ some b) ∧ Below w.heap.size w wr) (fun _ vl _ => lenV vl)
 case atStart => exact ⟨[], h, hid (SrtAt.first h), hA5, hR5, hid hap5, hb5⟩
 case round =>
  obtain ⟨acc, L, HS, hA, hR, HAP, hb⟩ := hrel
  have hll := HS.out.len
  have hll1 : L.length ≤ 1000 := by omega
  have hll2 : acc.length ≤ 1000 := by omega
  clear hll
  obtain ⟨lo, lcap, rfl, ⟨hlc, hlm⟩, hno⟩ := rows_form hR
  rcases Nat.eq_zero_or_pos L.length with h0 | h0
  ·have hq : ¬ (0 : Int) < (L.length : Int) := by omega
   have hs : IsSrt h acc := by
    have := List.eq_nil_of_length_eq_zero h0
    have q := HS.out
    rw [this] at q
    exact q.done
   have HSR := hid hs
   clear hs hno h0
   go_wp2_with fail
   go_ret
   exact ⟨⟨_, rfl, _, hA, HSR.out⟩, hb⟩
  ·have hq : (0 : Int) < (L.length : Int) := by omega
   obtain ⟨g, o, hgo, _⟩ := rows_at hR (k := 0) h0
   subst hgo
   clear hno
   have HR := hid (fun wx (hx : Below wr.heap.size wr wx) => Row.below hR hx)
   have HA := hid hA
   have HB := hid hb
   clear hR hA hb
   go_wp2_with fail
   go_loopw [5, 6] (fun vk vi wq => ∃ k i : Nat, k < L.length ∧ i ≤ L.length ∧ vk = .int .i64 (k : Int) ∧ vi = .int .i64 (i : Int) ∧ Hid (∀ (hk : k < L.length) (j : Nat) (hj : j < L.length), j < i → L[k].b ≤ L[j].b) ∧ Hid (Below wr.heap.size wr wq)) (fun _ vi _ => L.length - (intOf vi).toNat)
   case atStart => exact ⟨0, 0, h0, by omega, rfl, rfl, hid (fun _ j _ hj => absurd hj (Nat.not_lt_zero _)), hid (Below.refl _ _)⟩
   case round =>
    obtain ⟨k, i, hk, hi', rfl, rfl, HM, HBQ⟩ := hrel
    have hki : (k : Int) < (L.length : Int) := by omega
    by_cases hlt : i < L.length
    ·have hii : (i : Int) < (L.length : Int) := by omega
     obtain ⟨g1, o1, e1, _, d1, _⟩ := rows_at (HR.out _ HBQ.out) hk
     cases e1
     obtain ⟨g2, o2, e2, _, d2, _⟩ := rows_at (HR.out _ HBQ.out) hlt
     cases e2
     have HY : Hid (L[i].b < L[k].b → ∀ (hk : i < L.length) (j : Nat) (hj : j < L.length), j < i + 1 → L[i].b ≤ L[j].b) := hid (fun e hk j hj q => by
      rcases Nat.lt_or_ge j i with z | z
      ·have := HM.out (by omega) j hj z; omega
      ·obtain rfl : j = i := by omega
       exact Int.le_refl _)
     have HN2 : Hid (¬ L[i].b < L[k].b → ∀ (hk : k < L.length) (j : Nat) (hj : j < L.length), j < i + 1 → L[k].b ≤ L[j].b) := hid (fun e hk j hj q => by
      rcases Nat.lt_or_ge j i with z | z
      ·exact HM.out (by omega) j hj z
      ·obtain rfl : j = i := by omega
       omega)
     generalize L[i].b = x at *
     generalize L[k].b = y at *
     by_cases hxy : x < y
     ·have hxd : decide (x < y) = true := decide_eq_true hxy
      have HM2 := hid (HY.out hxy)
      clear HY HN2 HM
      go_wp2_with fail
      go_quiet (fail)
      go_wp2_with fail
      go_roundw
      case rel => exact ⟨i, i + 1, hlt, by omega, rfl, by go_num, HM2, hid (below_drewN HBQ.out _)⟩
      case measure => simp [intOf]; omega
     ·have hxd : decide (x < y) = false := decide_eq_false hxy
      have HM2 := hid (HN2.out hxy)
      clear HY HN2 HM
      go_wp2_with fail
      go_quiet (fail)
      go_wp2_with fail
      go_roundw
      case rel => exact ⟨k, i + 1, hk, by omega, rfl, by go_num, HM2, hid (below_drewN HBQ.out _)⟩
      case measure => simp [intOf]; omega
    ·obtain rfl : i = L.length := by omega
     have hii : ¬ (L.length : Int) < (L.length : Int) := by omega
     have HNX := hid (HS.out.next HN.out hk (fun j hj => HM.out hk j hj hj))
     have hAq := owns_below HA.out HBQ.out
     have HRq := hid (HR.out _ HBQ.out)
     have hbq := below_then HB.out HBQ.out
     obtain ⟨g1, o1, e1, c0, c1, c2, c3⟩ := rows_at HRq.out hk
     cases e1
     obtain ⟨ua, un, uc, hu⟩ := rows_slice (l := L) (fun t ht => HV.out t (HS.out.mem ht)) hk
     rw [hu] at c3
     have HL : Hid (txV (acc ++ [L[k]]) = txV acc ++ [.int .i64 L[k].s, .int .i64 L[k].b, .int .i64 L[k].c, .slice ua un uc]) := hid (by rw [txV_app, ← hu]; rfl)
     have hlk : (acc ++ [L[k]]).length = acc.length + 1 := by simp
     have HONE2 := hid (HS.out.one HONE.out)
     have hbs := hbq.size
     clear HM HA HR hu
     generalize L[k] = t at *
     obtain ⟨s, b, cc, tv, tl⟩ := t
     simp only at c0 c1 c2 HL
     go_wp2_with (first | (at_builtin; refine wpList_append_own _ rfl _ _ 22 rfl w.heap.size 41 i0 (.agg #[.int .i64 0, .int .i64 0, .int .i64 0, .slice none 0 0]) 4 48 Try.underlying22 hi hz0 hz1 hz2 rfl (by decide) _ _ _ rfl (hAq.alloc _) ⟨_, 0, none⟩ 1 1 [.int .i64 s, .int .i64 b, .int .i64 cc, .slice ua un uc] rfl rfl ?c1 ?c2 ?c3 ?c4 ?c5 ?_) | go_in)
     case c2 => exact ⟨rfl, rfl, rfl, rfl⟩
     case c3 => unfold maxLen; omega
     case c4 => omega
     case c5 => omega
     intro v6 w6 hown6 hg6 _
     have hO6 : OwnT w6 w.heap.size v6 (acc ++ [⟨s, b, cc, tv, tl⟩]) := by
      unfold OwnT
      rw [HL.out, hlk]
      exact hown6
     have hb6 : Below w.heap.size w w6 := below_app hbq (Nat.le_refl _) hAq hg6
     have hR6 := ((HRq.out).below ((Below.refl _ _).alloc (Nat.le_refl _) (.cells #[.int .i64 s, .int .i64 b, .int .i64 cc, .slice ua un uc] 41))).grown hg6 HAP.out
     clear hown6 hg6 hAq c0 c1 c2 c3 HAP HBQ HB hbq HRq HL hlk hbs
     have hs6 := hb6.size
     have hW : Below w6.heap.size w6 (w6.drew.alloc (.cells #[] 41)) := (⟨rfl, rfl, rfl, Nat.le_refl _, fun _ _ => rfl⟩ : Below w6.heap.size w6 w6.drew).alloc (Nat.le_refl _) _
     have HOW := hid (World.ownsRow_made (base := w6.heap.size) (e := 41) (size := 4) w6.drew #[] 0 (Nat.le_refl _) (by decide) rfl)
     obtain ⟨A, hA, HC2⟩ : ∃ A : Addr, (if lcap = k + 1 then some (⟨g, o, none⟩ : Addr) else some ⟨g, o + (k + 1) * 4, none⟩) = some A ∧ Hid (∀ w7, Below w6.heap.size w6 w7 → ∀ i u, (txV (L.drop (k + 1)))[i]? = some u → w7.cell? (A.add i) = some u) := by
      by_cases h : lcap = k + 1
      ·refine ⟨⟨g, o, none⟩, by simp [h], hid fun w7 hb7 i u hu => ?_⟩
       rw [List.drop_eq_nil_of_le (by omega)] at hu
       simp [txV] at hu
      ·exact ⟨⟨g, o + (k + 1) * 4, none⟩, by simp [h], hid fun w7 hb7 => rows_part (hR6.below hb7) (k + 1)⟩
     have HC1 : Hid (∀ i u, (txV (L.take k))[i]? = some u → (w6.drew.alloc (.cells #[] 41)).cell? ((⟨g, o, none⟩ : Addr).add i) = some u) := hid (fun i u hu => by
      have hi : i < k * 4 := by
       have := (List.getElem?_eq_some_iff.1 hu).1
       rw [txV_len, List.length_take] at this; omega
      refine rows_part (hR6.below hW) 0 i u ?_
      rw [List.drop_zero, ← hu, txV_tak, List.getElem?_take, if_pos hi])
     have s1 : Hid ((txV (L.take k)).length = k * 4) := hid (by rw [txV_len, List.length_take]; omega)
     have s2 : Hid (∀ u ∈ txV (L.take k), u.oneCell' = true) := hid (fun u hu => HONE2.out u (by rw [txV_tak] at hu; exact List.mem_of_mem_take hu))
     have t1 : Hid ((txV (L.drop (k + 1))).length = (L.length - (k + 1)) * 4) := hid (by rw [txV_len, List.length_drop])
     have t2 : Hid (∀ u ∈ txV (L.drop (k + 1)), u.oneCell' = true) := hid (fun u hu => HONE2.out u (by rw [txV_drop] at hu; exact List.mem_of_mem_drop hu))
     have HS5 : Hid (w6.heap.size ≤ (w6.drew.alloc (.cells #[] 41)).heap.size) := hid hW.size
     have HB7 : Hid (∀ w7, (w6.drew.alloc (.cells #[] 41)).grownBy w7 (some w6.heap.size) → Below w6.heap.size w6 w7) := hid (fun w7 hg => hW.grown hg hW.size (fun k hk => by cases hk; exact Nat.le_refl _))
     have hjc : k ≤ lcap := by omega
     have hwr : IntKind.i64.wrap ((k : Int) + 1) = (k : Int) + 1 := by rw [IntKind.wrap_i64]; omega
     have hp0 : (0 : Int) ≤ (k : Int) + 1 := by omega
     have hp1 : (k : Int) + 1 ≤ (L.length : Int) := by omega
     have hp2 : ((k : Int) + 1).toNat = k + 1 := by omega
     have HR6 := hid hR6
     have HO6 := hid hO6
     clear hR6 hO6 hW
     go_wp2_with fail
     go_region_law (first
      | (refine step_app _ rfl (.tmp 43) (.tmp 47) 22 rfl w6.heap.size 41 i0 (.agg #[.int .i64 0, .int .i64 0, .int .i64 0, .slice none 0 0]) 4 48 Try.underlying22 hi hz0 hz1 hz2 rfl (by decide) v7 (0 + k) _ (by simp [Act.eval]) hown7 A (L.length - (k + 1)) (lcap - (k + 1)) _ (by simp [Act.eval]) t1.out (HC2.out _ (HB7.out _ hg7)) t2.out (by unfold maxLen; omega) (by omega) (Nat.le_trans HS5.out hg7.size) ?_; intro v8 w8 hown8 hg8)
      | (refine step_app _ rfl (.tmp 39) (.tmp 42) 22 rfl w6.heap.size 41 i0 (.agg #[.int .i64 0, .int .i64 0, .int .i64 0, .slice none 0 0]) 4 48 Try.underlying22 hi hz0 hz1 hz2 rfl (by decide) _ 0 [] (by simp [Act.eval]) HOW.out ⟨g, o, none⟩ k lcap _ (by simp [Act.eval]) s1.out HC1.out s2.out (by unfold maxLen; omega) (by omega) HS5.out ?_; intro v7 w7 hown7 hg7))
     have hb8 : Below w6.heap.size w6 w8 := (HB7.out _ hg7).trans ((Below.refl _ _).grown hg8 (Nat.le_trans HS5.out hg7.size) (fun k hk => (hown7.lt k hk).1))
     have hR8 : Row w8 v8 (L.take k ++ L.drop (k + 1)).length 4 (txV (L.take k ++ L.drop (k + 1))) := by
      rw [txV_app, List.length_append, List.length_take, List.length_drop, Nat.min_eq_left (by omega)]
      have := Row.of_owns hown8
      rw [Nat.zero_add] at this
      exact this
     have hlv := owns_lenV hown8
     have hap8 : ∀ b, v6.ownBlock = some b → v8.ownBlock ≠ some b := fun b h6 h8 => by
      have := (World.ownsRow.lt HO6.out b h6).2
      have := (hown8.lt b h8).1
      omega
     have ho8 : OwnT w8 w.heap.size v6 (acc ++ [⟨s, b, cc, tv, tl⟩]) := OwnT.below HO6.out hb8
     have hbe := hb6.trans (hb8.mono hs6)
     go_simp
     go_wp2
     go_roundw
     case rel => exact ⟨acc ++ [⟨s, b, cc, tv, tl⟩], L.take k ++ L.drop (k + 1), HNX, ho8, hR8, hid hap8, hbe⟩
     case measure => rw [hlv]; simp [lenV]; omega
end

section
open Go.RowKit
def BoxN (w : World) (p : Nat) (t : TypeId) (cs : Array Value) : Prop := w.heap[p]? = some (.cells cs t (0, 0))
section
variable {w w' : World} {p : Nat} {t : TypeId} {cs : Array Value}
theorem BoxN.lt (h : BoxN w p t cs) : p < w.heap.size := (Array.getElem?_eq_some_iff.1 h).1
theorem BoxN.cell (h : BoxN w p t cs) {i : Nat} {v : Value} (hv : cs[i]? = some v) : w.cell? ⟨p, i, none⟩ = some v := by rw [cell_of_row w p i _ _ _ h]; exact hv
theorem BoxN.free (h : BoxN w p t cs) (i : Nat) : w.frozen? ⟨p, i, none⟩ = false := frozen_of_row w p i _ _ h
theorem BoxN.new (w : World) (t : TypeId) (cs : Array Value) : BoxN (w.alloc (.cells cs t)) w.heap.size t cs := World.alloc_heap_new w _
theorem BoxN.below (h : BoxN w p t cs) (hb : Below w.heap.size w w') : BoxN w' p t cs := (hb.block p h.lt).trans h
theorem BoxN.kept {row : Option Nat} (h : BoxN w p t cs) (hg : w.grownBy w' row) (hne : some p ≠ row) : BoxN w' p t cs := (hg.block p h.lt hne).trans h
theorem BoxN.set (h : BoxN w p t cs) (i : Nat) (v : Value) : BoxN (w.setCell ⟨p, i, none⟩ v) p t (cs.setIfInBounds i v) := heap_setCell_same w p i cs t v h
theorem BoxN.far (h : BoxN w p t cs) {a : Addr} (ha : p ≠ a.block) (v : Value) : BoxN (w.setCell a v) p t cs := (heap_setCell_other w a p v ha).trans h
end
theorem owns_no_box {w : World} {b : Nat} {e t : TypeId} {s n p : Nat} {v : Value} {xs : List Value} {cs : Array Value} (h : w.ownsRow b e s v n xs) (k : BoxN w p t cs) (hne : e ≠ t) : v.ownBlock = none ∨ v.ownBlock ≠ some p := by
 rcases h.2 with ⟨rfl, _⟩ | ⟨g, c, cur, rfl, _, hh, _⟩
 ·exact .inl rfl
 ·right
  intro e2
  simp [Value.ownBlock] at e2
  subst e2
  unfold BoxN at k
  rw [hh] at k
  injection k with k
  injection k with _ k
  exact hne k
theorem grown_set (w : World) (a : Addr) (u : Value) : w.grownBy (w.setCell a u) (some a.block) :=
 ⟨rfl, rfl, rfl, by simp, fun k _ hk => Below.heap_setCell w a u k (fun e => hk (by rw [e]))⟩
theorem owns_weak {w : World} {b b' : Nat} {e : TypeId} {s n : Nat} {v : Value} {xs : List Value} (h : w.ownsRow b e s v n xs) (hb : b' ≤ b) : w.ownsRow b' e s v n xs := by
 refine ⟨h.1, ?_⟩
 rcases h.2 with q | ⟨g, c, cur, e1, e2, r⟩
 ·exact .inl q
 ·exact .inr ⟨g, c, cur, e1, Nat.le_trans hb e2, r⟩
def IntO (w : World) (b : Nat) (v : Value) (L : List Int) : Prop := w.ownsRow b 3 1 v L.length (L.map (Value.int .i64))
section
variable {w w' : World} {b : Nat} {v : Value} {L : List Int}
theorem IntO.ints (h : IntO w b v L) : Ints w v L := Ints.of_owns h
theorem IntO.below (h : IntO w b v L) (hb : Below w.heap.size w w') : IntO w' b v L := owns_below h hb
theorem IntO.box {p : Nat} {t : TypeId} {cs : Array Value} (h : IntO w b v L) (k : BoxN w p t cs) (hne : 3 ≠ t) (hg : w.grownBy w' (some p)) : IntO w' b v L := World.ownsRow.kept h hg (owns_no_box h k hne)
theorem IntO.lit (w : World) {b : Nat} (hb : b ≤ w.heap.size) : IntO (w.alloc (.cells #[] 3)) b (.slice (some ⟨w.heap.size, 0, none⟩) 0 0) [] := World.ownsRow_lit (base := b) (size := 1) w #[] 0 hb (by decide) rfl
end
end

section
open Go.RowKit
theorem rankN_app (L M : List Int) (x : Int) : rankN (L ++ M) x = rankN L x + rankN M x := by unfold rankN; rw [List.countP_append]
def rankTo (h : List TxnV) (x : Int) (k : Nat) : Nat := rankN (stL (h.take k)) x
theorem rankTo_le (h : List TxnV) (x : Int) (k : Nat) : rankTo h x k ≤ 2 * k := by
 unfold rankTo rankN
 refine Nat.le_trans List.countP_le_length ?_
 unfold stL
 rw [List.length_flatMap]
 have : ∀ l : List TxnV, (l.map fun t => [t.b, t.c].length).sum = 2 * l.length := fun l => by
  induction l with
  | nil => rfl
  | cons a l ih => rw [List.map_cons, List.sum_cons, ih, List.length_cons]; simp; omega
 rw [this, List.length_take]
 omega
theorem rankTo_succ (h : List TxnV) (x : Int) {k : Nat} (hk : k < h.length) : rankTo h x (k + 1) = rankTo h x k + ((if h[k].b < x then 1 else 0) + (if h[k].c < x then 1 else 0)) := by
 unfold rankTo
 rw [stL_succ h k hk, rankN_app]
 congr 1
 unfold rankN
 rw [List.countP_cons, List.countP_cons, List.countP_nil]
 by_cases h1 : h[k].b < x <;> by_cases h2 : h[k].c < x <;> simp [h1, h2]
theorem rrank22_any (va : Value) (h : List TxnV) (x : Int) (w : World) (hT : Txns w va h) (hl : h.length ≤ 1000) :
  Calls Try.prog 24 #[va, .int .i64 x] w fun e w' => e = .returned (.int .i64 (rankI (stL h) x)) ∧ w = w' := by
 have HT := hid hT
 have HV : Hid (rankI (stL h) x = ((rankTo h x h.length : Nat) : Int)) := hid (by unfold rankTo rankI; rw [List.take_length])
 rw [HV.out]
 obtain ⟨ao, cap, rfl, hal⟩ := hT.form
 clear hT
 go_enter Try.func24, Try.ntmps24
 go_wp2_with fail
 go_loopw [5, 6] (fun n i wr => ∃ k : Nat, k ≤ h.length ∧ i = .int .i64 (k : Int) ∧ n = .int .i64 ((rankTo h x k : Nat) : Int) ∧ wr = w) (fun _ i _ => h.length - (intOf i).toNat)
 case atStart => exact ⟨0, by omega, rfl, rfl, rfl⟩
 case round =>
  obtain ⟨k, hk, rfl, rfl, rfl⟩ := hrel
  by_cases hlt : k < h.length
  ·have hki : (k : Int) < (h.length : Int) := by omega
   obtain ⟨g, o, hg, _, c1, c2, _⟩ := HT.out.at hlt
   cases hg
   have hs := rankTo_succ h x hlt
   have hle := rankTo_le h x k
   have HS := hid hs
   clear hs HV
   obtain ⟨n2, hn2e⟩ : ∃ n2, rankTo h x (k + 1) = n2 := ⟨_, rfl⟩
   rw [hn2e] at HS
   have HE := hid hn2e
   clear hn2e
   generalize rankTo h x k = n at *
   generalize h[k].b = y at *
   generalize h[k].c = z at *
   by_cases h1 : y < x
   ·by_cases h2 : z < x
    ·have hn2 : n2 = n + 2 := by have := HS.out; rw [if_pos h1, if_pos h2] at this; omega
     subst hn2
     clear HS
     go_wp2_with fail
     go_roundw
     case rel => exact ⟨k + 1, by omega, by go_num, by rw [HE.out]; go_num, trivial⟩
     case measure => simp [intOf]; omega
    ·have hn2 : n2 = n + 1 := by have := HS.out; rw [if_pos h1, if_neg h2] at this; omega
     subst hn2
     clear HS
     go_wp2_with fail
     go_roundw
     case rel => exact ⟨k + 1, by omega, by go_num, by rw [HE.out]; go_num, trivial⟩
     case measure => simp [intOf]; omega
   ·by_cases h2 : z < x
    ·have hn2 : n2 = n + 1 := by have := HS.out; rw [if_neg h1, if_pos h2] at this; omega
     subst hn2
     clear HS
     go_wp2_with fail
     go_roundw
     case rel => exact ⟨k + 1, by omega, by go_num, by rw [HE.out]; go_num, trivial⟩
     case measure => simp [intOf]; omega
    ·have hn2 : n2 = n := by have := HS.out; rw [if_neg h1, if_neg h2] at this; omega
     subst hn2
     clear HS
     go_wp2_with fail
     go_roundw
     case rel => exact ⟨k + 1, by omega, by go_num, by rw [HE.out], trivial⟩
     case measure => simp [intOf]; omega
  ·obtain rfl : k = h.length := by omega
   have hki : ¬ (h.length : Int) < (h.length : Int) := by omega
   clear HV
   go_wp2_with fail
   go_ret
   exact ⟨rfl, rfl⟩
theorem posL_hit {L : List Int} {x : Int} {k : Nat} (hk : k < L.length) (h0 : ∀ j (hj : j < L.length), j < k → L[j] ≠ x) (h1 : L[k] = x) : posL L x = k ∧ addN L x = L := by
 have hm : x ∈ L := h1 ▸ List.getElem_mem hk
 refine ⟨?_, by unfold addN; rw [if_pos hm]⟩
 unfold posL
 rw [List.findIdx_eq hk]
 refine ⟨by simpa using h1, fun j hj => ?_⟩
 simpa using h0 j (by omega) hj
theorem posL_miss {L : List Int} {x : Int} (h0 : ∀ j (hj : j < L.length), j < L.length → L[j] ≠ x) : posL L x = L.length ∧ addN L x = L ++ [x] := by
 have hm : x ∉ L := fun h => by
  obtain ⟨j, hj, e⟩ := List.mem_iff_getElem.1 h
  exact h0 j hj hj e
 exact ⟨posL_new hm, by unfold addN; rw [if_neg hm]⟩
theorem rname22_any (b : Nat) (va : Value) (L : List Int) (x : Int) (w : World) (hO : IntO w b va L) (hb : b ≤ w.heap.size) (hl : L.length ≤ 100000) :
  Calls Try.prog 25 #[va, .int .i64 x] w fun e w' => ∃ v, e = .returned (.tuple #[v, .int .i64 ((posL L x : Nat) : Int)]) ∧ IntO w' b v (addN L x) ∧ Below w.heap.size w w' := by
 obtain ⟨i0, hi, hz0, hz1, hz2⟩ := info_parts infoInt
 have hI := hO.ints
 have HI := hid hI
 have HO := hid hO
 obtain ⟨ao, cap, rfl, hal⟩ := hI.form
 clear hI hO
 go_enter Try.func25, Try.ntmps25
 go_wp2_with fail
 go_loopw [6] (fun i wr => ∃ k : Nat, k ≤ L.length ∧ i = .int .i64 (k : Int) ∧ Hid (∀ j (hj : j < L.length), j < k → L[j] ≠ x) ∧ wr = w) (fun i _ => L.length - (intOf i).toNat)
 case atStart => exact ⟨0, by omega, rfl, hid (fun j _ hj => absurd hj (Nat.not_lt_zero _)), rfl⟩
 case round =>
  obtain ⟨k, hk, rfl, HN, rfl⟩ := hrel
  by_cases hlt : k < L.length
  ·have hki : (k : Int) < (L.length : Int) := by omega
   obtain ⟨g, o, hg, hc⟩ := HI.out.at hlt
   cases hg
   have HY := hid (fun e => posL_hit hlt HN.out (x := x) e)
   have HN2 : Hid (L[k] ≠ x → ∀ j (hj : j < L.length), j < k + 1 → L[j] ≠ x) := hid (fun e j hj q => by
    rcases Nat.lt_or_ge j k with z | z
    ·exact HN.out j hj z
    ·obtain rfl : j = k := by omega
     exact e)
   generalize L[k] = y at *
   by_cases hyx : y = x
   ·obtain ⟨e1, e2⟩ := HY.out hyx
    have hq : (y == x) = true := by simpa using hyx
    have HR : Hid (IntO wr b (.slice (some ⟨g, o, none⟩) L.length cap) (addN L x)) := hid (by rw [e2]; exact HO.out)
    have HT : Hid (Ending.returned (.tuple #[.slice (some ⟨g, o, none⟩) L.length cap, .int .i64 (k : Int)]) = .returned (.tuple #[.slice (some ⟨g, o, none⟩) L.length cap, .int .i64 ((posL L x : Nat) : Int)])) := hid (by rw [e1])
    clear HN HY HN2 e1 e2 hyx
    go_wp2_with fail
    go_ret2
    exact ⟨_, HT.out, HR.out, Below.refl _ _⟩
   ·have hq : (y == x) = false := by simpa using hyx
    have HN3 := hid (HN2.out hyx)
    clear HN HY HN2 hyx
    go_wp2_with fail
    go_roundw
    case rel => exact ⟨k + 1, by omega, by go_num, HN3, trivial⟩
    case measure => simp [intOf]; omega
  ·obtain rfl : k = L.length := by omega
   have hki : ¬ (L.length : Int) < (L.length : Int) := by omega
   obtain ⟨e1, e2⟩ := posL_miss HN.out
   have HE := hid (And.intro e1 e2)
   have hlb := (Below.refl wr.heap.size wr).alloc (Nat.le_refl _) (.cells #[] 3)
   have hI1 := HI.out.below hlb
   clear HN e1 e2
   go_wp2_with (first | (at_builtin; refine wpList_append_row rfl _ _ 29 rfl wr.heap.size 3 i0 (.int .i64 0) 1 8 Try.underlying29 hi hz0 hz1 hz2 rfl (by decide) (.slice (some ⟨wr.heap.size, 0, none⟩) 0 0) 0 [] rfl (World.ownsRow_lit _ _ _ (Nat.le_refl _) (by decide) rfl) _ L.length _ rfl hI1 ?d1 ?d2 ?d3 ?d4 ?_) | go_in)
   case d1 => intro u _; rfl
   case d2 => unfold maxLen; omega
   case d3 => omega
   intro v5 w5 hown5 hg5
   have hb5 := hlb.grown hg5 (by simp) (by intro k hk; simp [Value.ownBlock] at hk; omega)
   have hO5 : w5.ownsRow wr.heap.size 3 1 v5 L.length (L.map (Value.int .i64)) := by
    exact hown5
   have hbs := hb5.size
   clear hown5 hg5 hlb hI1
   go_wp2_with (first | (at_builtin; refine wpList_append_own _ rfl _ _ 29 rfl wr.heap.size 3 i0 (.int .i64 0) 1 8 Try.underlying29 hi hz0 hz1 hz2 rfl (by decide) _ _ _ rfl (hO5.alloc _) ⟨_, 0, none⟩ 1 1 [.int .i64 x] rfl rfl ?c1 ?c2 ?c3 ?c4 ?c5 ?_) | go_in)
   try case c1 => exact cell_one_new _ _ _
   try case c2 => first | rfl | (intro u hu; simp at hu; subst hu; rfl)
   case c3 => unfold maxLen; omega
   case c4 => omega
   case c5 => simp; omega
   intro v6 w6 hown6 hg6 _
   have hI6 : IntO w6 b v6 (L ++ [x]) := by
    refine owns_weak (b := wr.heap.size) ?_ hb
    rw [List.map_append, List.length_append]
    exact hown6
   have hb6 : Below wr.heap.size wr w6 := below_app hb5 (Nat.le_refl _) hO5 hg6
   have HT6 : Hid (Ending.returned (.tuple #[v6, .int .i64 (L.length : Int)]) = .returned (.tuple #[v6, .int .i64 ((posL L x : Nat) : Int)])) := hid (by rw [HE.out.1])
   have HI6 : Hid (IntO w6 b v6 (addN L x)) := hid (by rw [HE.out.2]; exact hI6)
   clear hown6 hg6 hO5 hb5 hI6
   go_wp2_with fail
   go_ret2
   exact ⟨_, HT6.out, HI6.out, hb6⟩
end

section
open Go.RowKit
structure CroI (s : List TxnV) (B M : Nat) (L : List Int) (w : World) (vo vl vs : Value) (c : List TxnV) : Prop where
 o : OwnT w B vo c
 lo : ∀ b, vo.ownBlock = some b → b < M
 k : ∀ t ∈ c, Own w B t.v t.l
 lk : ∀ t ∈ c, ∀ b, t.v.ownBlock = some b → b < M
 l : OwnT w B vl s
 ll : ∀ b, vl.ownBlock = some b → b < M
 ap : ∀ b, vo.ownBlock = some b → vl.ownBlock ≠ some b
 se : IntO w B vs L
section
variable {s c : List TxnV} {B M M' : Nat} {L : List Int} {w w' : World} {vo vo' vl vs : Value}
theorem CroI.below (h : CroI s B M L w vo vl vs c) (hb : Below w.heap.size w w') : CroI s B M L w' vo vl vs c :=
 ⟨h.o.below hb, h.lo, fun t ht => (h.k t ht).below hb, h.lk, h.l.below hb, h.ll, h.ap, h.se.below hb⟩
theorem CroI.mono (h : CroI s B M L w vo vl vs c) (hm : M ≤ M') : CroI s B M' L w vo vl vs c :=
 ⟨h.o, fun b e => Nat.lt_of_lt_of_le (h.lo b e) hm, h.k, fun t ht b e => Nat.lt_of_lt_of_le (h.lk t ht b e) hm, h.l, fun b e => Nat.lt_of_lt_of_le (h.ll b e) hm, h.ap, h.se⟩
theorem no_row {v : Value} {row : Option Nat} (hv : ∀ b, v.ownBlock = some b → b < M) (hr : ∀ g, row = some g → M ≤ g) : v.ownBlock = none ∨ v.ownBlock ≠ row := by
 cases e : v.ownBlock with
 | none => exact .inl rfl
 | some b =>
  right
  intro q
  have := hv b e
  have := hr b q.symm
  omega
theorem CroI.row {row : Option Nat} (h : CroI s B M L w vo vl vs c) (hr : ∀ g, row = some g → M ≤ g) (hi : vs.ownBlock = none ∨ vs.ownBlock ≠ row) (hg : w.grownBy w' row) : CroI s B M L w' vo vl vs c :=
 ⟨World.ownsRow.kept h.o hg (no_row h.lo hr), h.lo, fun t ht => World.ownsRow.kept (h.k t ht) hg (no_row (h.lk t ht) hr), h.lk, World.ownsRow.kept h.l hg (no_row h.ll hr), h.ll, h.ap, World.ownsRow.kept h.se hg hi⟩
theorem CroI.box {p : Nat} {t : TypeId} {cs : Array Value} (h : CroI s B M L w vo vl vs c) (hp : M ≤ p) (k : BoxN w p t cs) (hne : 3 ≠ t) (hg : w.grownBy w' (some p)) : CroI s B M L w' vo vl vs c :=
 h.row (fun g e => by cases e; exact hp) (owns_no_box h.se k hne) hg
theorem CroI.ops {vt : Value} {m : List OpV} (h : CroI s B M L w vo vl vs c) (hu : Own w M vt m) (hg : w.grownBy w' vt.ownBlock) : CroI s B M L w' vo vl vs c :=
 h.row (fun g e => (World.ownsRow.lt hu g e).1) (owns_apart h.se hu (by decide)) hg
theorem CroI.txns (h : CroI s B M L w vo vl vs c) : Txns w vo c := ⟨h.o.row, fun t ht => (h.k t ht).ops⟩
theorem CroI.add {x y z : Int} {vt : Value} {m : List OpV} {g cap : Nat} (h : CroI s B M L w vo vl vs c) (hBM : B ≤ M) (hu : Own w M vt m) (hO : OwnT w' B (.slice (some ⟨g, 0, none⟩) (c.length + 1) cap) (c ++ [⟨x, y, z, vt, m⟩])) (hg : w.grownBy w' vo.ownBlock) (hl : vo.ownBlock = some g ∨ g = w.heap.size) :
  CroI s B w'.heap.size L w' (.slice (some ⟨g, 0, none⟩) (c.length + 1) cap) vl vs (c ++ [⟨x, y, z, vt, m⟩]) := by
 have hvl : vl.ownBlock = none ∨ vl.ownBlock ≠ vo.ownBlock := by
  cases e : vl.ownBlock with
  | none => exact .inl rfl
  | some b => exact .inr fun q => h.ap b q.symm e
 have hkk : ∀ t ∈ c, Own w' B t.v t.l := fun t ht => World.ownsRow.kept (h.k t ht) hg (owns_apart (h.k t ht) h.o (by decide))
 have hu' : Own w' M vt m := World.ownsRow.kept hu hg (owns_apart hu h.o (by decide))
 have hl' : OwnT w' B vl s := World.ownsRow.kept h.l hg hvl
 refine ⟨hO, fun b e => (World.ownsRow.lt hO b e).2, fun t ht => ?_, fun t ht b e => ?_, hl', fun b e => (World.ownsRow.lt hl' b e).2, fun b e q => ?_, World.ownsRow.kept h.se hg (owns_apart h.se h.o (by decide))⟩
 ·rcases List.mem_append.1 ht with ht | ht
  ·exact hkk t ht
  ·rw [List.mem_singleton] at ht; subst ht; exact hu'.base hBM
 ·rcases List.mem_append.1 ht with ht | ht
  ·exact (World.ownsRow.lt (hkk t ht) b e).2
  ·rw [List.mem_singleton] at ht; subst ht; exact (World.ownsRow.lt hu' b e).2
 ·simp [Value.ownBlock] at e
  subst e
  rcases hl with hl | hl
  ·exact h.ap g hl q
  ·have := (World.ownsRow.lt h.l g q).2; omega
end
theorem stL_permC {h s : List TxnV} (hs : s.Perm h) : (stL s).Perm (stL h) := by unfold stL; exact hs.flatMap_right _
theorem rank_perm {h s : List TxnV} (hs : s.Perm h) (x : Int) : rankI (stL h) x = rankI (stE (s.map txE)) x := by
 rw [stE_txE]
 unfold rankI rankN
 rw [(stL_permC hs).countP_eq]
theorem can_next {s c : List TxnV} {i : Nat} (hi : i < s.length) (hc : c.map txE = (canE (s.map txE)).take i) {vt : Value} {x y z : Int} (hx : x = noI (sesE (s.map txE)) s[i].s) (hy : y = rankI (stE (s.map txE)) s[i].b) (hz : z = rankI (stE (s.map txE)) s[i].c) :
  (c ++ [(⟨x, y, z, vt, (opsAt s i).map (cOp (s.map txE))⟩ : TxnV)]).map txE = (canE (s.map txE)).take (i + 1) := by
 have hl : i < (canE (s.map txE)).length := by unfold canE; simpa using hi
 have key : (canE (s.map txE))[i]? = some (renE (noI (sesE (s.map txE))) (rankI (stE (s.map txE))) (noI (keyE (s.map txE))) (noV (valE (s.map txE))) (txE s[i])) := by
  unfold canE
  rw [List.getElem?_map, List.getElem?_map, List.getElem?_eq_getElem hi]; rfl
 have e2 := List.getElem?_eq_getElem hl
 rw [key] at e2
 have e3 := (Option.some.inj e2).symm
 subst hx hy hz
 rw [List.take_succ_eq_append_getElem hl, List.map_append, hc, e3, opsAt_eq hi]
 rfl
theorem can_all {s c : List TxnV} (hc : c.map txE = (canE (s.map txE)).take s.length) : c.map txE = canE (s.map txE) := by
 rw [hc, List.take_of_length_le]
 unfold canE; simp
theorem val_new (q : List Int) (x : Int) (h : x ≠ 0) : addN (firsts (valP q)) x = firsts (valP (q ++ [x])) := by
 unfold valP
 rw [List.filter_append, show List.filter (fun v => v != 0) [x] = [x] by simp [h], firsts_snoc]
theorem val_old (q : List Int) : firsts (valP (q ++ [0])) = firsts (valP q) := by
 unfold valP
 rw [List.filter_append]
 simp
theorem kTo_len {s : List TxnV} {i k : Nat} (hi : i < s.length) : (firsts (kTo s i k)).length ≤ opsN s := by
 refine Nat.le_trans (firsts_len _) ?_
 have h1 : (keyE (s.map txE)).length = opsN s := by
  unfold keyE opsN
  rw [List.flatMap_map, List.length_flatMap]
  congr 1
  exact List.map_congr_left fun t _ => by simp [txE]
 have h2 : kTo s i k <+: keyE (s.map txE) := by
  have hiE : i < (s.map txE).length := by simpa using hi
  have eE : (txE s[i]).2.2.2 = opsAt s i := (opsAt_eq hi).symm
  have e : keyE (s.map txE) = keyE ((s.map txE).take i) ++ ((opsAt s i).map (·.key) ++ keyE ((s.map txE).drop (i + 1))) := by
   have q := congrArg keyE (List.take_append_drop i (s.map txE))
   unfold keyE at q ⊢
   rw [List.flatMap_append, List.drop_eq_getElem_cons hiE, List.flatMap_cons, List.getElem_map, eE] at q
   exact q.symm
  rw [e]
  unfold kTo
  refine (List.prefix_append_right_inj _).2 ?_
  refine List.IsPrefix.trans ?_ (List.prefix_append _ _)
  rw [List.map_take]
  exact List.take_prefix _ _
 rw [← h1]
 exact h2.length_le
theorem vTo_len {s : List TxnV} {i k : Nat} (hi : i < s.length) : (firsts (valP (vTo s i k))).length ≤ opsN s := by
 refine Nat.le_trans (firsts_len _) (Nat.le_trans (List.length_filter_le _ _) ?_)
 rw [← valA_len s]
 have h2 : vTo s i k <+: valA (s.map txE) := by
  have hiE : i < (s.map txE).length := by simpa using hi
  have eE : (txE s[i]).2.2.2 = opsAt s i := (opsAt_eq hi).symm
  have e : valA (s.map txE) = valA ((s.map txE).take i) ++ ((opsAt s i).map (·.val) ++ valA ((s.map txE).drop (i + 1))) := by
   have q := congrArg valA (List.take_append_drop i (s.map txE))
   unfold valA at q ⊢
   rw [List.flatMap_append, List.drop_eq_getElem_cons hiE, List.flatMap_cons, List.getElem_map, eE] at q
   exact q.symm
  rw [e]
  unfold vTo
  refine (List.prefix_append_right_inj _).2 ?_
  refine List.IsPrefix.trans ?_ (List.prefix_append _ _)
  rw [List.map_take]
  exact List.take_prefix _ _
 exact h2.length_le
theorem sTo_len {s : List TxnV} {i : Nat} : (firsts (sTo s i)).length ≤ s.length := by
 refine Nat.le_trans (firsts_len _) ?_
 unfold sTo sesE
 simp
 omega
theorem opsTake_succ {s : List TxnV} {i k : Nat} (E : List ETx) (hk : k < (opsAt s i).length) : ((opsAt s i).take (k + 1)).map (cOp E) = ((opsAt s i).take k).map (cOp E) ++ [cOp E (opsAt s i)[k]] := by
 rw [List.take_succ_eq_append_getElem hk, List.map_append]; rfl
theorem cOp_val {s : List TxnV} {i k : Nat} (hi : i < s.length) (hk : k < (opsAt s i).length) :
  cOp (s.map txE) (opsAt s i)[k] = ⟨(opsAt s i)[k].wr, ((posL (firsts (kTo s i k)) (opsAt s i)[k].key : Nat) : Int), if (opsAt s i)[k].val = 0 then 0 else ((posL (firsts (valP (vTo s i k))) (opsAt s i)[k].val : Nat) : Int) + 1⟩ := by
 rw [← cOp_now hi hk]
 congr 1
 by_cases h : (opsAt s i)[k].val = 0
 ·rw [if_pos h, h, pos_zero]; rfl
 ·rw [if_neg h, pos_cons _ h]; omega
end

end Go.Proofs.Ytlajeemkoldngaa
