/- Walks and plain facts that the proof of the statement CanonNames uses, joined: HisV LeaA OrdA OrdB OrdC OrdG OrdH OrdE OrdI HisF HisG OrdJ OrdF OrdK OrdM OrdO OrdAH LeaC OrdY HisH HisI HisJ HisK HisL HisM HisN HisO TxnI TxnJ TxnK HisP OrdR OrdS OrdX HisQ HisR OrdV OrdZ OrdAC LeaD RelS RelT LeaE RelX RelY LeaF LeaG AxiA AxiB AxiC LevA AxiD LevB LevC LevE AxiE LeaB RelU OrdAA LeaH TblA AxiF PlaA SeaC PlaB AxiG PlaC PlaH PlaI PlaF AxiH OrdP LesA LesB AxhA PlaD PlaG PlaJ PlaK PlaL PlaM MemG MemB MemE FueA FueB FueC FueF PlaE MemA MemC BruB SeaA SeaE OrdAJ MemD MemF SeaF AxhG AxhL BruA BruC BruD PlaQ BruE SeaG SeaB SeaH SeaI OrdL PlaN SeaJ SeaK LesC OrdAB AxhB AxhC BruJ BruP BruQ BruR BruU BruF BruG BruH BruI PlaP LeaI LeaJ TopA BruK BruV BruZ BrcA BrcC BruW BruX AxhN BruY BrcB SeaL IsoA IsoB CnoA SrtA CnoB CanA TblB TblC CanB CanC CanD CanE CanF. Conditions: each theorem's own. -/
import Derived.Test.YtipmfhgdeghmjaaGreatProg
import Derived.Sort.Row
import Derived.Deep.MidRow
import Derived.BigQuiet
import Derived.Deep.QuietTactic
import Derived.Deep.RegionHeld
import Derived.Deep.CutRange
import Derived.Laws.StructEq
import Derived.Deep.RegionHeld3
import Derived.Deep.AppendLies
import Derived.Deep.LoopGhost
import Derived.ChangeKeysEq
import Derived.Deep.RegionLaw
import Derived.Great.BuildSlice
import Derived.KernelRfl
import Derived.Laws.Bits128
import Derived.WalkKit
import Derived.WalkSpells
import Derived.WalkLawsBesides
import Derived.Lib.Hide
import Derived.Laws.Tables
import Derived.Laws.CopyOwn
import Derived.OwnWalk
import Derived.Deep.OwnRows
import Derived.Maps.OwnSet
import Derived.DeepKeys4
import Derived.Laws.BytesArg
import Derived.OneCell
import Derived.RangeFuncNested
import Derived.RangeFuncCalls
import Derived.RangeFuncLeaves
import Derived.RangeFuncBound
import Derived.Shelf.Abstract
import Derived.OwnWalkIn
import Derived.TacticsInMore
import Derived.LoopNIn
import Derived.LoopIn
import Derived.ArgAppend
import Derived.Deep.Upon
import Derived.Shelf.SortM.Plain
import Derived.Test.YtipmfhgdeghmjaaGreatPCanonNames0
namespace Go.Proofs.YtipmfhgdeghmjaaGreat
set_option maxHeartbeats 32000000
set_option maxRecDepth 100000
set_option linter.unusedSimpArgs false
set_option linter.unusedVariables false
open Lib (hid)
section
open Go.RowKit
theorem grown_setC (w : World) (a : Addr) (u : Value) : w.grownBy (w.setCell a u) (some a.block) :=
 ⟨rfl, rfl, rfl, by simp, fun k _ hk => Below.heap_setCell w a u k (fun e => hk (by rw [e]))⟩
theorem txV_app (l m : List TxnV) : txV (l ++ m) = txV l ++ txV m := by simp [txV]
def ApartT (t u : TxnV) : Prop := ∀ b, t.v.ownBlock = some b → u.v.ownBlock ≠ some b
theorem OwnT.below {w w' : World} {base : Nat} {v : Value} {h : List TxnV} (hO : OwnT w base v h) (hb : Below w.heap.size w w') : OwnT w' base v h := owns_below hO hb
theorem OwnT.setCell {w : World} {base g cap : Nat} {h h' : List TxnV} {j : Nat} {u : Value} (hO : OwnT w base (.slice (some ⟨g, 0, none⟩) h.length cap) h) (hl : h'.length = h.length) (hh : txV h' = (txV h).set j u) :
  OwnT (w.setCell ⟨g, j, none⟩ u) base (.slice (some ⟨g, 0, none⟩) h'.length cap) h' := by
 obtain ⟨h1, h2⟩ := hO
 rcases h2 with ⟨h2, _⟩ | ⟨g', cap', cur, e1, e2, hb, e3, e4, e5, e6⟩
 ·cases h2
 cases e1
 refine ⟨by rw [txV_len], .inr ⟨g, cap, cur.setIfInBounds j u, rfl, e2, ?_, by rw [hl]; exact e3, e4, by simpa using e5, ?_⟩⟩
 ·rw [Sort.setCell_eq]
  simp [Sort.mapBlock, Array.getElem?_modify, hb, Sort.onCells]
 ·rw [hl, Array.toList_setIfInBounds, List.take_set, e6, hh]
theorem OwnT.at {w : World} {base g cap : Nat} {h : List TxnV} (hO : OwnT w base (.slice (some ⟨g, 0, none⟩) h.length cap) h) {j : Nat} (hj : j < h.length * 4) :
  w.cell? ⟨g, j, none⟩ = (txV h)[j]? ∧ w.frozen? ⟨g, j, none⟩ = false := by
 constructor
 ·obtain ⟨_, ao, cap', e, _, _, hc⟩ := hO.row
  cases e
  obtain ⟨b, off, e, hcell⟩ := hc (by omega)
  cases e
  have := hcell j hj
  simpa using this
 ·obtain ⟨h1, h2⟩ := hO
  rcases h2 with ⟨h2, _⟩ | ⟨g', cap', cur, e1, e2, hb, _⟩
  ·cases h2
  cases e1
  simp [World.frozen?, hb]
theorem OwnT.split {w : World} {base : Nat} {v : Value} {h : List TxnV} (hO : OwnT w base v h) : (v = .slice none 0 0 ∧ h = []) ∨ ∃ g cap, v = .slice (some ⟨g, 0, none⟩) h.length cap ∧ base ≤ g := by
 obtain ⟨_, h2⟩ := hO
 rcases h2 with ⟨e1, e2⟩ | ⟨g, cap, cur, e1, e2, _⟩
 ·exact .inl ⟨e1, List.eq_nil_of_length_eq_zero e2⟩
 ·exact .inr ⟨g, cap, e1, e2⟩
theorem txV_mid (D : List TxnV) (x : TxnV) (r : List TxnV) (v' : Value) (l' : List OpV) : txV ((D ++ [⟨x.s, x.b, x.c, v', l'⟩]) ++ r) = (txV (D ++ x :: r)).set (D.length * 4 + 3) v' := by
 rw [txV_app, txV_app, txV_app, ← txV_len D, List.append_assoc, List.set_append, if_neg (by omega), Nat.add_sub_cancel_left]
 rfl
def CopyOf (w : World) (base : Nat) (v : Value) (c : List TxnV) : Prop := ∃ base2, (base ≤ base2 ∧ base2 ≤ w.heap.size) ∧ OwnT w base v c ∧ (∀ b, v.ownBlock = some b → b < base2) ∧ (∀ t ∈ c, Own w base2 t.v t.l) ∧ c.Pairwise ApartT
theorem hcopy_any (va : Value) (h : List TxnV) (w : World) (ha : Txns w va h) (hl : h.length ≤ 100000) (hn : ∀ t ∈ h, t.l.length ≤ 100000) :
  Calls Tryz.prog 66 #[va] w fun e w' => ∃ v c, e = .returned v ∧ c.map txE = h.map txE ∧ CopyOf w' w.heap.size v c ∧ Below w.heap.size w w' := by
 have HA := hid (fun wx (hx : Below w.heap.size w wx) => ha.below hx)
 have HN := hid hn
 obtain ⟨ao, cap, rfl, hal⟩ := ha.form
 clear hn
 go_enter Tryz.func66, Tryz.ntmps66
 go_wp2_with fail
 refine (clone_txns _ h w ha hl).mono ?_
 rintro e w1 ⟨v1, rfl, hO1, hb1⟩
 have hgv := hid (fun b hb => (World.ownsRow.lt hO1 b hb).2)
 obtain ⟨av, capv, rfl⟩ : ∃ a c, v1 = .slice a h.length c := by
  rcases hO1.split with ⟨rfl, rfl⟩ | ⟨g, c, rfl, _⟩
  ·exact ⟨none, 0, rfl⟩
  ·exact ⟨_, _, rfl⟩
 have hs1 := hb1.size
 clear ha
 go_wp2_with fail
 go_loopw [10] (fun i wr => ∃ (k : Nat) (D : List TxnV), k ≤ h.length ∧ i = .int .i64 k ∧ D.length = k ∧ D.map txE = (h.take k).map txE ∧ (∀ t ∈ D, Own wr w1.heap.size t.v t.l) ∧ D.Pairwise ApartT ∧ OwnT wr w.heap.size (.slice av h.length capv) (D ++ h.drop k) ∧ Below w.heap.size w wr ∧ w1.heap.size ≤ wr.heap.size) (fun i _ => h.length - (intOf i).toNat)
 case atStart => exact ⟨0, [], by omega, rfl, rfl, rfl, by simp, List.Pairwise.nil, by simpa using hO1, hb1, Nat.le_refl _⟩
 case round =>
  obtain ⟨k, D, hk, rfl, hDl, hDe, hDo, hDp, hO, hb, hsz⟩ := hrel
  clear hO1 hb1
  by_cases hlt : k < h.length
  ·have hki : (k : Int) < (h.length : Int) := by omega
   obtain ⟨g, o, hao, c0, c1, c2, c3⟩ := (HA.out _ hb).at hlt
   cases hao
   have hOps := fun wx (hx : Below w.heap.size w wx) => (HA.out wx hx).ops hlt
   have hcl := HN.out _ (List.getElem_mem hlt)
   have hdrop : h.drop k = h[k] :: h.drop (k + 1) := List.drop_eq_getElem_cons hlt
   have HTE : Hid ((h.take (k + 1)).map txE = (h.take k).map txE ++ [txE h[k]]) := hid (by rw [List.take_succ_eq_append_getElem hlt, List.map_append]; rfl)
   have hlen : (D ++ h.drop k).length = h.length := by simp; omega
   rw [hdrop] at hO hlen
   generalize h[k] = x at *
   obtain ⟨s, b, cc, v, l⟩ := x
   simp only at c0 c1 c2 c3 hOps hcl
   obtain ⟨ai, capi, rfl, hli⟩ := (hOps wr hb).form
   have hbb := hb.alloc hb.size (.cells #[.int .i64 s, .int .i64 b, .int .i64 cc, .slice ai l.length capi] 52)
   have hb0 := box_below wr (.cells #[.int .i64 s, .int .i64 b, .int .i64 cc, .slice ai l.length capi] 52)
   have CC := hid (clone_ops _ l _ (hOps _ hbb) hcl)
   rcases hO.split with ⟨e1, _⟩ | ⟨gv, cv, e1, hgb⟩
   ·have := (Value.slice.inj e1).2.1
    omega
   obtain ⟨rfl, rfl⟩ : av = some ⟨gv, 0, none⟩ ∧ capv = cv := ⟨(Value.slice.inj e1).1, (Value.slice.inj e1).2.2⟩
   have hgl := hgv.out gv rfl
   have HM := hid (And.intro hDe (And.intro hDo (And.intro hDp (And.intro hO (And.intro hlen hdrop)))))
   clear hOps e1 hDe hDo hDp hO hlen hdrop hcl
   go_wp2_with fail
   refine (CC.out).mono ?_
   rintro e w2 ⟨v2, rfl, hO2, hb2⟩
   clear CC
   obtain ⟨a2, cap2, rfl, _⟩ := hO2.ops.form
   obtain ⟨hDe, hDo, hDp, hO, hlen, hdrop⟩ := HM.out
   have hb3 := below_then hb0 hb2
   have hb4 := hb.trans (hb3.mono hb.size)
   rw [← hlen] at hO
   have hO3 := hO.below hb3
   have hfr := (hO3.at (j := k * 4 + 3) (by omega)).2
   have hcell : (w2.cell? ⟨gv, k * 4 + 3, none⟩) = some (.slice ai l.length capi) := by
    rw [(hO3.at (j := k * 4 + 3) (by omega)).1, ← hDl]
    rw [txV_app, ← txV_len D, List.getElem?_append_right (by omega), Nat.add_sub_cancel_left]
    rfl
   have hOn : OwnT (w2.setCell ⟨gv, k * 4 + 3, none⟩ (.slice a2 l.length cap2)) w.heap.size (.slice (some ⟨gv, 0, none⟩) h.length capv) ((D ++ [(TxnV.mk s b cc (.slice a2 l.length cap2) l)]) ++ h.drop (k + 1)) := by
    have hl2 : ((D ++ [(TxnV.mk s b cc (.slice a2 l.length cap2) l)]) ++ h.drop (k + 1)).length = (D ++ (TxnV.mk s b cc (.slice ai l.length capi) l) :: h.drop (k + 1)).length := by simp
    have := OwnT.setCell (h' := (D ++ [(TxnV.mk s b cc (.slice a2 l.length cap2) l)]) ++ h.drop (k + 1)) (j := k * 4 + 3) (u := .slice a2 l.length cap2) hO3 hl2 (by rw [← hDl]; exact txV_mid D (TxnV.mk s b cc (.slice ai l.length capi) l) _ _ _)
    rw [hl2, hlen] at this
    exact this
   have hg2 := grown_setC w2 ⟨gv, k * 4 + 3, none⟩ (.slice a2 l.length cap2)
   have hsz1 : (wr.alloc (.cells #[.int .i64 s, .int .i64 b, .int .i64 cc, .slice ai l.length capi] 52)).heap.size = wr.heap.size + 1 := by simp
   have hne2 : ∀ (t : TxnV) (base : Nat), Own w2 base t.v t.l → w1.heap.size ≤ base → Own (w2.setCell ⟨gv, k * 4 + 3, none⟩ (.slice a2 l.length cap2)) base t.v t.l := fun t base ht hbs => World.ownsRow.kept ht hg2 (.inr (fun e => by
    have := (World.ownsRow.lt ht gv e).1
    omega))
   have hOl : Own w2 (wr.heap.size + 1) (.slice a2 l.length cap2) l := by rw [hsz1] at hO2; exact hO2
   have hnew := hne2 (TxnV.mk s b cc (.slice a2 l.length cap2) l) _ hOl (by omega)
   have hold : ∀ t ∈ D, Own (w2.setCell ⟨gv, k * 4 + 3, none⟩ (.slice a2 l.length cap2)) w1.heap.size t.v t.l := fun t ht => hne2 t _ ((hDo t ht).below hb3) (Nat.le_refl _)
   have HR := hid (show D.length = k ∧ (D ++ [(TxnV.mk s b cc (.slice a2 l.length cap2) l)]).length = k + 1 ∧ (D ++ [(TxnV.mk s b cc (.slice a2 l.length cap2) l)]).map txE = (h.take (k + 1)).map txE ∧ (∀ t ∈ (D ++ [(TxnV.mk s b cc (.slice a2 l.length cap2) l)]), Own (w2.setCell ⟨gv, k * 4 + 3, none⟩ (.slice a2 l.length cap2)) w1.heap.size t.v t.l) ∧ (D ++ [(TxnV.mk s b cc (.slice a2 l.length cap2) l)]).Pairwise ApartT ∧ OwnT (w2.setCell ⟨gv, k * 4 + 3, none⟩ (.slice a2 l.length cap2)) w.heap.size (.slice (some ⟨gv, 0, none⟩) h.length capv) ((D ++ [(TxnV.mk s b cc (.slice a2 l.length cap2) l)]) ++ h.drop (k + 1)) ∧ Below w.heap.size w (w2.setCell ⟨gv, k * 4 + 3, none⟩ (.slice a2 l.length cap2)) ∧ w1.heap.size ≤ (w2.setCell ⟨gv, k * 4 + 3, none⟩ (.slice a2 l.length cap2)).heap.size from by
    refine ⟨hDl, by simp [hDl], by rw [HTE.out, List.map_append, hDe]; rfl, ?_, ?_, hOn, hb4.setCell (p := ⟨gv, k * 4 + 3, none⟩) hgb _, ?_⟩
    ·intro t ht
     rcases List.mem_append.1 ht with ht | ht
     ·exact hold t ht
     ·obtain rfl := List.mem_singleton.1 ht
      exact hnew.base (by omega)
    ·rw [List.pairwise_append]
     refine ⟨hDp, List.pairwise_singleton _ _, fun t ht u hu => ?_⟩
     obtain rfl := List.mem_singleton.1 hu
     intro b1 h1 h2
     have q1 := (World.ownsRow.lt (hDo t ht) b1 h1).2
     have q2 := (World.ownsRow.lt hOl b1 h2).1
     omega
    ·have := hb3.size
     have e : (w2.setCell ⟨gv, k * 4 + 3, none⟩ (.slice a2 l.length cap2)).heap.size = w2.heap.size := by simp
     omega)
   clear hDe hDo hDp hO hlen hdrop HM hO3 hOn hg2 hne2 hOl hnew hold hO2 hb2 hb3 hb4 hb0 hsz1 hDl
   go_wp2_with fail
   obtain ⟨hDl, r1, r2, r3, r4, r5, r6, r7⟩ := HR.out
   go_roundw
   case rel => exact ⟨k + 1, _, by omega, by go_num, r1, r2, r3, r4, r5, r6, r7⟩
   case measure => simp [intOf]; omega
  ·have hkl : k = h.length := by omega
   subst hkl
   have HR : Hid (D.map txE = h.map txE ∧ CopyOf wr w.heap.size (.slice av h.length capv) D) := hid (by
    rw [List.take_length] at hDe
    rw [List.drop_length, List.append_nil] at hO
    exact ⟨hDe, w1.heap.size, ⟨hs1, hsz⟩, hO, hgv.out, hDo, hDp⟩)
   clear hDe hDo hDp hO hgv
   go_wp2_with fail
   go_ret
   exact ⟨_, D, rfl, HR.out.1, HR.out.2, hb⟩
end

section
open Go.RowKit
def frV (l : List (Int × Int)) : List Value := l.flatMap fun p => [.int .i64 p.1, .int .i64 p.2]
theorem own_base' {w : World} {base base' : Nat} {v : Value} {e : TypeId} {size n : Nat} {xs : List Value} (h : w.ownsRow base e size v n xs) (hb : base' ≤ base) : w.ownsRow base' e size v n xs := by
 obtain ⟨h1, h2⟩ := h
 refine ⟨h1, ?_⟩
 rcases h2 with h2 | ⟨g, cap, cur, e1, e2, r⟩
 ·exact .inl h2
 ·exact .inr ⟨g, cap, cur, e1, Nat.le_trans hb e2, r⟩
end

section
open Go.RowKit
def rdOk (F : Int → Option WV) (o : OpV) : Bool := o.wr || o.val == 0 || (match F o.val with
 | none => false
 | some u => u.key == o.key)
def rowOk (F : Int → Option WV) (l : List OpV) : Bool := l.all (rdOk F)
def valuesB (h : List TxnV) : Bool := okW h && h.all fun t => rowOk (wrTo h h.length) t.l
theorem rowOk_succ (F : Int → Option WV) (l : List OpV) (k : Nat) (hk : k < l.length) : rowOk F (l.take (k + 1)) = (rowOk F (l.take k) && rdOk F l[k]) := by
 unfold rowOk; rw [take_snoc l k hk, List.all_append]; simp
theorem rowOk_no {F : Int → Option WV} {l : List OpV} {k : Nat} (hk : k < l.length) (hn : rdOk F l[k] = false) : rowOk F l = false := by
 unfold rowOk; exact List.all_eq_false.2 ⟨l[k], List.getElem_mem hk, by simp [hn]⟩
theorem valuesB_no {h : List TxnV} {k : Nat} (hk : k < h.length) (hn : rowOk (wrTo h h.length) h[k].l = false) : valuesB h = false := by
 unfold valuesB
 rw [Bool.and_eq_false_iff]
 exact .inr (List.all_eq_false.2 ⟨h[k], List.getElem_mem hk, by simp [hn]⟩)
theorem values_any (va : Value) (h : List TxnV) (w : World) (hT : Txns w va h) (hok : ∀ t ∈ h, t.ok) (hks : ∀ t ∈ h, keysIn t.l) (hn : opsN h ≤ 100000) (hlen : h.length ≤ 100000) :
  Calls Tryz.prog 57 #[va] w fun e w' => e = .returned (.bool (valuesB h)) ∧ Below w.heap.size w w' := by
 obtain ⟨ao, cap, rfl, hal⟩ := hT.form
 have HOK := hid hok
 have CW := hid (hwrites_any _ h w hT hok hks hn hlen)
 clear hok hks
 go_enter Tryz.func57, Tryz.ntmps57
 go_wp2_with fail
 refine (CW.out).mono ?_
 rintro e w1 ⟨hb1, ⟨hno, rfl⟩ | ⟨hyes, B, n0, rfl, hB, hM0⟩⟩
 ·have H : Hid (false = valuesB h) := hid (by unfold valuesB; rw [hno]; rfl)
  clear hno
  go_wp2_with fail
  go_ret
  exact ⟨ret_b H.out, hb1⟩
 have HY := hid hyes
 clear hyes CW
 have HVN : Hid (∀ k, ∀ hk : k < h.length, rowOk (wrTo h h.length) h[k].l = false → valuesB h = false) := hid (fun k hk hh => valuesB_no hk hh)
 have HVY : Hid (h.all (fun t => rowOk (wrTo h h.length) t.l) = true → valuesB h = true) := hid (fun hh => by unfold valuesB; rw [HY.out, hh]; rfl)
 generalize wrTo h h.length = F at *
 generalize (wvH h).length = cnt at *
 go_wp2_with fail
 go_loopw [20] (fun i wr => ∃ k : Nat, k ≤ h.length ∧ i = .int .i64 k ∧ ((h.take k).all (fun t => rowOk F t.l) = true) ∧ MapI eW Tryz.prog 3 wr B n0 F cnt ∧ Below w.heap.size w wr) (fun i _ => h.length - (intOf i).toNat)
 case atStart => exact ⟨0, by omega, rfl, rfl, hM0, hb1⟩
 case round =>
  obtain ⟨k, hk, rfl, hP, hM, hb⟩ := hrel
  have HP := hid hP
  clear hP hM0 hb1
  by_cases hlt : k < h.length
  ·have hki : (k : Int) < (h.length : Int) := by omega
   obtain ⟨g, o, hao, c0, c1, c2, c3⟩ := (hT.below hb).at hlt
   cases hao
   have HS : Hid ((h.take (k + 1)).all (fun t => rowOk F t.l) = ((h.take k).all (fun t => rowOk F t.l) && rowOk F h[k].l)) := hid (by rw [List.take_succ_eq_append_getElem hlt, List.all_append]; simp)
   have HNO := hid (HVN.out k hlt)
   have hOps := fun wx (hx : Below w.heap.size w wx) => (hT.ops hlt).below hx
   have HTK := hid (HOK.out h[k] (List.getElem_mem hlt))
   generalize h[k] = t at *
   obtain ⟨s, b, c, v, l⟩ := t
   simp only at c0 c1 c2 c3 HS HNO hOps HTK
   obtain ⟨ai, capi, rfl, hli⟩ := (hOps w (Below.refl _ _)).form
   have HOP := hid hOps
   have hM1 := hM.alloc (.cells #[.int .i64 s, .int .i64 b, .int .i64 c, .slice ai l.length capi] 52)
   have hbb := hb.alloc hb.size (.cells #[.int .i64 s, .int .i64 b, .int .i64 c, .slice ai l.length capi] 52)
   clear hOps hM hb HVN HVY
   go_wp2_with fail
   generalize wr.alloc (.cells #[.int .i64 s, .int .i64 b, .int .i64 c, .slice ai l.length capi] 52) = w2 at *
   go_loopw [27] (fun i wx => ∃ j : Nat, j ≤ l.length ∧ i = .int .i64 j ∧ rowOk F (l.take j) = true ∧ MapI eW Tryz.prog 3 wx B n0 F cnt ∧ Below w.heap.size w wx) (fun i _ => l.length - (intOf i).toNat)
   case atStart => exact ⟨0, by omega, rfl, rfl, hM1, hbb⟩
   case round =>
    obtain ⟨j, hj, rfl, hR, hM2, hb2⟩ := hrel
    have HR := hid hR
    clear hR hM1 hbb
    by_cases hltj : j < l.length
    ·have hkj : (j : Int) < (l.length : Int) := by omega
     obtain ⟨g2, o2, hao2, e0, e1, e2⟩ := (HOP.out _ hb2).at hltj
     cases hao2
     have HRS := hid (rowOk_succ F l j hltj)
     have HRN := hid (fun hh => rowOk_no (F := F) hltj hh)
     have hox := HTK.out.2 l[j] (List.getElem_mem hltj)
     generalize l[j] = x at *
     obtain ⟨xw, xk, xv⟩ := x
     simp only at e0 e1 e2
     have hkv := inI_of hox.2
     have hM3 := hM2.alloc (.cells #[.bool xw, .int .i64 xk, .int .i64 xv] 54)
     have hb3 := hb2.alloc hb2.size (.cells #[.bool xw, .int .i64 xk, .int .i64 xv] 54)
     clear hox hM2 hb2
     cases xw with
     | true =>
      have H : Hid (rowOk F (l.take (j + 1)) = true) := hid (by rw [HRS.out, HR.out]; rfl)
      clear HRS HRN
      go_wp2_with fail
      go_roundw
      case rel => exact ⟨j + 1, by omega, by go_num, H.out, hM3, hb3⟩
      case measure => simp [intOf]; omega
     | false =>
      by_cases hx0 : xv = 0
      ·subst hx0
       have H : Hid (rowOk F (l.take (j + 1)) = true) := hid (by rw [HRS.out, HR.out]; rfl)
       clear HRS HRN
       go_wp2_with fail
       go_roundw
       case rel => exact ⟨j + 1, by omega, by go_num, H.out, hM3, hb3⟩
       case measure => simp [intOf]; omega
      ·have hx1 : (xv == 0) = false := by simpa using hx0
       have HD : Hid (rdOk F ⟨false, xk, xv⟩ = (match F xv with | none => false | some u => u.key == xk)) := hid (by unfold rdOk; simp only [hx1]; rfl)
       clear hx0
       cases hv : F xv with
       | none =>
        have H : Hid (false = valuesB h) := hid (HNO.out (HRN.out (by rw [HD.out, hv]))).symm
        have hb4 := hb3.alloc hb3.size (.cells #[.int .i64 0, .int .i64 0, .bool false] 118)
        clear HRS HRN HD
        go_wp2_with (first | (at_lookup; refine wpList_lookI_ok _ rfl _ _ 114 rfl 3 118 keyI mapIW wZ (zeroW _) _ _ _ _ rfl hM3 _ rfl hkv ?_; rw [hv]; simp only [Option.getD_none, Option.isSome_none, eW, wZ]) | go_in)
        go_ret
        exact ⟨ret_b H.out, hb4⟩
       | some u =>
        obtain ⟨ui, uk, ul⟩ := u
        have HD2 : Hid (rdOk F ⟨false, xk, xv⟩ = (uk == xk)) := hid (by rw [HD.out, hv])
        have hM4 := hM3.alloc (.cells #[.int .i64 ui, .int .i64 uk, .bool ul] 118)
        have hb4 := hb3.alloc hb3.size (.cells #[.int .i64 ui, .int .i64 uk, .bool ul] 118)
        clear HD
        by_cases huk : uk = xk
        ·subst huk
         have H : Hid (rowOk F (l.take (j + 1)) = true) := hid (by rw [HRS.out, HR.out, HD2.out]; simp)
         have hne : (uk != uk) = false := by simp
         clear HRS HRN HD2
         go_wp2_with (first | (at_lookup; refine wpList_lookI_ok _ rfl _ _ 114 rfl 3 118 keyI mapIW wZ (zeroW _) _ _ _ _ rfl hM3 _ rfl hkv ?_; rw [hv]; simp only [Option.getD_some, Option.isSome_some, eW]) | go_in)
         go_roundw
         case rel => exact ⟨j + 1, by omega, by go_num, H.out, hM4, hb4⟩
         case measure => simp [intOf]; omega
        ·have H : Hid (false = valuesB h) := hid (HNO.out (HRN.out (by rw [HD2.out]; simpa using huk))).symm
         have hne : (uk != xk) = true := by simpa using huk
         clear HRS HRN HD2 huk
         go_wp2_with (first | (at_lookup; refine wpList_lookI_ok _ rfl _ _ 114 rfl 3 118 keyI mapIW wZ (zeroW _) _ _ _ _ rfl hM3 _ rfl hkv ?_; rw [hv]; simp only [Option.getD_some, Option.isSome_some, eW]) | go_in)
         go_ret
         exact ⟨ret_b H.out, hb4⟩
    ·have hj2 : j = l.length := by omega
     subst hj2
     have H : Hid ((h.take (k + 1)).all (fun t => rowOk F t.l) = true) := hid (by have := HR.out; rw [List.take_length] at this; rw [HS.out, HP.out, this]; rfl)
     go_wp2_with fail
     go_roundw
     case rel => exact ⟨k + 1, by omega, by go_num, H.out, hM2, hb2⟩
     case measure => simp [intOf]; omega
  ·have hkl : k = h.length := by omega
   subst hkl
   have H : Hid (true = valuesB h) := hid (HVY.out (by have := HP.out; rw [List.take_length] at this; exact this)).symm
   go_wp2_with fail
   go_ret
   exact ⟨ret_b H.out, hb⟩
end

section
open Go.RowKit
def rightB (h : List TxnV) : Bool := partsB h && (valuesB h && (stampsB h && sesB h))
def checkI (h : List TxnV) : Int := if 64 < h.length ∨ 1024 < opsN h then 3 else if rightB h then 0 else 2
theorem opsN_short : ∀ (h : List TxnV), Short h → opsN h ≤ h.length * 6000000000000
 | [], _ => by simp [opsN]
 | t :: h, hs => by
  have h1 := opsN_short h (fun u hu => hs u (List.mem_cons_of_mem _ hu))
  have h2 := hs t List.mem_cons_self
  unfold opsN at *
  simp only [List.map_cons, List.sum_cons, List.length_cons]
  omega
theorem parts_keys {h : List TxnV} (hp : partsB h = true) : ∀ t ∈ h, keysIn t.l := by
 intro t ht
 have := List.all_eq_true.1 hp t ht
 unfold mayT at this
 simp only [Bool.and_eq_true] at this
 exact allM_keys this.2
theorem hcheck_any (va : Value) (h : List TxnV) (w : World) (hT : Txns w va h) (hok : ∀ t ∈ h, t.ok) (hsh : Short h) :
  Calls Tryz.prog 29 #[va] w fun e w' => e = .returned (.int .i64 (checkI h)) ∧ Below w.heap.size w w' := by
 obtain ⟨ao, cap, rfl, hal⟩ := hT.form
 by_cases hbig : 64 < h.length
 ·have hbig' : (64 : Int) < (h.length : Int) := by omega
  have H : Hid ((3 : Int) = checkI h) := hid (by unfold checkI; rw [if_pos (.inl hbig)])
  go_enter Tryz.func29, Tryz.ntmps29
  go_wp2_with fail
  go_ret
  exact ⟨ret_int H.out, Below.refl _ _⟩
 have hbf : decide ((64 : Int) < (h.length : Int)) = false := by simp; omega
 have hle := opsN_short h hsh
 have CO := hid (hops_any _ h w hT (by omega))
 have HT := hid (fun wx (hx : Below w.heap.size w wx) => hT.below hx)
 have HOK := hid hok
 clear hT hok hsh
 go_enter Tryz.func29, Tryz.ntmps29
 go_wp2_with fail
 refine (CO.out).mono ?_
 rintro e w1 ⟨rfl, hb1⟩
 clear CO
 by_cases hov : 1024 < opsN h
 ·have hov' : (1024 : Int) < (opsN h : Int) := by omega
  have H : Hid ((3 : Int) = checkI h) := hid (by unfold checkI; rw [if_pos (.inr hov)])
  go_wp2_with fail
  go_ret
  exact ⟨ret_int H.out, hb1⟩
 have hov' : decide ((1024 : Int) < (opsN h : Int)) = false := by simp; omega
 have HCK : Hid (checkI h = if rightB h then 0 else 2) := hid (by unfold checkI; rw [if_neg (by omega)])
 have CP := hid (parts_any _ h w1 (HT.out _ hb1))
 cases hp : partsB h
 ·have H : Hid ((2 : Int) = checkI h) := hid (by rw [HCK.out]; unfold rightB; rw [hp]; rfl)
  rw [hp] at CP
  clear hp
  go_wp2_with fail
  refine (CP.out).mono ?_
  rintro e w2 ⟨rfl, hb2⟩
  have hb3 := below_then hb1 hb2
  go_wp2_with fail
  go_ret
  exact ⟨ret_int H.out, hb3⟩
 rw [hp] at CP
 have HKS := hid (parts_keys hp)
 have HR1 : Hid (rightB h = (valuesB h && (stampsB h && sesB h))) := hid (by unfold rightB; rw [hp]; rfl)
 clear hp
 go_wp2_with fail
 refine (CP.out).mono ?_
 rintro e w2 ⟨rfl, hb2⟩
 have hb3 := below_then hb1 hb2
 have CV := hid (values_any _ h w2 (HT.out _ hb3) HOK.out HKS.out (by omega) (by omega))
 clear CP hb1 hb2
 cases hv : valuesB h
 ·have H : Hid ((2 : Int) = checkI h) := hid (by rw [HCK.out, HR1.out, hv]; rfl)
  rw [hv] at CV
  clear hv
  go_wp2_with fail
  refine (CV.out).mono ?_
  rintro e w4 ⟨rfl, hb4⟩
  have hb5 := below_then hb3 hb4
  go_wp2_with fail
  go_ret
  exact ⟨ret_int H.out, hb5⟩
 rw [hv] at CV
 have HR2 : Hid (rightB h = (stampsB h && sesB h)) := hid (by rw [HR1.out, hv]; rfl)
 clear hv HR1
 go_wp2_with fail
 refine (CV.out).mono ?_
 rintro e w4 ⟨rfl, hb4⟩
 have hb5 := below_then hb3 hb4
 have CS := hid (stamps_any _ h w4 (HT.out _ hb5) HOK.out (by omega))
 clear CV hb3 hb4
 cases hs : stampsB h
 ·have H : Hid ((2 : Int) = checkI h) := hid (by rw [HCK.out, HR2.out, hs]; rfl)
  rw [hs] at CS
  clear hs
  go_wp2_with fail
  refine (CS.out).mono ?_
  rintro e w6 ⟨rfl, hb6⟩
  have hb7 := below_then hb5 hb6
  go_wp2_with fail
  go_ret
  exact ⟨ret_int H.out, hb7⟩
 rw [hs] at CS
 have HR3 : Hid (rightB h = sesB h) := hid (by rw [HR2.out, hs]; rfl)
 clear hs HR2
 go_wp2_with fail
 refine (CS.out).mono ?_
 rintro e w6 ⟨rfl, hb6⟩
 have hb7 := below_then hb5 hb6
 have CE := hid (sessions_any _ h w6 (HT.out _ hb7) HOK.out (by omega))
 clear CS hb5 hb6
 cases hse : sesB h
 ·have H : Hid ((2 : Int) = checkI h) := hid (by rw [HCK.out, HR3.out, hse]; rfl)
  rw [hse] at CE
  clear hse
  go_wp2_with fail
  refine (CE.out).mono ?_
  rintro e w8 ⟨rfl, hb8⟩
  have hb9 := below_then hb7 hb8
  go_wp2_with fail
  go_ret
  exact ⟨ret_int H.out, hb9⟩
 ·have H : Hid ((0 : Int) = checkI h) := hid (by rw [HCK.out, HR3.out, hse]; rfl)
  rw [hse] at CE
  clear hse
  go_wp2_with fail
  refine (CE.out).mono ?_
  rintro e w8 ⟨rfl, hb8⟩
  have hb9 := below_then hb7 hb8
  go_wp2_with fail
  go_ret
  exact ⟨ret_int H.out, hb9⟩
end

section
open Go.RowKit
theorem owns_apart {w : World} {b1 b2 : Nat} {e1 e2 : TypeId} {s1 s2 : Nat} {v1 v2 : Value} {n1 n2 : Nat} {x1 x2 : List Value} (h1 : w.ownsRow b1 e1 s1 v1 n1 x1) (h2 : w.ownsRow b2 e2 s2 v2 n2 x2) (he : e1 ≠ e2) : v1.ownBlock = none ∨ v1.ownBlock ≠ v2.ownBlock := by
 obtain ⟨_, h1⟩ := h1
 obtain ⟨_, h2⟩ := h2
 rcases h1 with ⟨rfl, _⟩ | ⟨g1, c1, cur1, rfl, _, hh1, _⟩
 ·exact .inl rfl
 ·right
  rcases h2 with ⟨rfl, _⟩ | ⟨g2, c2, cur2, rfl, _, hh2, _⟩
  ·simp [Value.ownBlock]
  ·intro e
   simp [Value.ownBlock] at e
   subst e
   rw [hh1] at hh2
   injection hh2 with hh2
   injection hh2 with _ hh2
   exact he hh2
theorem owns_cell_any {w : World} {base : Nat} {e : TypeId} {size : Nat} {v : Value} {n : Nat} {xs : List Value} (h : w.ownsRow base e size v n xs) {a : Addr} (hg : a.block < base) (x : Value) : (w.setCell a x).ownsRow base e size v n xs := by
 refine h.kept (row := some a.block) ⟨rfl, rfl, rfl, by simp, fun k hk hne => ?_⟩ ?_
 ·exact heap_setCell_other w a k x (fun e3 => hne (by rw [e3]))
 ·rcases h.2 with ⟨rfl, _⟩ | ⟨g, cap, cur, rfl, hb, _⟩
  ·exact .inl rfl
  ·right
   simp [Value.ownBlock]; omega
abbrev KRow := Value × List Int
abbrev RRow := Value × List (Int × Int)
section
variable {b : Nat} {w : World} {vk vr : Value} {K : List KRow} {R : List RRow}
end
theorem check_zero {h : List TxnV} (hc : checkI h = 0) : h.length ≤ 64 ∧ opsN h ≤ 1024 ∧ okW h = true ∧ ∀ t ∈ h, keysIn t.l := by
 unfold checkI at hc
 by_cases hb : 64 < h.length ∨ 1024 < opsN h
 ·rw [if_pos hb] at hc; omega
 ·rw [if_neg hb] at hc
  cases hr : rightB h
  ·rw [hr] at hc; simp at hc
  ·unfold rightB valuesB at hr
   simp only [Bool.and_eq_true] at hr
   exact ⟨by omega, by omega, hr.2.1.1, parts_keys hr.1⟩
end

section
open Go.RowKit
theorem MapI.cell {α : Type} {e : α → Value} {P : Program} {k : TypeId} {w : World} {b n : Nat} {f : Int → Option α} {c : Nat} (h : MapI e P k w b n f c) {a : Addr} (hb : b ≠ a.block) (v : Value) : MapI e P k (w.setCell a v) b n f c :=
 h.kept (row := some a.block) ⟨rfl, rfl, rfl, by simp, fun j hj hne => heap_setCell_other w a j v (fun e => hne (by rw [e]))⟩ (fun e => hb (by injection e))
theorem below_putC {B g : Nat} {W : World} (hg : B ≤ g) : ∀ (vs : List Value) (o : Nat) (w : World), Below B W w → Below B W (w.setCells g o vs)
 | [], _, _, h => h
 | v :: r, o, w, h => by rw [World.setCells]; exact below_putC hg r (o + 1) _ (h.setCell hg v)
theorem cell_put {g : Nat} {p : Addr} (hp : p.block ≠ g) (vs : List Value) (o : Nat) (w : World) : (w.setCells g o vs).cell? p = w.cell? p := World.cell?_setCells_out g vs o w p (fun e _ => absurd e hp)
section
variable {W w w' : World} {A : Nat} {va : Value} {n : Int} {S T F : Mat} {vm vk vr : Value} {sd : Bool} {K : List KRow} {R : List RRow}
end
end

section
open Go.RowKit
theorem takeG {P : Program} {ops : Array Oper} {Q : Exit → Act → World → Prop} {md : Region.Mode} {S : World → Prop} (d : Option Tmp) {i : Nat} {oi : Oper} {v : Value} {fuel : Nat} {listed : Array Bool} {a : Act} {w : World} (hi : ops[i]? = some oi) (hd : oi.dst = d)
  (hs : Region.noSelect ops = true) (hf : Region.free md ops listed i = true) (hr : (Region.ready md ops listed).contains i = true)
  (hQ : ∀ c a w, Q (.panic c) (a.put oi.dst v) w → Q (.panic c) a w) (hy : YieldsIf P ops S oi v a) (hS : S w)
  (h : wpAnyH P md ops Q S fuel (listed.setIfInBounds i true) (a.put d v) w) : wpAnyH P md ops Q S (fuel + 1) listed a w := by
 subst hd; exact wpAnyH_take hi hs hf hr hQ hy hS h
end

section
open Go.RowKit
theorem mayop_any (wr : Bool) (key val : Int) (w : World) :
  Calls Tryz.prog 76 #[.agg #[.bool wr, .int .i64 key, .int .i64 val]] w fun e w' => e = .returned (.bool (mayO ⟨wr, key, val⟩)) ∧ Below w.heap.size w w' := by
 have hi : mayO ⟨wr, key, val⟩ = true ↔ (0 ≤ key ∧ key < 64) ∧ (0 ≤ val ∧ val ≤ 2147483647) ∧ (wr = true → val ≠ 0) := mayO_iff ⟨wr, key, val⟩
 have hb := box_below w (.cells #[.bool wr, .int .i64 key, .int .i64 val] 54)
 have NO : Hid (¬ ((0 ≤ key ∧ key < 64) ∧ (0 ≤ val ∧ val ≤ 2147483647) ∧ (wr = true → val ≠ 0)) → false = mayO ⟨wr, key, val⟩) := hid (fun h => by
  cases hm : mayO ⟨wr, key, val⟩
  ·rfl
  ·exact absurd (hi.1 hm) h)
 by_cases d1 : key < 0
 ·have H := hid (NO.out (by omega))
  go_enter Tryz.func76, Tryz.ntmps76
  go_wp2_with fail
  go_ret
  exact ⟨ret_b H.out, hb⟩
 by_cases d2 : (63 : Int) < key
 ·have H := hid (NO.out (by omega))
  go_enter Tryz.func76, Tryz.ntmps76
  go_wp2_with fail
  go_ret
  exact ⟨ret_b H.out, hb⟩
 by_cases d3 : val < 0
 ·have H := hid (NO.out (by omega))
  go_enter Tryz.func76, Tryz.ntmps76
  go_wp2_with fail
  go_ret
  exact ⟨ret_b H.out, hb⟩
 by_cases d4 : (2147483647 : Int) < val
 ·have H := hid (NO.out (by omega))
  go_enter Tryz.func76, Tryz.ntmps76
  go_wp2_with fail
  go_ret
  exact ⟨ret_b H.out, hb⟩
 cases wr
 ·have H : Hid (true = mayO ⟨false, key, val⟩) := hid (hi.2 ⟨by omega, by omega, fun h => by cases h⟩).symm
  clear hi NO
  go_enter Tryz.func76, Tryz.ntmps76
  go_wp2_with fail
  go_ret
  exact ⟨ret_b H.out, hb⟩
 ·by_cases d5 : val = 0
  ·have H := hid (NO.out (fun h => h.2.2 rfl d5))
   subst d5
   clear hi NO
   go_enter Tryz.func76, Tryz.ntmps76
   go_wp2_with fail
   go_ret
   exact ⟨ret_b H.out, hb⟩
  ·have H : Hid (true = mayO ⟨true, key, val⟩) := hid (hi.2 ⟨by omega, by omega, fun _ => d5⟩).symm
   have d6 : (val != 0) = true := by simpa using d5
   clear hi NO d5
   go_enter Tryz.func76, Tryz.ntmps76
   go_wp2_with fail
   go_ret
   exact ⟨ret_b H.out, hb⟩
theorem maytxn_any (s b c : Int) (va : Value) (l : List OpV) (w : World) (ha : Ops w va l) :
  Calls Tryz.prog 52 #[.agg #[.int .i64 s, .int .i64 b, .int .i64 c, va]] w fun e w' => e = .returned (.bool (mayT s b c l)) ∧ Below w.heap.size w w' := by
 obtain ⟨ao, cap, rfl, hal⟩ := ha.form
 have hb0 := (Below.refl w.heap.size w).alloc (Nat.le_refl _) (.cells #[.int .i64 s, .int .i64 b, .int .i64 c, .slice ao l.length cap] 52)
 have hA0 := At.new w (.cells #[.int .i64 s, .int .i64 b, .int .i64 c, .slice ao l.length cap] 52)
 have NO : Hid (¬ (0 ≤ s ∧ s < 64 ∧ 0 ≤ b ∧ b < c ∧ c ≤ 2147483647 ∧ 1 ≤ l.length ∧ l.length ≤ 64) → false = mayT s b c l) := hid (fun h => (mayT_no h).symm)
 by_cases d1 : s < 0
 ·have H := hid (NO.out (by omega))
  go_enter Tryz.func52, Tryz.ntmps52
  go_wp2_with fail
  go_ret
  exact ⟨ret_b H.out, hb0⟩
 by_cases d2 : (63 : Int) < s
 ·have H := hid (NO.out (by omega))
  go_enter Tryz.func52, Tryz.ntmps52
  go_wp2_with fail
  go_ret
  exact ⟨ret_b H.out, hb0⟩
 by_cases d3 : b < 0
 ·have H := hid (NO.out (by omega))
  go_enter Tryz.func52, Tryz.ntmps52
  go_wp2_with fail
  go_ret
  exact ⟨ret_b H.out, hb0⟩
 by_cases d4 : c ≤ b
 ·have H := hid (NO.out (by omega))
  go_enter Tryz.func52, Tryz.ntmps52
  go_wp2_with fail
  go_ret
  exact ⟨ret_b H.out, hb0⟩
 by_cases d5 : (2147483647 : Int) < c
 ·have H := hid (NO.out (by omega))
  go_enter Tryz.func52, Tryz.ntmps52
  go_wp2_with fail
  go_ret
  exact ⟨ret_b H.out, hb0⟩
 by_cases d6 : (l.length : Int) < 1
 ·have H := hid (NO.out (by omega))
  go_enter Tryz.func52, Tryz.ntmps52
  go_wp2_with fail
  go_ret
  exact ⟨ret_b H.out, hb0⟩
 by_cases d7 : (64 : Int) < (l.length : Int)
 ·have H := hid (NO.out (by omega))
  go_enter Tryz.func52, Tryz.ntmps52
  go_wp2_with fail
  go_ret
  exact ⟨ret_b H.out, hb0⟩
 have YES : Hid (mayT s b c l = allM l) := hid (mayT_yes (by omega))
 clear NO
 go_enter Tryz.func52, Tryz.ntmps52
 go_wp2_with fail
 clear d1 d2 d3 d4 d5 d6 d7
 go_loopw [3] (fun i wr => ∃ k : Nat, k ≤ l.length ∧ i = .int .i64 k ∧ allM (l.take k) = true ∧ At wr w.heap.size (.cells #[.int .i64 s, .int .i64 b, .int .i64 c, .slice ao l.length cap] 52) ∧ Below w.heap.size w wr) (fun i _ => l.length - (intOf i).toNat)
 case atStart => exact ⟨0, by omega, rfl, rfl, hA0, hb0⟩
 case round =>
  obtain ⟨k, hk, rfl, hal2, hA, hb⟩ := hrel
  have HA := hid hal2
  clear hal2 hb0 hA0
  obtain ⟨q0, q1, q2, q3⟩ := hA.cells4
  by_cases hlt : k < l.length
  ·have hki : (k : Int) < (l.length : Int) := by omega
   obtain ⟨g, o, hao, c0, c1, c2⟩ := (ha.below hb).at hlt
   cases hao
   have HS := hid (allM_succ l k hlt)
   have HNO := hid (allM_no l k hlt)
   generalize l[k] = x at *
   obtain ⟨xw, xk, xv⟩ := x
   try simp only at c0 c1 c2
   have CR := hid (mayop_any xw xk xv wr)
   generalize mayO ⟨xw, xk, xv⟩ = q at *
   go_wp2_with fail
   refine (CR.out).mono ?_
   rintro e w1 ⟨rfl, hb1⟩
   have hb2 := below_then hb hb1
   have hA1 := hA.below hb1
   clear CR q0 q1 q2 q3
   cases q
   ·have H : Hid (false = mayT s b c l) := hid (by rw [YES.out, HNO.out rfl])
    go_wp2_with fail
    go_ret
    exact ⟨ret_b H.out, hb2⟩
   ·have H : Hid (allM (l.take (k + 1)) = true) := hid (by rw [HS.out, HA.out]; rfl)
    go_wp2_with fail
    go_roundw
    case rel => exact ⟨k + 1, by omega, by go_num, H.out, hA1, hb2⟩
    case measure => simp [intOf]; omega
  ·have hkl : k = l.length := by omega
   have H : Hid (true = mayT s b c l) := hid (by have := HA.out; rw [hkl, List.take_length] at this; rw [YES.out, this])
   go_wp2_with fail
   go_ret
   exact ⟨ret_b H.out, hb⟩
def tmO (x : Int) (l : List OpV) : Nat := (wv l).count x
def tmH (x : Int) (h : List TxnV) : Nat := (wvH h).count x
theorem tmO_succ (x : Int) (l : List OpV) (k : Nat) (hk : k < l.length) : tmO x (l.take (k + 1)) = tmO x (l.take k) + (if l[k].wr = true ∧ l[k].val = x then 1 else 0) := by
 unfold tmO
 rw [take_snoc l k hk, wv_snoc, List.count_append]
 cases hw : l[k].wr
 ·simp
 ·by_cases e : l[k].val = x <;> simp [e]
theorem tmH_succ (x : Int) (h : List TxnV) (k : Nat) (hk : k < h.length) : tmH x (h.take (k + 1)) = tmH x (h.take k) + tmO x h[k].l := by
 unfold tmH tmO; rw [wvH_succ h k hk, List.count_append]
theorem tmO_le (x : Int) (l : List OpV) (k : Nat) : tmO x (l.take k) ≤ k := by
 unfold tmO
 have h1 := List.count_le_length (a := x) (l := wv (l.take k))
 have h2 := wv_len (l.take k)
 rw [List.length_take] at h2
 omega
theorem tmH_le (x : Int) (h : List TxnV) : tmH x h ≤ opsN h := by
 unfold tmH
 have h1 := List.count_le_length (a := x) (l := wvH h)
 have h2 : (wvH h).length ≤ opsN h := by
  unfold wvH opsN
  rw [List.length_flatMap]
  clear h1
  induction h with
  | nil => simp
  | cons t h ih =>
   have := wv_len t.l
   simp only [List.map_cons, List.sum_cons]
   omega
 omega
theorem times_any (va : Value) (h : List TxnV) (x : Int) (w : World) (hT : Txns w va h) (hn : opsN h ≤ 100000) :
  Calls Tryz.prog 53 #[va, .int .i64 x] w fun e w' => e = .returned (.int .i64 (tmH x h)) ∧ Below w.heap.size w w' := by
 obtain ⟨ao, cap, rfl, hal⟩ := hT.form
 go_enter Tryz.func53, Tryz.ntmps53
 go_wp2_with fail
 go_loopw [5, 6] (fun n i wr => ∃ k : Nat, k ≤ h.length ∧ i = .int .i64 k ∧ n = .int .i64 (tmH x (h.take k)) ∧ w = wr) (fun _ i _ => h.length - (intOf i).toNat)
 case atStart => exact ⟨0, by omega, rfl, by simp [tmH, wvH], rfl⟩
 case round =>
  obtain ⟨k, hk, rfl, rfl, rfl⟩ := hrel
  by_cases hlt : k < h.length
  ·have hki : (k : Int) < (h.length : Int) := by omega
   obtain ⟨g, o, hao, c0, c1, c2, c3⟩ := hT.at hlt
   cases hao
   have HS := hid (tmH_succ x h k hlt)
   have hle1 := tmH_le x (h.take k)
   have hle2 := opsN_le h k
   have hle3 := opsN_at h k hlt
   obtain ⟨ai, capi, hv, hli⟩ := (hT.ops hlt).form
   have hO := hT.ops hlt
   rw [hv] at c3 hO
   generalize h[k].l = l at *
   generalize tmH x (h.take k) = m at *
   clear hv c0 c1 c2 hT
   go_wp2_with fail
   go_loopw [5, 7] (fun n i wx => ∃ j : Nat, j ≤ l.length ∧ i = .int .i64 j ∧ n = .int .i64 ((m + tmO x (l.take j) : Nat)) ∧ w = wx) (fun _ i _ => l.length - (intOf i).toNat)
   case atStart => exact ⟨0, by omega, rfl, by simp [tmO, wv], rfl⟩
   case round =>
    obtain ⟨j, hj, rfl, rfl, rfl⟩ := hrel
    have htj := tmO_le x l j
    by_cases hltj : j < l.length
    ·have hkj : (j : Int) < (l.length : Int) := by omega
     obtain ⟨g2, o2, hao2, e0, e1, e2⟩ := hO.at hltj
     cases hao2
     have HSJ := hid (tmO_succ x l j hltj)
     generalize l[j] = y at *
     obtain ⟨yw, yk, yv⟩ := y
     try simp only at e0 e1 e2
     generalize tmO x (l.take j) = n at *
     cases yw with
     | false =>
      have H : Hid (tmO x (l.take (j + 1)) = n) := hid (by rw [HSJ.out]; simp)
      clear HSJ
      go_wp2_with fail
      go_roundw
      case rel => exact ⟨j + 1, by omega, by go_num, by rw [H.out], by first | rfl | trivial⟩
      case measure => simp [intOf]; omega
     | true =>
      by_cases hx : yv = x
      ·have H : Hid (tmO x (l.take (j + 1)) = n + 1) := hid (by rw [HSJ.out]; simp [hx])
       subst hx
       clear HSJ
       go_wp2_with fail
       go_roundw
       case rel => exact ⟨j + 1, by omega, by go_num, by rw [H.out]; go_num, by first | rfl | trivial⟩
       case measure => simp [intOf]; omega
      ·have H : Hid (tmO x (l.take (j + 1)) = n) := hid (by rw [HSJ.out]; simp [hx])
       have hx' : (yv == x) = false := by simpa using hx
       clear HSJ hx
       go_wp2_with fail
       go_roundw
       case rel => exact ⟨j + 1, by omega, by go_num, by rw [H.out], by first | rfl | trivial⟩
       case measure => simp [intOf]; omega
    ·have hj2 : j = l.length := by omega
     subst hj2
     have H : Hid (tmH x (h.take (k + 1)) = m + tmO x (l.take l.length)) := hid (by rw [HS.out, List.take_length])
     generalize tmO x (l.take l.length) = n at *
     go_wp2_with fail
     go_roundw
     case rel => exact ⟨k + 1, by omega, by go_num, by rw [H.out], by first | rfl | trivial⟩
     case measure => simp [intOf]; omega
  ·have hkl : k = h.length := by omega
   subst hkl
   have H : Hid ((tmH x (h.take h.length) : Int) = tmH x h) := hid (by rw [List.take_length])
   generalize tmH x (h.take h.length) = n at *
   go_wp2_with fail
   go_ret
   exact ⟨ret_int H.out, Below.refl _ _⟩
end

section
open Go.RowKit
def isWr (key x : Int) (o : OpV) : Bool := o.wr && (o.key == key && o.val == x)
def wrI (key x : Int) (h : List TxnV) : Int := match h.findIdx? (fun t => t.l.any (isWr key x)) with
 | some i => i
 | none => -1
theorem wrI_hit {key x : Int} {h : List TxnV} {k j : Nat} (hk : k < h.length) (hj : j < h[k].l.length) (hn : ∀ i, ∀ hi : i < k, (h[i]'(by omega)).l.any (isWr key x) = false) (hh : isWr key x h[k].l[j] = true) : wrI key x h = k := by
 unfold wrI
 have : h.findIdx? (fun t => t.l.any (isWr key x)) = some k := by
  rw [List.findIdx?_eq_some_iff_getElem]
  exact ⟨hk, List.any_eq_true.2 ⟨_, List.getElem_mem hj, hh⟩, fun i hi => by rw [hn i hi]; simp⟩
 rw [this]
theorem wrI_none {key x : Int} {h : List TxnV} (hn : ∀ i, ∀ hi : i < h.length, h[i].l.any (isWr key x) = false) : wrI key x h = -1 := by
 unfold wrI
 have : h.findIdx? (fun t => t.l.any (isWr key x)) = none := by
  rw [List.findIdx?_eq_none_iff]
  intro t ht
  obtain ⟨i, hi, rfl⟩ := List.getElem_of_mem ht
  exact hn i hi
 rw [this]
theorem wrI_nonneg {key x : Int} {h : List TxnV} : wrI key x h < 0 ↔ ∀ t ∈ h, ∀ o ∈ t.l, isWr key x o = false := by
 unfold wrI
 cases hf : h.findIdx? (fun t => t.l.any (isWr key x)) with
 | none =>
  rw [List.findIdx?_eq_none_iff] at hf
  simp only [Int.reduceNeg, Int.reduceLT, true_iff]
  intro t ht o ho
  have := List.any_eq_false.1 (hf t ht) o ho
  simpa using this
 | some i =>
  rw [List.findIdx?_eq_some_iff_getElem] at hf
  obtain ⟨hi, h1, _⟩ := hf
  constructor
  ·intro h2; simp only at h2; omega
  ·intro h2
   obtain ⟨o, ho, hw⟩ := List.any_eq_true.1 h1
   rw [h2 _ (List.getElem_mem hi) o ho] at hw
   cases hw
theorem writer_any (va : Value) (h : List TxnV) (key x : Int) (w : World) (hT : Txns w va h) :
  Calls Tryz.prog 54 #[va, .int .i64 key, .int .i64 x] w fun e w' => e = .returned (.int .i64 (wrI key x h)) ∧ Below w.heap.size w w' := by
 obtain ⟨ao, cap, rfl, hal⟩ := hT.form
 have HT := hid (fun wx (hx : Below w.heap.size w wx) => hT.below hx)
 have HHIT : Hid (∀ k j, ∀ hk : k < h.length, ∀ hj : j < h[k].l.length, (∀ i, ∀ hi : i < k, (h[i]'(by omega)).l.any (isWr key x) = false) → isWr key x h[k].l[j] = true → (k : Int) = wrI key x h) := hid (fun k j hk hj hn hh => (wrI_hit hk hj hn hh).symm)
 have HNONE : Hid ((∀ i, ∀ hi : i < h.length, h[i].l.any (isWr key x) = false) → (-1 : Int) = wrI key x h) := hid (fun hn => (wrI_none hn).symm)
 clear hT
 go_enter Tryz.func54, Tryz.ntmps54
 go_wp2_with fail
 go_loopw [7] (fun i wr => ∃ k : Nat, k ≤ h.length ∧ i = .int .i64 k ∧ (∀ i, ∀ _ : i < k, ∀ hi2 : i < h.length, h[i].l.any (isWr key x) = false) ∧ Below w.heap.size w wr) (fun i _ => h.length - (intOf i).toNat)
 case atStart => exact ⟨0, by omega, rfl, by omega, Below.refl _ _⟩
 case round =>
  obtain ⟨k, hk, rfl, hN, hb⟩ := hrel
  have HN := hid hN
  clear hN
  by_cases hlt : k < h.length
  ·have hki : (k : Int) < (h.length : Int) := by omega
   obtain ⟨g, o, hao, c0, c1, c2, c3⟩ := (HT.out _ hb).at hlt
   cases hao
   have HOP := hid (fun wx (hx : Below w.heap.size w wx) => (HT.out wx hx).ops hlt)
   have HAT := hid (fun wx (hx : Below w.heap.size w wx) => (HT.out wx hx).at hlt)
   have HHK := hid (fun j hj hh => HHIT.out k j hlt hj (fun i hi => HN.out i hi (by omega)) hh)
   have HLK : Hid (h[k].l.any (isWr key x) = false → ∀ i, ∀ _ : i < k + 1, ∀ hi2 : i < h.length, h[i].l.any (isWr key x) = false) := hid (fun hh i hi hi2 => by
    rcases Nat.lt_or_eq_of_le (Nat.le_of_lt_succ hi) with h1 | rfl
    ·exact HN.out i h1 hi2
    ·exact hh)
   obtain ⟨ai, capi, hv, hli⟩ := ((HT.out _ hb).ops hlt).form
   rw [hv] at HOP c3 HAT
   generalize h[k].l = l at *
   clear hv c0 c1 c2 c3 HHIT HNONE
   go_wp2_with fail
   go_loopw [8] (fun i wx => ∃ j : Nat, j ≤ l.length ∧ i = .int .i64 j ∧ ((l.take j).any (isWr key x) = false) ∧ Below w.heap.size w wx) (fun i _ => l.length - (intOf i).toNat)
   case atStart => exact ⟨0, by omega, rfl, rfl, hb⟩
   case round =>
    obtain ⟨j, hj, rfl, hA, hb2⟩ := hrel
    have HA := hid hA
    clear hA hb
    obtain ⟨_, _, hao, c0, c1, c2, c3⟩ := HAT.out _ hb2
    cases hao
    clear c0 c1 c2
    by_cases hltj : j < l.length
    ·have hkj : (j : Int) < (l.length : Int) := by omega
     obtain ⟨g2, o2, hao2, e0, e1, e2⟩ := (HOP.out _ hb2).at hltj
     cases hao2
     have HS : Hid ((l.take (j + 1)).any (isWr key x) = ((l.take j).any (isWr key x) || isWr key x l[j])) := hid (by rw [take_snoc l j hltj, List.any_append]; simp)
     have HH := hid (HHK.out j hltj)
     generalize l[j] = y at *
     obtain ⟨yw, yk, yv⟩ := y
     try simp only at e0 e1 e2
     have hb3 := hb2.alloc hb2.size (.cells #[.bool yw, .int .i64 yk, .int .i64 yv] 54)
     clear HHK
     cases yw with
     | false =>
      have H : Hid ((l.take (j + 1)).any (isWr key x) = false) := hid (by rw [HS.out, HA.out]; rfl)
      clear HS HH
      go_wp2_with fail
      go_roundw
      case rel => exact ⟨j + 1, by omega, by go_num, H.out, hb3⟩
      case measure => simp [intOf]; omega
     | true =>
      by_cases hyk : yk = key
      ·subst hyk
       by_cases hyv : yv = x
       ·have H := hid (HH.out (by subst hyv; unfold isWr; simp))
        subst hyv
        clear HS HH
        go_wp2_with fail
        go_ret
        exact ⟨ret_int H.out, hb3⟩
       ·have H : Hid ((l.take (j + 1)).any (isWr yk x) = false) := hid (by rw [HS.out, HA.out]; unfold isWr; simp [hyv])
        have hyv' : (yv == x) = false := by simpa using hyv
        clear HS HH hyv
        go_wp2_with fail
        go_roundw
        case rel => exact ⟨j + 1, by omega, by go_num, H.out, hb3⟩
        case measure => simp [intOf]; omega
      ·have H : Hid ((l.take (j + 1)).any (isWr key x) = false) := hid (by rw [HS.out, HA.out]; unfold isWr; simp [hyk])
       have hyk' : (yk == key) = false := by simpa using hyk
       clear HS HH hyk
       go_wp2_with fail
       go_roundw
       case rel => exact ⟨j + 1, by omega, by go_num, H.out, hb3⟩
       case measure => simp [intOf]; omega
    ·have hj2 : j = l.length := by omega
     subst hj2
     have H := hid (HLK.out (by have := HA.out; rwa [List.take_length] at this))
     go_wp2_with fail
     go_roundw
     case rel => exact ⟨k + 1, by omega, by go_num, H.out, hb2⟩
     case measure => simp [intOf]; omega
  ·have hkl : k = h.length := by omega
   subst hkl
   have H := hid (HNONE.out (fun i hi => HN.out i hi hi))
   clear HHIT HNONE
   go_wp2_with fail
   go_ret
   exact ⟨ret_int H.out, hb⟩
end

section
open Go.RowKit
def apartB (a t : TxnV) : Bool := (a.b != t.b && (a.b != t.c && (a.c != t.b && a.c != t.c))) && !(a.s == t.s && decide (t.b < a.c))
def opR (h : List TxnV) (o : OpV) : Bool := if o.wr then tmH o.val h == 1 else o.val == 0 || !decide (wrI o.key o.val h < 0)
def rowR (h : List TxnV) (k : Nat) (t : TxnV) : Bool := mayT t.s t.b t.c t.l && ((h.take k).all (fun a => apartB a t) && t.l.all (opR h))
def mayRef (h : List TxnV) : Bool := (List.range h.length).all fun k => match h[k]? with
 | some t => rowR h k t
 | none => true
theorem mayRef_no {h : List TxnV} {k : Nat} (hk : k < h.length) (hn : rowR h k h[k] = false) : mayRef h = false := by
 unfold mayRef
 rw [List.all_eq_false]
 exact ⟨k, List.mem_range.2 hk, by rw [List.getElem?_eq_getElem hk]; simp [hn]⟩
theorem mayRef_yes {h : List TxnV} (hn : ∀ k, ∀ hk : k < h.length, rowR h k h[k] = true) : mayRef h = true := by
 unfold mayRef
 rw [List.all_eq_true]
 intro k hk
 have := List.mem_range.1 hk
 rw [List.getElem?_eq_getElem this]; exact hn k this
theorem rowR_a {h : List TxnV} {k : Nat} {t : TxnV} (hn : mayT t.s t.b t.c t.l = false) : rowR h k t = false := by unfold rowR; rw [hn]; rfl
theorem rowR_b {h : List TxnV} {k : Nat} {t : TxnV} {j : Nat} (hj : j < k) (hk : k ≤ h.length) (hn : apartB (h[j]'(by omega)) t = false) : rowR h k t = false := by
 unfold rowR
 have : (h.take k).all (fun a => apartB a t) = false := List.all_eq_false.2 ⟨h[j]'(by omega), by rw [List.mem_take_iff_getElem]; exact ⟨j, by omega, rfl⟩, by simp [hn]⟩
 rw [this]; simp
theorem rowR_c {h : List TxnV} {k : Nat} {t : TxnV} {j : Nat} (hj : j < t.l.length) (hn : opR h t.l[j] = false) : rowR h k t = false := by
 unfold rowR
 have : t.l.all (opR h) = false := List.all_eq_false.2 ⟨t.l[j], List.getElem_mem hj, by simp [hn]⟩
 rw [this]; simp
theorem rmay_any (va : Value) (h : List TxnV) (w : World) (hT : Txns w va h) (hn : opsN h ≤ 100000) :
  Calls Tryz.prog 28 #[va] w fun e w' => e = .returned (.bool (mayRef h)) ∧ Below w.heap.size w w' := by
 obtain ⟨ao, cap, rfl, hal⟩ := hT.form
 have HT := hid (fun wx (hx : Below w.heap.size w wx) => hT.below hx)
 have HNO : Hid (∀ k, ∀ hk : k < h.length, rowR h k h[k] = false → false = mayRef h) := hid (fun k hk hh => (mayRef_no hk hh).symm)
 have HTM : Hid (∀ x wx, Below w.heap.size w wx → Calls Tryz.prog 53 #[.slice ao h.length cap, .int .i64 x] wx fun e w' => e = .returned (.int .i64 (tmH x h)) ∧ Below wx.heap.size wx w') := hid (fun x wx hx => times_any _ h x wx (hT.below hx) hn)
 have HWR : Hid (∀ key x wx, Below w.heap.size w wx → Calls Tryz.prog 54 #[.slice ao h.length cap, .int .i64 key, .int .i64 x] wx fun e w' => e = .returned (.int .i64 (wrI key x h)) ∧ Below wx.heap.size wx w') := hid (fun key x wx hx => writer_any _ h key x wx (hT.below hx))
 clear hT
 go_enter Tryz.func28, Tryz.ntmps28
 go_wp2_with fail
 go_loopw [3] (fun i wr => ∃ k : Nat, k ≤ h.length ∧ i = .int .i64 k ∧ (∀ j, ∀ _ : j < k, ∀ hj : j < h.length, rowR h j h[j] = true) ∧ Below w.heap.size w wr) (fun i _ => h.length - (intOf i).toNat)
 case atStart => exact ⟨0, by omega, rfl, by omega, Below.refl _ _⟩
 case round =>
  obtain ⟨k, hk, rfl, hN, hb⟩ := hrel
  have HN := hid hN
  clear hN
  by_cases hlt : k < h.length
  ·have hki : (k : Int) < (h.length : Int) := by omega
   obtain ⟨g, o, hao, c0, c1, c2, c3⟩ := (HT.out _ hb).at hlt
   cases hao
   have HOP := hid (fun wx (hx : Below w.heap.size w wx) => (HT.out wx hx).ops hlt)
   have HAT := hid (fun wx (hx : Below w.heap.size w wx) => (HT.out wx hx).at hlt)
   have HAJ := hid (fun wx (hx : Below w.heap.size w wx) j (hj : j < h.length) => (HT.out wx hx).at hj)
   have HNK := hid (HNO.out k hlt)
   have HLK : Hid (rowR h k h[k] = true → ∀ i, ∀ _ : i < k + 1, ∀ hi2 : i < h.length, rowR h i h[i] = true) := hid (fun hh i hi hi2 => by
    rcases Nat.lt_or_eq_of_le (Nat.le_of_lt_succ hi) with h1 | rfl
    ·exact HN.out i h1 hi2
    ·exact hh)
   have HJV : Hid (∀ wx, Below w.heap.size w wx → ∀ j, ∀ hj : j < h.length, ∃ a' m' c', (h[j]).v = .slice a' m' c') := hid (fun wx hx j hj => by
    obtain ⟨a', c', hv', _⟩ := ((HT.out wx hx).ops hj).form
    exact ⟨a', _, c', hv'⟩)
   generalize ht : h[k] = t at *
   have HTK := hid ht
   clear ht
   obtain ⟨s, b, c, v, l⟩ := t
   simp only at c0 c1 c2 c3 HOP HAT
   obtain ⟨ai, capi, rfl, hli⟩ := (HOP.out _ hb).form
   have CM := hid (maytxn_any s b c _ l wr (HOP.out _ hb))
   clear HN
   cases hm : mayT s b c l
   ·have H := hid (HNK.out (rowR_a hm))
    rw [hm] at CM
    clear hm HNK HLK HNO
    go_wp2_with fail
    refine (CM.out).mono ?_
    rintro e w1 ⟨rfl, hb1⟩
    have hb2 := below_then hb hb1
    go_wp2_with fail
    go_ret
    exact ⟨ret_b H.out, hb2⟩
   rw [hm] at CM
   have HM := hid hm
   clear hm
   go_wp2_with fail
   refine (CM.out).mono ?_
   rintro e w1 ⟨rfl, hb1⟩
   have hb2 := below_then hb hb1
   clear CM hb hb1 c0 c1 c2 c3
   go_wp2_with fail
   go_loopw [4] (fun i wx => ∃ j : Nat, j ≤ k ∧ i = .int .i64 j ∧ ((h.take j).all (fun a => apartB a ⟨s, b, c, .slice ai l.length capi, l⟩) = true) ∧ Below w.heap.size w wx) (fun i _ => k - (intOf i).toNat)
   case atStart => exact ⟨0, by omega, rfl, rfl, hb2⟩
   case round =>
    obtain ⟨j, hj, rfl, hA, hb3⟩ := hrel
    have HA := hid hA
    clear hA hb2
    by_cases hltj : j < k
    ·have hkj : (j : Int) < (k : Int) := by omega
     have hjl : j < h.length := by omega
     have hjl' : (j : Int) < (h.length : Int) := by omega
     obtain ⟨_, _, hao, c0, c1, c2, c3⟩ := HAJ.out _ hb3 j hjl
     cases hao
     have HS : Hid ((h.take (j + 1)).all (fun a => apartB a ⟨s, b, c, .slice ai l.length capi, l⟩) = ((h.take j).all (fun a => apartB a ⟨s, b, c, .slice ai l.length capi, l⟩) && apartB h[j] ⟨s, b, c, .slice ai l.length capi, l⟩)) := hid (by rw [List.take_succ_eq_append_getElem hjl, List.all_append]; simp)
     have HB := hid (fun hh => HNK.out (rowR_b hltj hk hh))
     obtain ⟨a1, m1, cap1, hv1⟩ := HJV.out _ hb3 j hjl
     rw [hv1] at c3
     generalize h[j] = u at *
     obtain ⟨us, ub, uc, uv, ul⟩ := u
     simp only at c0 c1 c2 hv1
     subst hv1
     have hb4 := hb3.alloc hb3.size (.cells #[.int .i64 us, .int .i64 ub, .int .i64 uc, .slice a1 m1 cap1] 52)
     have hb5 := hb4.alloc hb4.size (.cells #[.int .i64 s, .int .i64 b, .int .i64 c, .slice ai l.length capi] 52)
     obtain ⟨_, _, hao, e0, e1, e2, e3⟩ := HAT.out _ hb4
     cases hao
     have HAP : Hid (apartB ⟨us, ub, uc, .slice a1 m1 cap1, ul⟩ ⟨s, b, c, .slice ai l.length capi, l⟩ = ((ub != b && (ub != c && (uc != b && uc != c))) && !(us == s && decide (b < uc)))) := hid rfl
     generalize apartB ⟨us, ub, uc, .slice a1 m1 cap1, ul⟩ ⟨s, b, c, .slice ai l.length capi, l⟩ = q at *
     cases b1 : ub == b
     case true =>
      have H := hid (HB.out (by rw [HAP.out]; simp [bne, b1]))
      clear HLK HNO HNK HB HAP HS
      go_wp2_with fail
      go_ret
      exact ⟨ret_b H.out, hb5⟩
     cases b2 : ub == c
     case true =>
      have H := hid (HB.out (by rw [HAP.out]; simp [bne, b1, b2]))
      clear HLK HNO HNK HB HAP HS
      go_wp2_with fail
      go_ret
      exact ⟨ret_b H.out, hb5⟩
     cases b3 : uc == b
     case true =>
      have H := hid (HB.out (by rw [HAP.out]; simp [bne, b1, b2, b3]))
      clear HLK HNO HNK HB HAP HS
      go_wp2_with fail
      go_ret
      exact ⟨ret_b H.out, hb5⟩
     cases b4 : uc == c
     case true =>
      have H := hid (HB.out (by rw [HAP.out]; simp [bne, b1, b2, b3, b4]))
      clear HLK HNO HNK HB HAP HS
      go_wp2_with fail
      go_ret
      exact ⟨ret_b H.out, hb5⟩
     cases b5 : us == s
     case false =>
      have H : Hid ((h.take (j + 1)).all (fun a => apartB a ⟨s, b, c, .slice ai l.length capi, l⟩) = true) := hid (by rw [HS.out, HA.out, HAP.out]; simp [bne, b1, b2, b3, b4, b5])
      clear HB HAP HS
      go_wp2_with fail
      go_roundw
      case rel => exact ⟨j + 1, by omega, by go_num, H.out, hb5⟩
      case measure => simp [intOf]; omega
     by_cases d6 : b < uc
     ·have H := hid (HB.out (by rw [HAP.out]; simp [bne, b1, b2, b3, b4, b5, d6]))
      clear HLK HNO HNK HB HAP HS
      go_wp2_with fail
      go_ret
      exact ⟨ret_b H.out, hb5⟩
     ·have H : Hid ((h.take (j + 1)).all (fun a => apartB a ⟨s, b, c, .slice ai l.length capi, l⟩) = true) := hid (by rw [HS.out, HA.out, HAP.out]; simp [bne, b1, b2, b3, b4, b5, d6])
      clear HB HAP HS
      go_wp2_with fail
      go_roundw
      case rel => exact ⟨j + 1, by omega, by go_num, H.out, hb5⟩
      case measure => simp [intOf]; omega
    ·have hjk : j = k := by omega
     subst hjk
     have HRO : Hid (rowR h j ⟨s, b, c, .slice ai l.length capi, l⟩ = l.all (opR h)) := hid (by unfold rowR; rw [HM.out, HA.out]; rfl)
     have HOO := hid (fun i hi hh => HNK.out (rowR_c (j := i) hi hh))
     clear HNK HM HA HJV HAJ
     go_wp2_with fail
     go_loopw [7] (fun i wx => ∃ m : Nat, m ≤ l.length ∧ i = .int .i64 m ∧ (l.take m).all (opR h) = true ∧ Below w.heap.size w wx) (fun i _ => l.length - (intOf i).toNat)
     case atStart => exact ⟨0, by omega, rfl, rfl, hb3⟩
     case round =>
      obtain ⟨m, hm, rfl, hA, hb4⟩ := hrel
      have HA := hid hA
      clear hA hb3
      obtain ⟨_, _, hao, c0, c1, c2, c3⟩ := HAT.out _ hb4
      cases hao
      clear c0 c1 c2
      by_cases hltm : m < l.length
      ·have hkm : (m : Int) < (l.length : Int) := by omega
       obtain ⟨g2, o2, hao2, e0, e1, e2⟩ := (HOP.out _ hb4).at hltm
       cases hao2
       have HS : Hid ((l.take (m + 1)).all (opR h) = ((l.take m).all (opR h) && opR h l[m])) := hid (by rw [take_snoc l m hltm, List.all_append]; simp)
       have HB := hid (HOO.out m hltm)
       generalize l[m] = y at *
       obtain ⟨yw, yk, yv⟩ := y
       try simp only at e0 e1 e2
       have hb5 := hb4.alloc hb4.size (.cells #[.bool yw, .int .i64 yk, .int .i64 yv] 54)
       have HOR : Hid (opR h ⟨yw, yk, yv⟩ = if yw then tmH yv h == 1 else yv == 0 || !decide (wrI yk yv h < 0)) := hid rfl
       generalize opR h ⟨yw, yk, yv⟩ = q at *
       cases yw with
       | true =>
        simp only [if_true] at HOR
        have CT := hid (HTM.out yv _ hb5)
        generalize tmH yv h = n at *
        cases hn1 : n == 1
        ·have H := hid (HB.out (by rw [HOR.out, hn1]))
         have hn2 : ((n : Int) != 1) = true := by simp at hn1 ⊢; omega
         clear HLK HNO HOO HB HOR HS hn1
         go_wp2_with fail
         refine (CT.out).mono ?_
         rintro e w6 ⟨rfl, hb6⟩
         have hb7 := below_then hb5 hb6
         go_wp2_with fail
         go_ret
         exact ⟨ret_b H.out, hb7⟩
        ·have H : Hid ((l.take (m + 1)).all (opR h) = true) := hid (by rw [HS.out, HA.out, HOR.out, hn1]; rfl)
         obtain rfl : n = 1 := by simpa using hn1
         change Hid (Calls _ _ _ _ fun e w' => e = .returned (.int .i64 1) ∧ _) at CT
         clear HB HOR HS hn1
         obtain ⟨x0, x1, x2⟩ := opBlock wr (.bool true) (.int .i64 yk) (.int .i64 yv) 54
         go_wp2_with fail
         refine (CT.out).mono ?_
         rintro e w6 ⟨rfl, hb6⟩
         have hb7 := below_then hb5 hb6
         have z0 := (hb6.cell (p := ⟨wr.heap.size, 0, none⟩) (block_lt x0)).trans x0
         have z1 := (hb6.cell (p := ⟨wr.heap.size, 1, none⟩) (block_lt x1)).trans x1
         have z2 := (hb6.cell (p := ⟨wr.heap.size, 2, none⟩) (block_lt x2)).trans x2
         clear x0 x1 x2
         go_wp2_with fail
         go_roundw
         case rel => exact ⟨m + 1, by omega, by go_num, H.out, hb7⟩
         case measure => simp [intOf]; omega
       | false =>
        simp only [Bool.false_eq_true, if_false] at HOR
        cases hz : yv == 0
        ·have hz2 : (yv != 0) = true := by simp [bne, hz]
         have CW := hid (HWR.out yk yv _ hb5)
         generalize wrI yk yv h = n at *
         by_cases hneg : n < 0
         ·have H := hid (HB.out (by rw [HOR.out, hz]; simp [hneg]))
          clear HLK HNO HOO HB HOR HS
          go_wp2_with fail
          refine (CW.out).mono ?_
          rintro e w6 ⟨rfl, hb6⟩
          have hb7 := below_then hb5 hb6
          go_wp2_with fail
          go_ret
          exact ⟨ret_b H.out, hb7⟩
         ·have H : Hid ((l.take (m + 1)).all (opR h) = true) := hid (by rw [HS.out, HA.out, HOR.out, hz]; simp [hneg])
          clear HB HOR HS
          go_wp2_with fail
          refine (CW.out).mono ?_
          rintro e w6 ⟨rfl, hb6⟩
          have hb7 := below_then hb5 hb6
          go_wp2_with fail
          go_roundw
          case rel => exact ⟨m + 1, by omega, by go_num, H.out, hb7⟩
          case measure => simp [intOf]; omega
        ·have hz2 : (yv != 0) = false := by simp [bne, hz]
         have H : Hid ((l.take (m + 1)).all (opR h) = true) := hid (by rw [HS.out, HA.out, HOR.out, hz]; rfl)
         clear HB HOR HS
         go_wp2_with fail
         go_roundw
         case rel => exact ⟨m + 1, by omega, by go_num, H.out, hb5⟩
         case measure => simp [intOf]; omega
      ·have hm2 : m = l.length := by omega
       subst hm2
       have H := hid (HLK.out (by rw [HRO.out]; have := HA.out; rwa [List.take_length] at this))
       go_wp2_with fail
       go_roundw
       case rel => exact ⟨j + 1, by omega, by go_num, H.out, hb4⟩
       case measure => simp [intOf]; omega
  ·have hkl : k = h.length := by omega
   subst hkl
   have H : Hid (true = mayRef h) := hid (mayRef_yes (fun k hk => HN.out k hk hk)).symm
   clear HNO HTM HWR
   go_wp2_with fail
   go_ret
   exact ⟨ret_b H.out, hb⟩
end

section
open Go.RowKit
def wrs (h : List TxnV) : List OpV := h.flatMap fun t => t.l.filter (·.wr)
theorem wvH_map (h : List TxnV) : wvH h = (wrs h).map (·.val) := by unfold wvH wrs wv; rw [List.map_flatMap]
theorem wrs_mem {h : List TxnV} {o : OpV} : o ∈ wrs h ↔ ∃ t ∈ h, o ∈ t.l ∧ o.wr = true := by unfold wrs; simp
theorem inj_val : ∀ {L : List OpV}, (L.map (·.val)).Nodup → ∀ {o p : OpV}, o ∈ L → p ∈ L → o.val = p.val → o = p
 | a :: L, hd, o, p, ho, hp, e => by
  rw [List.map_cons, List.nodup_cons] at hd
  rcases List.mem_cons.1 ho with rfl | ho
  ·rcases List.mem_cons.1 hp with rfl | hp
   ·rfl
   ·exact absurd (List.mem_map.2 ⟨p, hp, e.symm⟩) hd.1
  ·rcases List.mem_cons.1 hp with hpe | hp
   ·exact absurd (List.mem_map.2 ⟨o, ho, by rw [e, hpe]⟩) hd.1
   ·exact inj_val hd.2 ho hp e
theorem okW_inj {h : List TxnV} (hw : okW h = true) {o p : OpV} (ho : o ∈ wrs h) (hp : p ∈ wrs h) (e : o.val = p.val) : o = p := by
 unfold okW at hw
 rw [decide_eq_true_eq, wvH_map] at hw
 exact inj_val hw ho hp e
theorem okW_count {h : List TxnV} : okW h = true ↔ ∀ t ∈ h, ∀ o ∈ t.l, o.wr = true → tmH o.val h = 1 := by
 unfold okW tmH
 rw [decide_eq_true_eq]
 constructor
 ·intro hd t ht o ho hw
  rw [List.Nodup.count hd, if_pos]
  rw [wvH_map]
  exact List.mem_map.2 ⟨o, wrs_mem.2 ⟨t, ht, ho, hw⟩, rfl⟩
 ·intro hc
  rw [List.nodup_iff_count]
  intro x
  by_cases hx : x ∈ wvH h
  ·have hx2 := hx
   rw [wvH_map] at hx2
   obtain ⟨o, ho, rfl⟩ := List.mem_map.1 hx2
   obtain ⟨t, ht, ho2, hw⟩ := wrs_mem.1 ho
   exact Nat.le_of_eq (hc t ht o ho2 hw)
  ·rw [List.count_eq_zero_of_not_mem hx]; omega
def Real (h : List TxnV) (F : Int → Option WV) : Prop := ∀ x u, F x = some u → ∃ o ∈ wrs h, o.val = x ∧ o.key = u.key
theorem real_put {h : List TxnV} {F : Int → Option WV} (hF : Real h F) {o : OpV} (ho : o ∈ wrs h) (i : Int) (b : Bool) : Real h (putF F o.val ⟨i, o.key, b⟩) := by
 intro x u hx
 unfold putF at hx
 split at hx
 ·rename_i e
  cases hx
  exact ⟨o, ho, e.symm, rfl⟩
 ·exact hF x u hx
theorem real_add {h : List TxnV} (i : Int) : ∀ (l : List OpV) (F : Int → Option WV), Real h F → (∀ o ∈ l, o.wr = true → o ∈ wrs h) → Real h (addF i F l)
 | [], F, hF, _ => hF
 | a :: l, F, hF, hl => by
  show Real h (addF i (addOne i F a) l)
  refine real_add i l _ ?_ (fun o ho => hl o (List.mem_cons_of_mem _ ho))
  unfold addOne
  split
  ·rename_i hw
   exact real_put hF (hl a List.mem_cons_self hw) i false
  ·exact hF
theorem real_fin {h : List TxnV} (i : Int) : ∀ (l : List OpV) (F : Int → Option WV), Real h F → (∀ o ∈ l, o ∈ wrs h) → Real h (finF i F l)
 | [], F, hF, _ => hF
 | a :: l, F, hF, hl => by
  show Real h (finF i (putF F a.val ⟨i, a.key, true⟩) l)
  exact real_fin i l _ (real_put hF (hl a List.mem_cons_self) i true) (fun o ho => hl o (List.mem_cons_of_mem _ ho))
theorem refWrites_mem {l : List OpV} {o : OpV} (h : o ∈ refWrites l) : o ∈ l ∧ o.wr = true := by
 unfold refWrites at h
 obtain ⟨k, _, hk⟩ := upTo_mem.1 h
 have := lastW_key (l := l) (x := k) hk
 exact ⟨this.2.2, this.2.1⟩
theorem real_wr (h : List TxnV) : ∀ k, k ≤ h.length → Real h (wrTo h k)
 | 0, _ => fun x u hx => by simp [wrTo] at hx
 | k + 1, hk => by
  have hlt : k < h.length := by omega
  rw [wrTo_succ, opsAt_eq hlt]
  have hm : ∀ o ∈ h[k].l, o.wr = true → o ∈ wrs h := fun o ho hw => wrs_mem.2 ⟨_, List.getElem_mem hlt, ho, hw⟩
  exact real_fin _ _ _ (real_add _ _ _ (real_wr h k (by omega)) hm) (fun o ho => hm o (refWrites_mem ho).1 (refWrites_mem ho).2)
theorem dom_add (i : Int) : ∀ (l : List OpV) (F : Int → Option WV) (x : Int), (addF i F l x).isSome = ((F x).isSome || decide (x ∈ wv l))
 | [], F, x => by simp [addF, wv]
 | a :: l, F, x => by
  show (addF i (addOne i F a) l x).isSome = _
  rw [dom_add i l]
  have hc : wv (a :: l) = (if a.wr then [a.val] else []) ++ wv l := by
   unfold wv
   cases hw : a.wr <;> simp [hw]
  rw [hc]
  unfold addOne putF
  cases hw : a.wr
  ·simp
  ·by_cases e : x = a.val <;> simp [e]
theorem dom_fin (i : Int) : ∀ (l : List OpV) (F : Int → Option WV) (x : Int), (finF i F l x).isSome = ((F x).isSome || decide (x ∈ l.map (·.val)))
 | [], F, x => by simp [finF]
 | a :: l, F, x => by
  show (finF i (putF F a.val ⟨i, a.key, true⟩) l x).isSome = _
  rw [dom_fin i l]
  unfold putF
  by_cases e : x = a.val <;> simp [e]
theorem dom_wr (h : List TxnV) : ∀ k, k ≤ h.length → ∀ x, (wrTo h k x).isSome = decide (x ∈ wvH (h.take k))
 | 0, _ => fun x => by simp [wrTo, wvH]
 | k + 1, hk => fun x => by
  have hlt : k < h.length := by omega
  rw [wrTo_succ, opsAt_eq hlt, dom_fin, dom_add, dom_wr h k (by omega), wvH_succ h k hlt]
  have : x ∈ (refWrites h[k].l).map (·.val) → x ∈ wv h[k].l := fun hx => by
   obtain ⟨o, ho, rfl⟩ := List.mem_map.1 hx
   exact wv_mem.2 ⟨o, (refWrites_mem ho).1, (refWrites_mem ho).2, rfl⟩
  rw [Bool.eq_iff_iff]
  simp only [Bool.or_eq_true, decide_eq_true_eq, List.mem_append]
  constructor
  ·rintro ((h1 | h1) | h1)
   ·exact .inl h1
   ·exact .inr h1
   ·exact .inr (this h1)
  ·rintro (h1 | h1)
   ·exact .inl (.inl h1)
   ·exact .inl (.inr h1)
theorem rd_iff {h : List TxnV} (hw : okW h = true) (o : OpV) : rdOk (wrTo h h.length) o = (o.wr || o.val == 0 || !decide (wrI o.key o.val h < 0)) := by
 unfold rdOk
 cases hv : (o.wr || o.val == 0)
 ·rw [Bool.false_or, Bool.false_or]
  have hd := dom_wr h h.length (Nat.le_refl _) o.val
  rw [List.take_length] at hd
  cases hF : wrTo h h.length o.val with
  | none =>
   rw [hF] at hd
   simp only
   symm
   rw [Bool.not_eq_false', decide_eq_true_eq, wrI_nonneg]
   intro t ht p hp
   unfold isWr
   cases hpw : p.wr
   ·rfl
   ·have hne : ¬ p.val = o.val := fun e => by
     have : o.val ∈ wvH h := by rw [wvH_map]; exact List.mem_map.2 ⟨p, wrs_mem.2 ⟨t, ht, hp, hpw⟩, e⟩
     simp [this] at hd
    simp [hne]
  | some u =>
   obtain ⟨p, hp, e1, e2⟩ := real_wr h h.length (Nat.le_refl _) _ _ hF
   simp only
   rw [Bool.eq_iff_iff, beq_iff_eq, Bool.not_eq_true', decide_eq_false_iff_not, wrI_nonneg]
   constructor
   ·intro e hn
    obtain ⟨t, ht, hp2, hpw⟩ := wrs_mem.1 hp
    have := hn t ht p hp2
    unfold isWr at this
    simp [hpw, e1, e2, e] at this
   ·intro hn
    have : ∃ q ∈ wrs h, q.key = o.key ∧ q.val = o.val := Classical.byContradiction fun hno => hn fun t ht q hq => by
     unfold isWr
     cases hqw : q.wr
     ·rfl
     ·cases hqk : q.key == o.key
      ·rfl
      ·cases hqv : q.val == o.val
       ·rfl
       ·exact absurd ⟨q, wrs_mem.2 ⟨t, ht, hq, hqw⟩, by simpa using hqk, by simpa using hqv⟩ hno
    obtain ⟨q, hq, e3, e4⟩ := this
    have := okW_inj hw hp hq (by rw [e1, e4])
    subst this
    rw [← e2, e3]
 ·rfl
def Apart (a t : TxnV) : Prop := a.b ≠ t.b ∧ a.b ≠ t.c ∧ a.c ≠ t.b ∧ a.c ≠ t.c
theorem apartB_iff (a t : TxnV) : apartB a t = true ↔ Apart a t ∧ ¬ (a.s = t.s ∧ t.b < a.c) := by
 unfold apartB Apart
 simp only [Bool.and_eq_true, bne_iff_ne, Bool.not_eq_true', Bool.and_eq_false_iff, beq_eq_false_iff_ne, decide_eq_false_iff_not, Classical.not_and_iff_not_or_not, ne_eq]
theorem stL_mem {h : List TxnV} {x : Int} : x ∈ stL h ↔ ∃ t ∈ h, x = t.b ∨ x = t.c := by unfold stL; simp
theorem st_take {h : List TxnV} {k : Nat} (hd : (stL (h.take k)).Nodup) : ∀ i j, ∀ hj : j < k, ∀ hk : k ≤ h.length, ∀ hi : i < j, Apart (h[i]'(by omega)) (h[j]'(by omega)) := by
 intro i j hj hk hi
 have e : stL (h.take k) = stL (h.take (j + 1)) ++ stL ((h.take k).drop (j + 1)) := by
  unfold stL
  rw [← List.flatMap_append]
  congr 1
  rw [show h.take (j + 1) = (h.take k).take (j + 1) from by rw [List.take_take]; congr 1; omega]
  exact (List.take_append_drop _ _).symm
 rw [e] at hd
 have h1 := (List.nodup_append.1 hd).1
 rw [stL_succ h j (by omega)] at h1
 have h2 := (List.nodup_append.1 h1).2.2
 have mem : h[i]'(by omega) ∈ h.take j := by rw [List.mem_take_iff_getElem]; exact ⟨i, by omega, rfl⟩
 have mb : (h[i]'(by omega)).b ∈ stL (h.take j) := stL_mem.2 ⟨_, mem, .inl rfl⟩
 have mc : (h[i]'(by omega)).c ∈ stL (h.take j) := stL_mem.2 ⟨_, mem, .inr rfl⟩
 exact ⟨h2 _ mb _ (by simp), h2 _ mb _ (by simp), h2 _ mc _ (by simp), h2 _ mc _ (by simp)⟩
theorem st_nodup {h : List TxnV} (hbc : ∀ t ∈ h, t.b < t.c) (ha : ∀ i j, ∀ hj : j < h.length, ∀ hi : i < j, Apart (h[i]'(by omega)) h[j]) : ∀ k, k ≤ h.length → (stL (h.take k)).Nodup
 | 0, _ => by simp [stL]
 | k + 1, hk => by
  have hlt : k < h.length := by omega
  rw [stL_succ h k hlt, List.nodup_append]
  refine ⟨st_nodup hbc ha k (by omega), ?_, ?_⟩
  ·have := hbc _ (List.getElem_mem hlt)
   simp; omega
  ·intro x hx y hy
   obtain ⟨t, ht, hxt⟩ := stL_mem.1 hx
   rw [List.mem_take_iff_getElem] at ht
   obtain ⟨i, hi, rfl⟩ := ht
   have hA := ha i k hlt (by omega)
   unfold Apart at hA
   simp at hy
   rcases hxt with rfl | rfl <;> rcases hy with rfl | rfl
   ·exact hA.1
   ·exact hA.2.1
   ·exact hA.2.2.1
   ·exact hA.2.2.2
end

section
open Go.RowKit
theorem endF_find (h : List TxnV) (s : Int) : ∀ k, k ≤ h.length → match endF (h.take k) s with
  | none => ∀ j, ∀ hj : j < k, ∀ hk : k ≤ h.length, (h[j]'(by omega)).s ≠ s
  | some e => ∃ m, ∃ hm : m < k, ∃ hk : k ≤ h.length, (h[m]'(by omega)).s = s ∧ (h[m]'(by omega)).c = e ∧ ∀ j, ∀ hj : j < k, m < j → (h[j]'(by omega)).s ≠ s
 | 0, _ => by simp [endF]
 | k + 1, hk => by
  have hlt : k < h.length := by omega
  have ih := endF_find h s k (by omega)
  rw [endF_succ h k hlt]
  unfold putF
  by_cases e : s = h[k].s
  ·rw [if_pos e]
   exact ⟨k, by omega, hk, e.symm, rfl, fun j hj hmj => by omega⟩
  ·rw [if_neg e]
   cases hF : endF (h.take k) s with
   | none =>
    rw [hF] at ih
    intro j hj hk2
    rcases Nat.lt_or_eq_of_le (Nat.le_of_lt_succ hj) with h1 | rfl
    ·exact ih j h1 (by omega)
    ·exact fun e2 => e e2.symm
   | some c =>
    rw [hF] at ih
    obtain ⟨m, hm, hk2, h1, h2, h3⟩ := ih
    refine ⟨m, by omega, hk, h1, h2, fun j hj hmj => ?_⟩
    rcases Nat.lt_or_eq_of_le (Nat.le_of_lt_succ hj) with h4 | rfl
    ·exact h3 j h4 hmj
    ·exact fun e2 => e e2.symm
theorem ses_all {h : List TxnV} (hs : sesB h = true) (hbc : ∀ t ∈ h, t.b < t.c) : ∀ j, ∀ hj : j < h.length, ∀ i, ∀ hi : i < j, (h[i]'(by omega)).s = h[j].s → (h[i]'(by omega)).c < h[j].b := by
 intro j
 induction j using Nat.strongRecOn with
 | ind j ih =>
  intro hj i hi e
  have h1 := List.all_eq_true.1 hs j (List.mem_range.2 hj)
  rw [sesOk_at hj] at h1
  have h2 := endF_find h h[j].s j (by omega)
  cases hF : endF (h.take j) h[j].s with
  | none =>
   rw [hF] at h2
   exact absurd e (h2 i hi (by omega))
  | some c =>
   rw [hF] at h1 h2
   obtain ⟨m, hm, hk2, e1, e2, e3⟩ := h2
   simp only [decide_eq_true_eq] at h1
   rcases Nat.lt_trichotomy i m with h4 | rfl | h4
   ·have h5 := ih m hm (by omega) i h4 (by rw [e1]; exact e)
    have h6 := hbc _ (List.getElem_mem (show m < h.length by omega))
    omega
   ·omega
   ·exact absurd e (e3 i hi h4)
theorem ses_mk {h : List TxnV} (ha : ∀ j, ∀ hj : j < h.length, ∀ i, ∀ hi : i < j, (h[i]'(by omega)).s = h[j].s → (h[i]'(by omega)).c < h[j].b) : sesB h = true := by
 refine sesB_all fun j hj => ?_
 rw [sesOk_at hj]
 have h2 := endF_find h h[j].s j (by omega)
 cases hF : endF (h.take j) h[j].s with
 | none => rfl
 | some c =>
  rw [hF] at h2
  obtain ⟨m, hm, hk2, e1, e2, e3⟩ := h2
  simp only [decide_eq_true_eq]
  rw [← e2]; exact ha j hj m hm e1
theorem mayT_bc {t : TxnV} (h : mayT t.s t.b t.c t.l = true) : t.b < t.c := by
 unfold mayT at h
 simp only [Bool.and_eq_true, decide_eq_true_eq] at h
 exact h.1.2.2.2.1
theorem right_ref (h : List TxnV) : rightB h = mayRef h := by
 rw [Bool.eq_iff_iff]
 constructor
 ·intro hr
  unfold rightB at hr
  simp only [Bool.and_eq_true] at hr
  obtain ⟨hp, hv, hst, hse⟩ := hr
  unfold valuesB at hv
  simp only [Bool.and_eq_true] at hv
  obtain ⟨hw, hro⟩ := hv
  have hP : ∀ t ∈ h, mayT t.s t.b t.c t.l = true := List.all_eq_true.1 hp
  have hbc : ∀ t ∈ h, t.b < t.c := fun t ht => mayT_bc (hP t ht)
  refine mayRef_yes fun k hk => ?_
  unfold rowR
  rw [hP _ (List.getElem_mem hk), Bool.true_and, Bool.and_eq_true]
  constructor
  ·rw [List.all_eq_true]
   intro a ha
   rw [List.mem_take_iff_getElem] at ha
   obtain ⟨i, hi, rfl⟩ := ha
   rw [apartB_iff]
   unfold stampsB at hst
   rw [decide_eq_true_eq, ← List.take_length (l := h)] at hst
   refine ⟨st_take hst i k hk (Nat.le_refl _) (by omega), fun hh => ?_⟩
   have := ses_all hse hbc k hk i (by omega) hh.1
   omega
  ·rw [List.all_eq_true]
   intro o ho
   unfold opR
   cases how : o.wr
   ·have h1 := List.all_eq_true.1 (List.all_eq_true.1 hro _ (List.getElem_mem hk)) o ho
    rw [rd_iff hw o, how] at h1
    simpa using h1
   ·simp only [if_true, beq_iff_eq]
    exact okW_count.1 hw _ (List.getElem_mem hk) o ho how
 ·intro hm
  have hrow : ∀ k, ∀ hk : k < h.length, rowR h k h[k] = true := fun k hk => by
   have := List.all_eq_true.1 hm k (List.mem_range.2 hk)
   rwa [List.getElem?_eq_getElem hk] at this
  have hP : ∀ t ∈ h, mayT t.s t.b t.c t.l = true := fun t ht => by
   obtain ⟨k, hk, rfl⟩ := List.getElem_of_mem ht
   have := hrow k hk
   unfold rowR at this
   simp only [Bool.and_eq_true] at this
   exact this.1
  have hbc : ∀ t ∈ h, t.b < t.c := fun t ht => mayT_bc (hP t ht)
  have hA : ∀ i j, ∀ hj : j < h.length, ∀ hi : i < j, Apart (h[i]'(by omega)) h[j] ∧ ¬ ((h[i]'(by omega)).s = h[j].s ∧ h[j].b < (h[i]'(by omega)).c) := fun i j hj hi => by
   have := hrow j hj
   unfold rowR at this
   simp only [Bool.and_eq_true] at this
   exact (apartB_iff _ _).1 (List.all_eq_true.1 this.2.1 _ (by rw [List.mem_take_iff_getElem]; exact ⟨i, by omega, rfl⟩))
  have hO : ∀ t ∈ h, ∀ o ∈ t.l, opR h o = true := fun t ht => by
   obtain ⟨k, hk, rfl⟩ := List.getElem_of_mem ht
   have := hrow k hk
   unfold rowR at this
   simp only [Bool.and_eq_true] at this
   exact List.all_eq_true.1 this.2.2
  have hw : okW h = true := okW_count.2 fun t ht o ho how => by
   have := hO t ht o ho
   unfold opR at this
   rw [how] at this
   simpa using this
  unfold rightB
  simp only [Bool.and_eq_true]
  refine ⟨List.all_eq_true.2 hP, ?_, ?_, ?_⟩
  ·unfold valuesB
   rw [hw, Bool.true_and, List.all_eq_true]
   intro t ht
   unfold rowOk
   rw [List.all_eq_true]
   intro o ho
   rw [rd_iff hw o]
   have := hO t ht o ho
   unfold opR at this
   cases how : o.wr
   ·rw [how] at this
    simpa using this
   ·rfl
  ·unfold stampsB
   rw [decide_eq_true_eq]
   have := st_nodup hbc (fun i j hj hi => (hA i j hj hi).1) h.length (Nat.le_refl _)
   rwa [List.take_length] at this
  ·refine ses_mk fun j hj i hi e => ?_
   obtain ⟨h1, h2⟩ := hA i j hj hi
   have h3 : ¬ h[j].b < (h[i]'(by omega)).c := fun hh => h2 ⟨e, hh⟩
   have h4 := h1.2.2.1
   omega
def checkR (h : List TxnV) : Int := if 64 < h.length ∨ 1024 < opsN h then 3 else if mayRef h then 0 else 2
theorem check_ref (h : List TxnV) : checkI h = checkR h := by unfold checkI checkR; rw [right_ref]
end

section
open Go.RowKit
theorem rcheck_any (va : Value) (h : List TxnV) (w : World) (hT : Txns w va h) (hsh : Short h) :
  Calls Tryz.prog 9 #[va] w fun e w' => e = .returned (.int .i64 (checkR h)) ∧ Below w.heap.size w w' := by
 obtain ⟨ao, cap, rfl, hal⟩ := hT.form
 by_cases hbig : 64 < h.length
 ·have hbig' : (64 : Int) < (h.length : Int) := by omega
  have H : Hid ((3 : Int) = checkR h) := hid (by unfold checkR; rw [if_pos (.inl hbig)])
  go_enter Tryz.func9, Tryz.ntmps9
  go_wp2_with fail
  go_ret
  exact ⟨ret_int H.out, Below.refl _ _⟩
 have hbf : decide ((64 : Int) < (h.length : Int)) = false := by simp; omega
 have hle := opsN_short h hsh
 have CO := hid (count_any _ h w hT (by omega))
 have HT := hid (fun wx (hx : Below w.heap.size w wx) => hT.below hx)
 clear hT hsh
 go_enter Tryz.func9, Tryz.ntmps9
 go_wp2_with fail
 refine (CO.out).mono ?_
 rintro e w1 ⟨rfl, hb1⟩
 clear CO
 by_cases hov : 1024 < opsN h
 ·have hov' : (1024 : Int) < (opsN h : Int) := by omega
  have H : Hid ((3 : Int) = checkR h) := hid (by unfold checkR; rw [if_pos (.inr hov)])
  go_wp2_with fail
  go_ret
  exact ⟨ret_int H.out, hb1⟩
 have hov' : decide ((1024 : Int) < (opsN h : Int)) = false := by simp; omega
 have HCK : Hid (checkR h = if mayRef h then 0 else 2) := hid (by unfold checkR; rw [if_neg (by omega)])
 have CM := hid (rmay_any _ h w1 (HT.out _ hb1) (by omega))
 generalize mayRef h = q at *
 go_wp2_with fail
 refine (CM.out).mono ?_
 rintro e w2 ⟨rfl, hb2⟩
 have hb3 := below_then hb1 hb2
 clear CM
 cases q
 ·have H : Hid ((2 : Int) = checkR h) := hid (by rw [HCK.out]; rfl)
  go_wp2_with fail
  go_ret
  exact ⟨ret_int H.out, hb3⟩
 ·have H : Hid ((0 : Int) = checkR h) := hid (by rw [HCK.out]; rfl)
  go_wp2_with fail
  go_ret
  exact ⟨ret_int H.out, hb3⟩
end

section
open Go.RowKit
def kV (p : Nat) (s : ByteArray) : Value := .agg #[.int .u64 (p : Int), .string s]
section
variable {w : World} {b n : Nat} {f : Nat → ByteArray → Bool}
end
section
variable {ops : Array Oper} {rest : List Oper} {o : Oper} {a : Act} {Q : Exit → Act → World → Prop} (w : World)
end
end

section
open Go.RowKit
instance memDec (q : Nat × ByteArray) (M : List (Nat × ByteArray)) : Decidable (q ∈ M) := @List.instDecidableMemOfLawfulBEq _ instBEqOfDecidableEq inferInstance q M
section
variable {h : List TxnV} {C n : Nat}
abbrev Srch := Option (List Nat) × List (Nat × ByteArray) × Nat
section
variable {F : List Nat → List (Nat × ByteArray) → Srch} {r : List Nat} {st : Srch} {j : Nat}
end
end
end

section
open Go.RowKit
theorem roomy {F : Fence} (hd : F.depth = none) (k : Nat) : F.room k := fun d h => by rw [hd] at h; cases h
theorem round_depth {F : Fence} (hd : F.depth = none) {m m' : Nat} {P : Program} {l : Nat} {f : FuncId} {tmps : Array Value} {assign body : Code} {w : World} {R : Ending → World → Prop}
  (h : RoundIn F m P l f tmps assign body w R) : RoundIn F m' P l f tmps assign body w R := ⟨h.1, fun c cs _ => h.2 c cs (roomy hd _)⟩
theorem yield_depth {F : Fence} (hd : F.depth = none) {m : Nat} (m' : Nat) {P : Program} {l : Nat} {args : Array Value} {W : World} {R : Ending → World → Prop} (h : YieldAt F m P l args W R) : YieldAt F m' P l args W R := by
 obtain ⟨fn, tmps, assign, body, hy, hR⟩ := h
 exact ⟨fn, tmps, assign, body, hy, round_depth hd hR⟩
end

section
open Go.RowKit
def renO (κ ν : Int → Int) (o : OpV) : OpV := ⟨o.wr, κ o.key, ν o.val⟩
def KeyIn (h : List TxnV) (k : Int) : Prop := ∃ t ∈ h, ∃ o ∈ t.l, o.key = k
def ValIn (h : List TxnV) (v : Int) : Prop := v = 0 ∨ ∃ t ∈ h, ∃ o ∈ t.l, o.val = v
section
variable {κ ν : Int → Int} {l : List OpV} {K V : Int → Prop}
end
section
variable {h x : List TxnV} {π ρ : Nat → Nat} {κ ν : Int → Int}
end
theorem sum_perm {l m : List Nat} (h : l.Perm m) : l.sum = m.sum := by
 induction h with
 | nil => rfl
 | cons a _ ih => simp only [List.sum_cons, ih]
 | swap a b l => simp only [List.sum_cons]; omega
 | trans _ _ i1 i2 => rw [i1, i2]
section
variable {h x : List TxnV} {π ρ : Nat → Nat} {κ ν : Int → Int}
end
end

section
open Go.RowKit
def addN (l : List Int) (x : Int) : List Int := if x ∈ l then l else l ++ [x]
def firsts (l : List Int) : List Int := l.foldl addN []
def posL (l : List Int) (x : Int) : Nat := l.findIdx (fun y => y == x)
theorem firsts_snoc (l : List Int) (x : Int) : firsts (l ++ [x]) = addN (firsts l) x := by unfold firsts; rw [List.foldl_append]; rfl
theorem addN_prefix (l : List Int) (x : Int) : l <+: addN l x := by
 unfold addN; split
 ·exact List.prefix_refl _
 ·exact List.prefix_append _ _
theorem mem_addN {l : List Int} {x y : Int} : y ∈ addN l x ↔ y ∈ l ∨ y = x := by
 unfold addN; split
 ·exact ⟨.inl, fun h => h.elim id (fun e => e ▸ (by assumption))⟩
 ·rw [List.mem_append, List.mem_singleton]
theorem firsts_ind {P : List Int → List Int → Prop} (h0 : P [] []) (h1 : ∀ l x, P l (firsts l) → P (l ++ [x]) (addN (firsts l) x)) (l : List Int) : P l (firsts l) := by
 have : ∀ n, ∀ l : List Int, l.length = n → P l (firsts l) := by
  intro n
  induction n with
  | zero => intro l hl; obtain rfl := List.length_eq_zero_iff.1 hl; exact h0
  | succ n ih =>
   intro l hl
   have hne : l ≠ [] := by intro e; subst e; cases hl
   have e : l = l.dropLast ++ [l.getLast hne] := (List.dropLast_concat_getLast hne).symm
   rw [e, firsts_snoc]
   exact h1 _ _ (ih _ (by rw [List.length_dropLast, hl]; rfl))
 exact this _ l rfl
theorem mem_firsts {l : List Int} {y : Int} : y ∈ firsts l ↔ y ∈ l := by
 refine firsts_ind (P := fun l m => y ∈ m ↔ y ∈ l) Iff.rfl (fun l x ih => ?_) l
 rw [mem_addN, ih, List.mem_append, List.mem_singleton]
theorem firsts_len (l : List Int) : (firsts l).length ≤ l.length := by
 refine firsts_ind (P := fun l m => m.length ≤ l.length) (Nat.le_refl _) (fun l x ih => ?_) l
 rw [List.length_append]
 unfold addN; split
 ·simp; omega
 ·simp; exact ih
theorem firsts_prefix {l m : List Int} (h : l <+: m) : firsts l <+: firsts m := by
 obtain ⟨t, rfl⟩ := h
 induction t generalizing l with
 | nil => rw [List.append_nil]; exact List.prefix_refl _
 | cons a t ih =>
  have := ih (l := l ++ [a])
  rw [List.append_assoc, List.singleton_append, firsts_snoc] at this
  exact (addN_prefix _ _).trans this
theorem posL_new {l : List Int} {x : Int} (h : x ∉ l) : posL l x = l.length := by
 unfold posL
 rw [List.findIdx_eq_length]
 intro y hy
 rw [beq_eq_false_iff_ne]
 exact fun e => h (e ▸ hy)
theorem posL_lt {l : List Int} {x : Int} (h : x ∈ l) : posL l x < l.length := by
 unfold posL
 rw [List.findIdx_lt_length]
 exact ⟨x, h, by simp⟩
theorem posL_prefix {l m : List Int} {x : Int} (h : l <+: m) (hx : x ∈ l) : posL m x = posL l x := by
 obtain ⟨t, rfl⟩ := h
 unfold posL
 rw [List.findIdx_append]
 exact if_pos (posL_lt hx)
theorem posL_add (l : List Int) (x : Int) : posL (addN l x) x = posL l x := by
 unfold addN; split
 ·rfl
 ·rename_i h
  rw [posL_new h]
  unfold posL
  rw [List.findIdx_append]
  have : ¬ List.findIdx (fun y => y == x) l < l.length := by have := posL_new h; unfold posL at this; omega
  rw [if_neg this]
  simp
theorem posL_time {p L : List Int} {x : Int} (h : p ++ [x] <+: L) : posL (firsts L) x = posL (firsts p) x := by
 have h1 := firsts_prefix h
 rw [firsts_snoc] at h1
 rw [posL_prefix h1 (mem_addN.2 (.inr rfl)), posL_add]
theorem firsts_map {f : Int → Int} {l : List Int} (hf : ∀ a ∈ l, ∀ b ∈ l, f a = f b → a = b) : firsts (l.map f) = (firsts l).map f := by
 have : ∀ m : List Int, (∀ a ∈ m, a ∈ l) → firsts (m.map f) = (firsts m).map f := by
  intro m
  refine firsts_ind (P := fun m q => (∀ a ∈ m, a ∈ l) → firsts (m.map f) = q.map f) (fun _ => rfl) (fun m x ih hm => ?_) m
  have ih := ih fun a ha => hm a (List.mem_append.2 (.inl ha))
  rw [List.map_append, List.map_singleton, firsts_snoc, ih]
  have hx := hm x (by simp)
  unfold addN
  by_cases h : x ∈ firsts m
  ·rw [if_pos h, if_pos (List.mem_map_of_mem h)]
  ·rw [if_neg h, if_neg, List.map_append, List.map_singleton]
   intro h2
   obtain ⟨y, hy, e⟩ := List.mem_map.1 h2
   have hyl := hm y (List.mem_append.2 (.inl (mem_firsts.1 hy)))
   exact h (hf _ hyl _ hx e ▸ hy)
 exact this l fun _ h => h
theorem findIdx_alike {α : Type} {p q : α → Bool} : ∀ (l : List α), (∀ a ∈ l, p a = q a) → l.findIdx p = l.findIdx q
 | [], _ => rfl
 | a :: l, h => by
  have h1 := h a (List.mem_cons_self ..)
  have h2 := findIdx_alike l fun b hb => h b (List.mem_cons_of_mem _ hb)
  rw [List.findIdx_cons, List.findIdx_cons, h1, h2]
theorem posL_map {f : Int → Int} {l : List Int} {x : Int} (hf : ∀ a ∈ l, f a = f x → a = x) : posL (l.map f) (f x) = posL l x := by
 unfold posL
 have e : ∀ l : List Int, (l.map f).findIdx (fun y => y == f x) = l.findIdx (fun y => f y == f x) := by
  intro l
  induction l with
  | nil => rfl
  | cons a l ih => rw [List.map_cons, List.findIdx_cons, List.findIdx_cons, ih]
 rw [e]
 refine findIdx_alike _ fun a ha => ?_
 rw [Bool.eq_iff_iff, beq_iff_eq, beq_iff_eq]
 exact ⟨hf a ha, fun e => by rw [e]⟩
abbrev ETx := Int × Int × Int × List OpV
def renE (f τ κ ν : Int → Int) (e : ETx) : ETx := (f e.1, τ e.2.1, τ e.2.2.1, e.2.2.2.map (renO κ ν))
def sesE (E : List ETx) : List Int := E.map (·.1)
def stE (E : List ETx) : List Int := E.flatMap fun e => [e.2.1, e.2.2.1]
def keyE (E : List ETx) : List Int := E.flatMap fun e => e.2.2.2.map (·.key)
def valA (E : List ETx) : List Int := E.flatMap fun e => e.2.2.2.map (·.val)
def valE (E : List ETx) : List Int := (valA E).filter fun v => v != 0
def noI (L : List Int) (x : Int) : Int := ((posL (firsts L) x : Nat) : Int)
def noV (L : List Int) (v : Int) : Int := if v = 0 then 0 else noI L v + 1
def rankN (L : List Int) (x : Int) : Nat := L.countP fun y => decide (y < x)
def rankI (L : List Int) (x : Int) : Int := ((rankN L x : Nat) : Int)
def canE (E : List ETx) : List ETx := E.map (renE (noI (sesE E)) (rankI (stE E)) (noI (keyE E)) (noV (valE E)))
theorem countP_alike {α : Type} {p q : α → Bool} : ∀ (l : List α), (∀ a ∈ l, p a = q a) → l.countP p = l.countP q
 | [], _ => rfl
 | a :: l, h => by
  have h1 := h a (List.mem_cons_self ..)
  have h2 := countP_alike l fun b hb => h b (List.mem_cons_of_mem _ hb)
  rw [List.countP_cons, List.countP_cons, h1, h2]
theorem noI_map {f : Int → Int} {L : List Int} (hf : ∀ a ∈ L, ∀ b ∈ L, f a = f b → a = b) {x : Int} (hx : x ∈ L) : noI (L.map f) (f x) = noI L x := by
 unfold noI
 rw [firsts_map hf, posL_map]
 exact fun a ha e => hf a (mem_firsts.1 ha) x hx e
theorem stE_mem {E : List ETx} {e : ETx} (he : e ∈ E) : e.2.1 ∈ stE E ∧ e.2.2.1 ∈ stE E := by
 unfold stE
 exact ⟨List.mem_flatMap.2 ⟨e, he, by simp⟩, List.mem_flatMap.2 ⟨e, he, by simp⟩⟩
theorem keyE_mem {E : List ETx} {e : ETx} (he : e ∈ E) {o : OpV} (ho : o ∈ e.2.2.2) : o.key ∈ keyE E := List.mem_flatMap.2 ⟨e, he, List.mem_map_of_mem ho⟩
theorem valA_mem {E : List ETx} {e : ETx} (he : e ∈ E) {o : OpV} (ho : o ∈ e.2.2.2) : o.val ∈ valA E := List.mem_flatMap.2 ⟨e, he, List.mem_map_of_mem ho⟩
theorem sesE_mem {E : List ETx} {e : ETx} (he : e ∈ E) : e.1 ∈ sesE E := List.mem_map_of_mem he
theorem can_ren {E : List ETx} {f τ κ ν : Int → Int} (hf : ∀ a ∈ sesE E, ∀ b ∈ sesE E, f a = f b → a = b) (hτ : ∀ a ∈ stE E, ∀ b ∈ stE E, a < b → τ a < τ b) (hκ : ∀ a ∈ keyE E, ∀ b ∈ keyE E, κ a = κ b → a = b)
  (h0 : ν 0 = 0) (hz : ∀ a ∈ valA E, ν a = 0 → a = 0) (hν : ∀ a ∈ valA E, ∀ b ∈ valA E, ν a = ν b → a = b) : canE (E.map (renE f τ κ ν)) = canE E := by
 have e1 : sesE (E.map (renE f τ κ ν)) = (sesE E).map f := by unfold sesE; rw [List.map_map, List.map_map]; rfl
 have e2 : stE (E.map (renE f τ κ ν)) = (stE E).map τ := by unfold stE; rw [List.flatMap_map, List.map_flatMap]; rfl
 have e3 : keyE (E.map (renE f τ κ ν)) = (keyE E).map κ := by
  unfold keyE; rw [List.flatMap_map, List.map_flatMap]
  congr 1; funext e; show ((e.2.2.2.map (renO κ ν)).map (·.key)) = (e.2.2.2.map (·.key)).map κ
  rw [List.map_map, List.map_map]; rfl
 have e4 : valA (E.map (renE f τ κ ν)) = (valA E).map ν := by
  unfold valA; rw [List.flatMap_map, List.map_flatMap]
  congr 1; funext e; show ((e.2.2.2.map (renO κ ν)).map (·.val)) = (e.2.2.2.map (·.val)).map ν
  rw [List.map_map, List.map_map]; rfl
 have e5 : valE (E.map (renE f τ κ ν)) = (valE E).map ν := by
  unfold valE
  rw [e4, List.filter_map]
  congr 1
  refine List.filter_congr fun a ha => ?_
  show (ν a != 0) = (a != 0)
  rw [Bool.eq_iff_iff, bne_iff_ne, bne_iff_ne]
  exact ⟨fun h e => h (by rw [e, h0]), fun h e => h (hz a ha e)⟩
 unfold canE
 rw [e1, e2, e3, e5, List.map_map]
 refine List.map_congr_left fun e he => ?_
 have hs := stE_mem he
 have hrk : ∀ x, x ∈ stE E → rankI ((stE E).map τ) (τ x) = rankI (stE E) x := by
  intro x hx
  unfold rankI rankN
  rw [List.countP_map]
  congr 1
  refine countP_alike _ fun a ha => ?_
  show decide (τ a < τ x) = decide (a < x)
  rw [Bool.eq_iff_iff, decide_eq_true_eq, decide_eq_true_eq]
  constructor
  ·intro h
   rcases Int.lt_trichotomy a x with h1 | h1 | h1
   ·exact h1
   ·rw [h1] at h; omega
   ·have := hτ x hx a ha h1; omega
  ·exact hτ a ha x hx
 show ((noI ((sesE E).map f) (f e.1), rankI ((stE E).map τ) (τ e.2.1), rankI ((stE E).map τ) (τ e.2.2.1), (e.2.2.2.map (renO κ ν)).map (renO (noI ((keyE E).map κ)) (noV ((valE E).map ν)))) : ETx) = _
 rw [noI_map hf (sesE_mem he), hrk _ hs.1, hrk _ hs.2, List.map_map]
 have : e.2.2.2.map (renO (noI ((keyE E).map κ)) (noV ((valE E).map ν)) ∘ renO κ ν) = e.2.2.2.map (renO (noI (keyE E)) (noV (valE E))) := by
  refine List.map_congr_left fun o ho => ?_
  have hv := valA_mem he ho
  show (⟨o.wr, noI ((keyE E).map κ) (κ o.key), noV ((valE E).map ν) (ν o.val)⟩ : OpV) = ⟨o.wr, noI (keyE E) o.key, noV (valE E) o.val⟩
  rw [noI_map hκ (keyE_mem he ho)]
  have : noV ((valE E).map ν) (ν o.val) = noV (valE E) o.val := by
   unfold noV
   by_cases h : o.val = 0
   ·rw [h, h0, if_pos rfl, if_pos rfl]
   ·have h2 : ν o.val ≠ 0 := fun e => h (hz _ hv e)
    rw [if_neg h, if_neg h2]
    have hm : o.val ∈ valE E := List.mem_filter.2 ⟨hv, by simpa using h⟩
    rw [noI_map (L := valE E) (fun a ha b hb => hν a (List.mem_filter.1 ha).1 b (List.mem_filter.1 hb).1) hm]
  rw [this]
 rw [this]
 rfl
end

section
open Go.RowKit
def IsSrt (h s : List TxnV) : Prop := s.Perm h ∧ s.Pairwise fun t u => t.b < u.b
theorem srt_eq {h s u : List TxnV} (h1 : IsSrt h s) (h2 : IsSrt h u) : s = u := by
 have key : ∀ s u : List TxnV, s.Pairwise (fun t u => t.b < u.b) → u.Pairwise (fun t u => t.b < u.b) → s.Perm u → s = u := by
  intro s
  induction s with
  | nil => intro u _ _ hp; exact hp.nil_eq
  | cons a s ih =>
   intro u hs hu hp
   cases u with
   | nil => exact absurd hp.length_eq (by simp)
   | cons b u =>
    obtain ⟨a1, a2⟩ := List.pairwise_cons.1 hs
    obtain ⟨b1, b2⟩ := List.pairwise_cons.1 hu
    have e : a = b := by
     rcases List.mem_cons.1 (hp.mem_iff.1 (List.mem_cons_self ..) : a ∈ b :: u) with e | e
     ·exact e
     ·rcases List.mem_cons.1 (hp.mem_iff.2 (List.mem_cons_self ..) : b ∈ a :: s) with e' | e'
      ·exact e'.symm
      ·have := b1 _ e; have := a1 _ e'; omega
    subst e
    rw [ih u a2 b2 ((List.perm_cons a).1 hp)]
 exact key s u h1.2 h2.2 (h1.1.trans h2.1.symm)
end

section
open Go.RowKit
theorem check_rightB {h : List TxnV} (hc : checkI h = 0) : partsB h = true ∧ valuesB h = true ∧ stampsB h = true ∧ sesB h = true := by
 unfold checkI at hc
 split at hc
 ·cases hc
 ·split at hc
  ·rename_i hr
   unfold rightB at hr
   simp only [Bool.and_eq_true] at hr
   exact ⟨hr.1, hr.2.1, hr.2.2.1, hr.2.2.2⟩
  ·cases hc
theorem may_at {h : List TxnV} (hp : partsB h = true) {t : TxnV} (ht : t ∈ h) : (0 ≤ t.s ∧ t.s < 64 ∧ 0 ≤ t.b ∧ t.b < t.c ∧ t.c ≤ 2147483647 ∧ 1 ≤ t.l.length ∧ t.l.length ≤ 64) ∧ ∀ o ∈ t.l, mayO o = true := by
 have h1 := List.all_eq_true.1 hp t ht
 unfold mayT at h1
 rw [Bool.and_eq_true, decide_eq_true_eq] at h1
 exact ⟨h1.1, fun o ho => List.all_eq_true.1 h1.2 o ho⟩
theorem st_apart {h : List TxnV} (hs : stampsB h = true) {i j : Nat} (hi : i < h.length) (hj : j < h.length) (hne : i ≠ j) : Apart h[i] h[j] := by
 have hd : (stL h).Nodup := of_decide_eq_true hs
 have hd' : (stL (h.take h.length)).Nodup := by rw [List.take_length]; exact hd
 rcases Nat.lt_or_gt_of_ne hne with e | e
 ·exact st_take hd' i j hj (Nat.le_refl _) e
 ·obtain ⟨a, b, c, d⟩ := st_take hd' j i hi (Nat.le_refl _) e
  exact ⟨fun q => a q.symm, fun q => c q.symm, fun q => b q.symm, fun q => d q.symm⟩
theorem begins_nodup {h : List TxnV} (hs : stampsB h = true) : (h.map (·.b)).Nodup := by
 rw [List.nodup_iff_pairwise_ne, List.pairwise_map, List.pairwise_iff_getElem]
 intro i j hi hj hij
 exact (st_apart hs hi hj (by omega)).1
section
variable {h s c : List TxnV} {f τ κ ν : Int → Int}
end
section
variable {h c : List TxnV} {f τ κ ν : Int → Int} {π ρ : Nat → Nat}
end
section
variable {h s c : List TxnV}
theorem stE_txE (s : List TxnV) : stE (s.map txE) = stL s := by unfold stE stL; rw [List.flatMap_map]; rfl
theorem keyE_iff {s : List TxnV} {k : Int} : k ∈ keyE (s.map txE) ↔ KeyIn s k := by
 unfold keyE KeyIn
 rw [List.flatMap_map, List.mem_flatMap]
 exact ⟨fun ⟨t, ht, hk⟩ => by obtain ⟨o, ho, e⟩ := List.mem_map.1 hk; exact ⟨t, ht, o, ho, e⟩, fun ⟨t, ht, o, ho, e⟩ => ⟨t, ht, List.mem_map.2 ⟨o, ho, e⟩⟩⟩
theorem valA_iff {s : List TxnV} {v : Int} : v ∈ valA (s.map txE) ↔ ∃ t ∈ s, ∃ o ∈ t.l, o.val = v := by
 unfold valA
 rw [List.flatMap_map, List.mem_flatMap]
 exact ⟨fun ⟨t, ht, hk⟩ => by obtain ⟨o, ho, e⟩ := List.mem_map.1 hk; exact ⟨t, ht, o, ho, e⟩, fun ⟨t, ht, o, ho, e⟩ => ⟨t, ht, List.mem_map.2 ⟨o, ho, e⟩⟩⟩
theorem KeyIn.perm (hp : s.Perm h) {k : Int} (q : KeyIn h k) : KeyIn s k := by
 obtain ⟨t, ht, r⟩ := q; exact ⟨t, hp.mem_iff.2 ht, r⟩
theorem valA_len (s : List TxnV) : (valA (s.map txE)).length = opsN s := by
 unfold valA opsN
 rw [List.flatMap_map, List.length_flatMap]
 congr 1
 exact List.map_congr_left fun t _ => by simp [txE]
end
end

section
open Go.RowKit Go.Lib Go.Sort Go.Shelf
structure TxS where
 s : Int
 b : Int
 c : Int
 ao : Option Addr
 n : Nat
 cp : Nat
 l : List OpV
instance : Inhabited TxS := ⟨⟨0, 0, 0, none, 0, 0, []⟩⟩
def TxS.t (x : TxS) : TxnV := ⟨x.s, x.b, x.c, .slice x.ao x.n x.cp, x.l⟩
def encT (x : TxS) : List Value := [.int .i64 x.s, .int .i64 x.b, .int .i64 x.c, .slice x.ao x.n x.cp]
def cmpT (x y : TxS) : Int := compareInt x.b y.b
theorem cmpT_lt (x y : TxS) : ltOf cmpT x y = decide (x.b < y.b) := by
 unfold ltOf cmpT compareInt
 by_cases h1 : x.b < y.b
 ·simp [h1]
 ·by_cases h2 : y.b < x.b <;> simp [h1, h2]
theorem cmpT_swo : SWO (ltOf cmpT) where
 irrefl x := by rw [cmpT_lt]; simp
 trans x y z h1 h2 := by rw [cmpT_lt] at *; simp at *; omega
 ntrans x y z h1 h2 := by rw [cmpT_lt] at *; simp at *; omega
theorem txS_of : ∀ {h : List TxnV}, (∀ t ∈ h, ∃ ao n cp, t.v = .slice ao n cp) → ∃ l : List TxS, l.map TxS.t = h
 | [], _ => ⟨[], rfl⟩
 | t :: h, q => by
  obtain ⟨l, hl⟩ := txS_of fun u hu => q u (List.mem_cons_of_mem _ hu)
  obtain ⟨ao, n, cp, e⟩ := q t (List.mem_cons_self ..)
  refine ⟨⟨t.s, t.b, t.c, ao, n, cp, t.l⟩ :: l, ?_⟩
  rw [List.map_cons, hl]
  congr 1
  show (⟨t.s, t.b, t.c, .slice ao n cp, t.l⟩ : TxnV) = t
  rw [← e]
theorem cclosure_any (x y : TxS) (w : World) : Calls Tryz.prog 68 #[.agg #[.int .i64 x.s, .int .i64 x.b, .int .i64 x.c, .slice x.ao x.n x.cp], .agg #[.int .i64 y.s, .int .i64 y.b, .int .i64 y.c, .slice y.ao y.n y.cp]] w fun e w' => e = .returned (.int .i64 (cmpT x y)) ∧ ∃ q os', w' = grow (w.drewN q) os' := by
 obtain ⟨xs, xb, xc, xa, xn, xp, xl⟩ := x
 obtain ⟨ys, yb, yc, ya, yn, yp, yl⟩ := y
 have CC := fun w => hid (compare_any xb yb w)
 show Calls _ _ _ _ fun e w' => e = .returned (.int .i64 (compareInt xb yb)) ∧ _
 generalize compareInt xb yb = r at *
 go_enter Tryz.func68, Tryz.ntmps68
 go_wp2_with fail
 refine ((CC _).out).mono ?_
 rintro e w' ⟨rfl, rfl⟩
 go_wp2_with fail
 go_ret
 exact ⟨rfl, 0, _, by rw [alloc_eq_grow, alloc_eq_grow, grow_grow]; rfl⟩
theorem csort_any (blk off cap : Nat) (d : Array TxS) (w : World) (hH : HoldsK encT 4 w blk off d) (hblk : blk < w.heap.size) (hsz : d.size < 4611686018427387904) :
  Calls Tryz.prog 67 #[.slice (some ⟨blk, off, none⟩) d.size cap, .func (.func 68) #[] #[]] w fun e w' => e = .returned (.tuple #[]) ∧ ∃ d' n os, PermIn 0 d.size d d' ∧ SortedIn (ltOf cmpT) 0 d.size d' ∧ w' = sortWorldK encT 4 w blk off n d' os := by
 have eg : ∀ args w, (callFunc 68 args).run Tryz.prog w = .ok (.enter 68 args) w := enters_of Tryz.func68 (by kernel_rfl) rfl
 exact AnyQ.slices_SortFunc Tryz.sortTxn 4 Tryz.isAgg52 Tryz.sizeOf52 encT (fun _ => rfl) (fun x v hv => by simp [encT] at hv; rcases hv with rfl | rfl | rfl | rfl <;> rfl) cmpT cmpT_swo 68 #[] blk off cap d w eg (fun _ _ _ _ x y => cclosure_any x y _) hH hblk hsz
theorem tinsNone (p : Option Addr) (cap : Nat) (fv : Value) (w : World) : Calls Tryz.prog 96 #[.slice p 0 cap, .int .i64 0, .int .i64 0, fv] w fun e w' => e = .returned (.tuple #[]) ∧ w = w' := by
 go_enter Tryz.func96, Tryz.ntmps96
 go_wp2_with fail
 refine wp_loop_rounds 1 ?_
 rw [rounds_succ]
 go_wp2_with fail
 go_end0
 exact ⟨rfl, rfl⟩
theorem tpdqNone (p : Option Addr) (cap : Nat) (lim : Int) (fv : Value) (w : World) : Calls Tryz.prog 85 #[.slice p 0 cap, .int .i64 0, .int .i64 0, .int .i64 lim, fv] w fun e w' => e = .returned (.tuple #[]) ∧ w = w' := by
 have CI := hid (fun w => tinsNone p cap fv w)
 go_enter Tryz.func85, Tryz.ntmps85
 go_wp2_with fail
 refine wp_loop_rounds 1 ?_
 rw [rounds_succ]
 go_wp2_with fail
 refine (CI.out _).mono ?_
 rintro e w' ⟨rfl, rfl⟩
 go_wp2_with fail
 (try simp only [Exit.inBlock, Exit.then]); refine bodyPost_ret (results_none rfl _ _ _) rfl ?_
 exact ⟨rfl, rfl⟩
theorem tsort_none (p : Option Addr) (cap : Nat) (fv : Value) (w : World) : Calls Tryz.prog 67 #[.slice p 0 cap, fv] w fun e w' => e = .returned (.tuple #[]) ∧ w = w' := by
 have CP := hid (fun lim w => tpdqNone p cap lim fv w)
 have hl : ∀ W, Calls Tryz.prog 86 #[.int .u64 0] W fun e w' => e = .returned (.int .i64 (Lib.bitLen 0 : Nat)) ∧ w' = W := fun W =>
  Any.bits_Len (SlLaysF0.n15.bits (P := Tryz.prog) (ρ := Tryz.sortTxn_ren) { Tryz.sortTxn with }) 0 W (by omega) (by omega)
 have CL := hid hl
 clear hl
 go_enter Tryz.func67, Tryz.ntmps67
 go_wp2_with fail
 refine (CL.out _).mono ?_
 rintro e w' ⟨rfl, rfl⟩
 go_wp2_with fail
 refine (CP.out _ _).mono ?_
 rintro e w' ⟨rfl, rfl⟩
 go_wp2_with fail
 go_end0
 exact ⟨rfl, rfl⟩
theorem flat_txV (l : List TxS) : flatK encT 4 l.toArray = (txV (l.map TxS.t)).toArray := by
 apply Array.ext
 ·simp [txV_len]
 ·intro t h1 h2
  have ht : t < l.length * 4 := by simpa using h1
  have hk : t / 4 < l.length := by omega
  have hk2 : t / 4 < (l.map TxS.t).length := by simpa using hk
  obtain ⟨e0, e1, e2, e3⟩ := txV_at (l.map TxS.t) (t / 4) hk2
  rw [List.getElem_map] at e0 e1 e2 e3
  have hx : l.toArray[t / 4]! = l[t / 4] := by simp [hk]
  have h3 : (flatK encT 4 l.toArray)[t]! = (encT l[t / 4])[t % 4]! := by rw [get_flatK _ _ _ t (by simpa using ht), hx]
  rw [← getElem!_pos _ t h1, h3]
  have hm3 : t % 4 = 0 ∨ t % 4 = 1 ∨ t % 4 = 2 ∨ t % 4 = 3 := by omega
  have hr : ∀ x, (txV (l.map TxS.t))[t]? = some x → (txV (l.map TxS.t)).toArray[t] = x := fun x hx => by
   have := List.getElem?_eq_some_iff.1 hx
   simpa using this.2
  rcases hm3 with h | h | h | h
  ·rw [hr _ (by rw [show t = t / 4 * 4 from by omega]; exact e0), h]; rfl
  ·rw [hr _ (by rw [show t = t / 4 * 4 + 1 from by omega]; exact e1), h]; rfl
  ·rw [hr _ (by rw [show t = t / 4 * 4 + 2 from by omega]; exact e2), h]; rfl
  ·rw [hr _ (by rw [show t = t / 4 * 4 + 3 from by omega]; exact e3), h]; rfl
theorem town_sorted {w : World} {base g cap n : Nat} {os : Array Obj} {l ts : List TxS} (hl : ts.length = l.length) (h : OwnT w base (.slice (some ⟨g, 0, none⟩) l.length cap) (l.map TxS.t)) :
  OwnT (sortWorldK encT 4 w g 0 n ts.toArray os) base (.slice (some ⟨g, 0, none⟩) l.length cap) (ts.map TxS.t) ∧ w.grownBy (sortWorldK encT 4 w g 0 n ts.toArray os) (some g) := by
 unfold OwnT at h
 rw [List.length_map] at h
 obtain ⟨h1, h2⟩ := h
 rcases h2 with ⟨h2, _⟩ | ⟨g', cap', cur, e1, e2, hb, e3, e4, e5, e6⟩
 ·cases h2
 cases e1
 have hg : g < w.heap.size := (Array.getElem?_eq_some_iff.1 hb).1
 have ew : sortWorldK encT 4 w g 0 n ts.toArray os = grow (putRow id (Sort.ahead w n) g 0 (txV (ts.map TxS.t)).toArray) os := by
  unfold sortWorldK putRowK; rw [flat_txV]
 rw [ew]
 have hh : (grow (putRow id (Sort.ahead w n) g 0 (txV (ts.map TxS.t)).toArray) os).heap[g]? = some (.cells (putCells id 0 (txV (ts.map TxS.t)).toArray cur) 52 (0, 0)) := by
  rw [heap_grown (by simpa using hg)]
  simp [putRow, mapBlock, Sort.ahead, Array.getElem?_modify, hb, onCells]
 refine ⟨⟨by rw [txV_len], .inr ⟨g, cap, _, by rw [List.length_map, hl], e2, hh, by rw [List.length_map]; omega, e4, by simp [putCells, e5], ?_⟩⟩, rfl, rfl, rfl, by simp, fun k hk hne => ?_⟩
 ·have := take_put cur (txV (ts.map TxS.t)) (by rw [txV_len, List.length_map]; omega)
  rwa [txV_len] at this
 ·rw [heap_grown (by simpa using hk)]
  have : g ≠ k := fun e => hne (by rw [e])
  simp [putRow, mapBlock, Sort.ahead, Array.getElem?_modify, this]
theorem town_holds {w : World} {base g cap : Nat} {l : List TxS} (h : OwnT w base (.slice (some ⟨g, 0, none⟩) l.length cap) (l.map TxS.t)) : HoldsK encT 4 w g 0 l.toArray ∧ g < w.heap.size ∧ base ≤ g := by
 unfold OwnT at h
 rw [List.length_map] at h
 obtain ⟨h1, h2⟩ := h
 rcases h2 with ⟨h2, _⟩ | ⟨g', cap', cur, e1, e2, hb, e3, e4, e5, e6⟩
 ·cases h2
 cases e1
 refine ⟨?_, (Array.getElem?_eq_some_iff.1 hb).1, e2⟩
 show Holds id w g 0 _
 rw [flat_txV]
 exact holds_cells hb (by rw [txV_len, List.length_map]; exact e6)
theorem tsort_own (base : Nat) (v : Value) (h : List TxnV) (w : World) (hO : OwnT w base v h) (hv : ∀ t ∈ h, ∃ ao n cp, t.v = .slice ao n cp) (hn : (h.map (·.b)).Nodup) (hl : h.length ≤ 100000) :
  Calls Tryz.prog 67 #[v, .func (.func 68) #[] #[]] w fun e w' => e = .returned (.tuple #[]) ∧ ∃ s, IsSrt h s ∧ OwnT w' base v s ∧ w.grownBy w' v.ownBlock := by
 rcases hO.split with ⟨rfl, rfl⟩ | ⟨g, cap, rfl, hg⟩
 ·refine (tsort_none none 0 _ w).mono ?_
  rintro e w' ⟨rfl, rfl⟩
  exact ⟨rfl, [], ⟨List.Perm.refl _, List.Pairwise.nil⟩, hO, ⟨rfl, rfl, rfl, Nat.le_refl _, fun _ _ _ => rfl⟩⟩
 ·obtain ⟨l, rfl⟩ := txS_of hv
  rw [List.length_map] at *
  obtain ⟨hH, hgl, _⟩ := town_holds hO
  have hsz : l.toArray.size = l.length := by simp
  have C := csort_any g 0 cap l.toArray w hH hgl (by rw [hsz]; omega)
  rw [hsz] at C
  refine C.mono ?_
  rintro e w' ⟨rfl, d', n, os, ⟨hs1, _, hperm⟩, hs, rfl⟩
  have hs1 : d'.size = l.length := by rw [hs1]; simp
  have hp2 : d'.toList.Perm l := by
   rw [← hs1] at hperm
   rw [extract_all] at hperm
   rw [show (l.toArray.extract 0 d'.size).toList = l from by rw [hs1]; simp] at hperm
   exact hperm
  obtain ⟨q1, q2⟩ := town_sorted (n := n) (os := os) (ts := d'.toList) hp2.length_eq hO
  refine ⟨rfl, d'.toList.map TxS.t, ⟨hp2.map _, ?_⟩, q1, q2⟩
  have hnd : ((d'.toList.map TxS.t).map (·.b)).Nodup := ((hp2.map TxS.t).map (·.b)).nodup_iff.2 hn
  rw [List.nodup_iff_pairwise_ne, List.pairwise_map, List.pairwise_map] at hnd
  rw [List.pairwise_map, List.pairwise_iff_getElem]
  rw [List.pairwise_iff_getElem] at hnd
  intro i j hi hj hij
  have h1 := hnd i j hi hj hij
  have hj' : j < d'.size := by simpa using hj
  have hi' : i < d'.size := by simpa using hi
  have h2 := hs i j (Nat.zero_le _) hij (by rw [← hs1]; exact hj')
  rw [cmpT_lt, getElem!_pos d' i hi', getElem!_pos d' j hj'] at h2
  have h3 : ¬ d'[j].b < d'[i].b := by simpa using h2
  simp only [Array.getElem_toList] at h1 ⊢
  have h1 : d'[i].b ≠ d'[j].b := h1
  show d'[i].b < d'[j].b
  omega
end

section
open Go.RowKit
theorem below_app0 {B B' : Nat} {W wr w1 : World} {o : Obj} {e : TypeId} {n size : Nat} {v : Value} {xs : List Value} (hb : Below B W wr) (hB : B ≤ W.heap.size) (hown : wr.ownsRow B' e size v n xs) (hBB : B ≤ B')
  (hg : (wr.alloc o).grownBy w1 v.ownBlock) : Below B W w1 :=
 (hb.alloc (Nat.le_trans hB hb.size) o).grown hg (by have := hb.size; simp; omega) fun k hk => Nat.le_trans hBB (hown.lt k hk).1
theorem infoIntL : (Tryz.prog.info? 3).map (fun i => (i.zero, i.size, i.bytes)) = some (some (.int .i64 0), 1, 8) := by kernel_rfl
end

section
open Go.RowKit Go.Lib Go.Sort Go.Shelf
theorem holdsI {w : World} {g : Nat} {cur : Array Value} {e : TypeId} {l : List Int} (hb : w.heap[g]? = some (.cells cur e (0, 0))) (ht : cur.toList.take l.length = l.map (Value.int .i64)) : Holds (Value.int .i64) w g 0 l.toArray := by
 intro j hj
 have hj' : j < l.length := by simpa using hj
 refine ⟨?_, by simp [World.frozen?, hb]⟩
 have h1 : (cur.toList.take l.length)[j]? = (l.map (Value.int .i64))[j]? := by rw [ht]
 rw [List.getElem?_take_of_lt hj'] at h1
 simp only [World.cell?, hb, Nat.zero_add]
 simp only [Option.isSome_none, Bool.false_eq_true, if_false]
 rw [← Array.getElem?_toList, h1]
 simp [hj']
theorem take_putI (cur : Array Value) (l : List Int) (h : l.length ≤ cur.size) : (putCells (Value.int .i64) 0 l.toArray cur).toList.take l.length = l.map (Value.int .i64) := by
 apply List.ext_getElem?
 intro j
 by_cases hj : j < l.length
 ·rw [List.getElem?_take_of_lt hj, Array.getElem?_toList]
  simp [putCells, hj, show j < cur.size by omega]
 ·rw [List.getElem?_take_eq_none (by omega), List.getElem?_eq_none (by simp; omega)]
theorem isorted {w : World} {base g cap n : Nat} {os : Array Obj} {l ts : List Int} (hl : ts.length = l.length) (h : w.ownsRow base 3 1 (.slice (some ⟨g, 0, none⟩) l.length cap) l.length (l.map (Value.int .i64))) :
  (grow (putRow (Value.int .i64) (Sort.ahead w n) g 0 ts.toArray) os).ownsRow base 3 1 (.slice (some ⟨g, 0, none⟩) l.length cap) l.length (ts.map (Value.int .i64)) ∧ w.grownBy (grow (putRow (Value.int .i64) (Sort.ahead w n) g 0 ts.toArray) os) (some g) := by
 obtain ⟨h1, h2⟩ := h
 rcases h2 with ⟨h2, _⟩ | ⟨g', cap', cur, e1, e2, hb, e3, e4, e5, e6⟩
 ·cases h2
 cases e1
 have hg : g < w.heap.size := (Array.getElem?_eq_some_iff.1 hb).1
 have hh : (grow (putRow (Value.int .i64) (Sort.ahead w n) g 0 ts.toArray) os).heap[g]? = some (.cells (putCells (Value.int .i64) 0 ts.toArray cur) 3 (0, 0)) := by
  rw [heap_grown (by simpa using hg)]
  simp [putRow, mapBlock, Sort.ahead, Array.getElem?_modify, hb, onCells]
 refine ⟨⟨by simp [hl], .inr ⟨g, cap, _, rfl, e2, hh, by omega, e4, by simp [putCells, e5], ?_⟩⟩, rfl, rfl, rfl, by simp, fun k hk hne => ?_⟩
 ·have := take_putI cur ts (by omega)
  rw [hl] at this
  simpa using this
 ·rw [heap_grown (by simpa using hk)]
  have : g ≠ k := fun e => hne (by rw [e])
  simp [putRow, mapBlock, Sort.ahead, Array.getElem?_modify, this]
theorem isort_own (base : Nat) (v : Value) (l : List Int) (w : World) (hO : w.ownsRow base 3 1 v l.length (l.map (Value.int .i64))) (hl : l.length ≤ 1000000) :
  Calls Tryz.prog 80 #[v] w fun e w' => e = .returned (.tuple #[]) ∧ w'.ownsRow base 3 1 v l.length ((l.mergeSort fun x y => decide (x ≤ y)).map (Value.int .i64)) ∧ w.grownBy w' v.ownBlock := by
 have hO2 := hO
 obtain ⟨h1, h2⟩ := hO2
 rcases h2 with ⟨rfl, h2⟩ | ⟨g, cap, cur, rfl, e2, hb, e3, e4, e5, e6⟩
 ·have hl0 : l.length = 0 := by simpa using h2
  have : l = [] := List.eq_nil_of_length_eq_zero hl0
  subst this
  refine (AnyM.slices_Sort_int_none Tryz.sortInt none 0 w).mono ?_
  rintro e w' ⟨rfl, rfl⟩
  refine ⟨rfl, ?_, rfl, rfl, rfl, Nat.le_refl _, fun _ _ _ => rfl⟩
  simpa using hO
 ·refine (AnyM.slices_Sort_int Tryz.sortInt g 0 cap l w (holdsI hb (by simpa using e6)) (Array.getElem?_eq_some_iff.1 hb).1 (by omega)).mono ?_
  rintro e w' ⟨rfl, n, os, rfl⟩
  obtain ⟨q1, q2⟩ := isorted (n := n) (os := os) (ts := l.mergeSort fun x y => decide (x ≤ y)) (by simp) hO
  exact ⟨rfl, q1, q2⟩
def nameF (L : List Int) : Int → Option Int := fun x => if x ∈ L then some ((posL L x : Nat) : Int) else none
theorem nameF_yes {L : List Int} {x : Int} (h : x ∈ L) : nameF L x = some ((posL L x : Nat) : Int) := if_pos h
theorem nameF_no {L : List Int} {x : Int} (h : x ∉ L) : nameF L x = none := if_neg h
theorem nameF_put {L : List Int} {x : Int} (h : x ∉ L) : putF (nameF L) x (L.length : Int) = nameF (L ++ [x]) := by
 funext y
 unfold putF nameF
 have hp : L <+: L ++ [x] := List.prefix_append _ _
 by_cases e : y = x
 ·subst e
  rw [if_pos rfl, if_pos (by simp)]
  have : posL (L ++ [y]) y = L.length := by
   have h1 := posL_add L y
   unfold addN at h1
   rw [if_neg h] at h1
   rw [h1, posL_new h]
  rw [this]
 ·rw [if_neg e]
  by_cases e2 : y ∈ L
  ·rw [if_pos e2, if_pos (List.mem_append.2 (.inl e2)), posL_prefix hp e2]
  ·rw [if_neg e2, if_neg (by simp [e2, e])]
theorem mapNames : Tryz.prog.underlying 103 = some (.map 3 3) := Tryz.underlying103
theorem cof_any (b n : Nat) (L : List Int) (x : Int) (w : World) (hM : MapI eI Tryz.prog 3 w b n (nameF L) L.length) (hn : n ≤ 1000000) (hx : InI x) :
  Calls Tryz.prog 71 #[.map (some b), .int .i64 x] w fun e w' => e = .returned (.int .i64 ((posL L x : Nat) : Int)) ∧ MapI eI Tryz.prog 3 w' b (n + 1) (nameF (addN L x)) (addN L x).length ∧ w.grownBy w' (some b) := by
 by_cases hin : x ∈ L
 ·have hv := nameF_yes hin
  have HA : Hid (addN L x = L) := hid (by unfold addN; rw [if_pos hin])
  have HM := hid (hM.mono (Nat.le_succ n))
  generalize posL L x = p at *
  clear hin
  go_enter Tryz.func71, Tryz.ntmps71
  go_wp2_with (first | (at_lookup; refine wpList_lookI_ok _ rfl _ _ 103 rfl 3 3 keyI mapNames 0 (zeroI _) _ _ _ _ rfl hM _ rfl hx ?_; rw [hv]; simp only [Option.getD_some, Option.isSome_some, eI]) | go_in)
  go_ret
  exact ⟨rfl, by rw [HA.out]; exact HM.out, rfl, rfl, rfl, Nat.le_refl _, fun _ _ _ => rfl⟩
 ·have hv := nameF_no hin
  have HA : Hid (addN L x = L ++ [x]) := hid (by unfold addN; rw [if_neg hin])
  have HP : Hid (((posL L x : Nat) : Int) = (L.length : Int)) := hid (by rw [posL_new hin])
  have HN := hid (nameF_put hin)
  rw [HP.out]
  clear hin HP
  go_enter Tryz.func71, Tryz.ntmps71
  go_wp2_with (first | (at_lookup; refine wpList_lookI_ok _ rfl _ _ 103 rfl 3 3 keyI mapNames 0 (zeroI _) _ _ _ _ rfl hM _ rfl hx ?_; rw [hv]; simp only [Option.getD_none, Option.isSome_none, eI]) | (with_reducible refine wpList_lenI _ rfl _ 103 rfl 3 3 mapNames _ _ _ _ rfl hM ?_) | (at_mapUpdate; refine wpList_putI _ rfl _ _ _ 103 rfl 3 3 keyI mapNames _ _ _ _ rfl hM (by unfold maxLen; omega) _ rfl hx (L.length : Int) rfl ?_; intro w1 hM4 hgm; go_frame) | go_in)
  have hlen : (addN L x).length = L.length + 1 := by rw [HA.out]; simp
  have HM2 : Hid (MapI eI Tryz.prog 3 w1 b (n + 1) (nameF (addN L x)) (addN L x).length) := hid (by
   rw [hlen, HA.out, ← HN.out]
   rw [hv] at hM4
   simpa using hM4)
  clear hM4 hlen
  go_wp2_with fail
  go_ret
  exact ⟨rfl, HM2.out, hgm⟩
end

section
open Go.RowKit
theorem sort_two (L : List Int) (hd : L.Nodup) : (L.mergeSort fun x y => decide (x ≤ y)).Pairwise (· < ·) := by
 have hp := List.mergeSort_perm L (fun x y => decide (x ≤ y))
 have hs : (L.mergeSort fun x y => decide (x ≤ y)).Pairwise fun x y => decide (x ≤ y) = true := by
  apply List.pairwise_mergeSort
  ·intro a b c h1 h2; simp at *; omega
  ·intro a b; simp; omega
 have hn := hp.nodup_iff.2 hd
 rw [List.nodup_iff_pairwise_ne, List.pairwise_iff_getElem] at hn
 rw [List.pairwise_iff_getElem] at hs ⊢
 intro i j hi hj hij
 have h1 := hs i j hi hj hij
 have h2 := hn i j hi hj hij
 simp only [decide_eq_true_eq] at h1
 omega
theorem sort_rank {L : List Int} (hd : L.Nodup) {k : Nat} (hk : k < (L.mergeSort fun x y => decide (x ≤ y)).length) : rankN L (L.mergeSort fun x y => decide (x ≤ y))[k] = k := by
 have hp := List.mergeSort_perm L (fun x y => decide (x ≤ y))
 have hs := sort_two L hd
 generalize (L.mergeSort fun x y => decide (x ≤ y)) = T at *
 rw [List.pairwise_iff_getElem] at hs
 unfold rankN
 rw [← hp.countP_eq]
 have h1 : (T.take k).countP (fun y => decide (y < T[k])) = (T.take k).length := by
  rw [List.countP_eq_length]
  intro a ha
  obtain ⟨i, hi, e⟩ := List.mem_take_iff_getElem.1 ha
  have := hs i k (by omega) hk (by omega)
  rw [← e]; simpa using this
 have h2 : (T.drop k).countP (fun y => decide (y < T[k])) = 0 := by
  rw [List.countP_eq_zero]
  intro a ha
  obtain ⟨i, hi, e⟩ := List.mem_drop_iff_getElem.1 ha
  rw [← e]
  by_cases h0 : i = 0
  ·subst h0; simp
  ·have := hs k (k + i) hk (by omega) (by omega)
   simp; omega
 have := congrArg (List.countP fun y => decide (y < T[k])) (List.take_append_drop k T)
 rw [List.countP_append, h1, h2, List.length_take] at this
 omega
def rankF (L T : List Int) : Int → Option Int := fun x => if x ∈ T then some (rankI L x) else none
theorem rankF_put {L : List Int} (hd : L.Nodup) {k : Nat} (hk : k < (L.mergeSort fun x y => decide (x ≤ y)).length) : putF (rankF L ((L.mergeSort fun x y => decide (x ≤ y)).take k)) (L.mergeSort fun x y => decide (x ≤ y))[k] (k : Int) = rankF L ((L.mergeSort fun x y => decide (x ≤ y)).take (k + 1)) := by
 have hr := sort_rank hd hk
 generalize (L.mergeSort fun x y => decide (x ≤ y)) = T at *
 funext y
 unfold putF rankF
 rw [List.take_succ_eq_append_getElem hk]
 by_cases e : y = T[k]
 ·rw [if_pos e, if_pos (List.mem_append.2 (.inr (by rw [e]; exact List.mem_singleton.2 rfl))), e]
  unfold rankI
  rw [hr]
 ·rw [if_neg e]
  by_cases e2 : y ∈ T.take k
  ·rw [if_pos e2, if_pos (List.mem_append.2 (.inl e2))]
  ·rw [if_neg e2, if_neg]
   rw [List.mem_append]
   rintro (q | q)
   ·exact e2 q
   ·exact e (List.mem_singleton.1 q)
theorem rankF_all (L : List Int) : rankF L (L.mergeSort fun x y => decide (x ≤ y)) = rankF L L := by
 funext y
 unfold rankF
 have hp := List.mergeSort_perm L (fun x y => decide (x ≤ y))
 by_cases e : y ∈ L
 ·rw [if_pos e, if_pos (hp.mem_iff.2 e)]
 ·rw [if_neg e, if_neg (fun q => e (hp.mem_iff.1 q))]
theorem stL_len (h : List TxnV) : (stL h).length = 2 * h.length := by
 unfold stL
 induction h with
 | nil => rfl
 | cons t h ih => rw [List.flatMap_cons, List.length_append, ih]; simp; omega
theorem cranks_any (va : Value) (h : List TxnV) (w : World) (hT : Txns w va h) (hok : ∀ t ∈ h, t.ok) (hd : (stL h).Nodup) (hl : h.length ≤ 1000) :
  Calls Tryz.prog 70 #[va] w fun e w' => (∃ b n c, e = .returned (.map (some b)) ∧ n ≤ 10000 ∧ w.heap.size ≤ b ∧ MapI eI Tryz.prog 3 w' b n (rankF (stL h) (stL h)) c) ∧ Below w.heap.size w w' := by
 obtain ⟨i0, hi, hz0, hz1, hz2⟩ := info_parts infoIntL
 have HH := hid (fun wx (hx : Below w.heap.size w wx) => hT.below hx)
 obtain ⟨ao, cap, rfl, hal⟩ := hT.form
 have HD := hid hd
 have HOK := hid hok
 clear hT hd hok
 go_enter Tryz.func70, Tryz.ntmps70
 go_wp2_with fail
 go_loopw [3, 11] (fun v i wr => ∃ k : Nat, k ≤ h.length ∧ i = .int .i64 (k : Int) ∧ Hid (wr.ownsRow w.heap.size 3 1 v (stL (h.take k)).length ((stL (h.take k)).map (Value.int .i64))) ∧ Hid (Below w.heap.size w wr)) (fun _ i _ => h.length - (intOf i).toNat)
 case atStart => exact ⟨0, by omega, rfl, hid (World.ownsRow_nil _ _ _ _), hid (Below.refl _ _)⟩
 case round =>
  obtain ⟨k, hk, rfl, HO, HB⟩ := hrel
  by_cases hlt : k < h.length
  ·have hki : (k : Int) < (h.length : Int) := by omega
   obtain ⟨g, o, hao, d0, d1, d2, d3⟩ := (HH.out _ HB.out).at hlt
   cases hao
   have HL := hid (stL_succ h k hlt)
   have hsl : (stL (h.take k)).length ≤ 2000 := by rw [stL_len, List.length_take]; omega
   obtain ⟨_, ua, uc, hu, _⟩ := (HH.out _ HB.out).ops hlt
   rw [hu] at d3
   clear hu
   generalize h[k] = t at *
   obtain ⟨s, b, cc, v9, l⟩ := t
   simp only at d0 d1 d2 d3 HL
   have hown := HO.out.alloc (.cells #[.int .i64 s, .int .i64 b, .int .i64 cc, .slice ua l.length uc] 52)
   have HB2 := HB.out.alloc HB.out.size (.cells #[.int .i64 s, .int .i64 b, .int .i64 cc, .slice ua l.length uc] 52)
   have hsz := HB.out.size
   generalize stL (h.take k) = S at *
   clear HO
   go_wp2_with (first | (at_builtin; refine wpList_append_own _ rfl _ _ 24 rfl w.heap.size 3 i0 (.int .i64 0) 1 8 Tryz.underlying24 hi hz0 hz1 hz2 rfl (by decide) _ _ _ rfl (hown.alloc _) ⟨_, 0, none⟩ 2 2 [.int .i64 b, .int .i64 cc] rfl rfl ?c1 ?c2 ?c3 ?c4 ?c5 ?_) | go_in)
   try case c1 => first | (simp [Addr.add]; done) | (intro j u hu; rcases j with _ | _ | j <;> first | (cases hu; simp [Addr.add]; done) | (simp at hu; done))
   case c2 => first | exact ⟨rfl, rfl⟩ | (intro u hu; simp at hu; rcases hu with rfl | rfl <;> rfl)
   case c3 => unfold maxLen; omega
   case c4 => omega
   case c5 => first | omega | (simp; omega)
   intro v10 w10 hown10 hg10 _
   have HO10 : Hid (w10.ownsRow w.heap.size 3 1 v10 (stL (h.take (k + 1))).length ((stL (h.take (k + 1))).map (Value.int .i64))) := hid (by
    rw [HL.out, List.length_append, List.map_append]
    exact hown10)
   have HB10 : Hid (Below w.heap.size w w10) := hid (below_app0 HB2 (Nat.le_refl _) hown (Nat.le_refl _) hg10)
   clear hown10 hg10 hown HL HB2
   go_wp2_with fail
   go_roundw
   case rel => exact ⟨k + 1, by omega, by go_num, HO10, HB10⟩
   case measure => simp [intOf]; omega
  ·obtain rfl : k = h.length := by omega
   have hki : ¬ (h.length : Int) < (h.length : Int) := by omega
   have hO := HO.out
   rw [List.take_length] at hO
   have hsl : (stL h).length ≤ 2000 := by rw [stL_len]; omega
   have CS := hid (isort_own w.heap.size _ (stL h) wr hO (by omega))
   have HLO := hid (fun b hb => (World.ownsRow.lt hO b hb).1)
   have HIN : Hid (∀ x ∈ stL h, InI x) := hid (fun x hx => by
    obtain ⟨t, ht, e⟩ := stL_mem.1 hx
    have := (HOK.out t ht).1
    rcases e with rfl | rfl
    ·exact inI_of this.2.1
    ·exact inI_of this.2.2)
   have HPT := hid (List.mergeSort_perm (stL h) (fun x y => decide (x ≤ y)))
   have HPUT := hid (fun k hk => rankF_put HD.out (k := k) hk)
   have HALL := hid (rankF_all (stL h))
   clear hO HO
   go_wp2_with fail
   refine CS.out.mono ?_
   rintro e w5 ⟨rfl, hO5, hg5⟩
   have hb5 := HB.out.grown hg5 HB.out.size (fun j hj => HLO.out j hj)
   obtain ⟨_, so, scap, rfl, _⟩ := Row.of_owns hO5
   generalize hS : stL h = S at *
   generalize hT : (S.mergeSort fun x y => decide (x ≤ y)) = T at *
   have hTl : T.length = S.length := HPT.out.length_eq
   rw [← hTl]
   have hI5 : Ints w5 (.slice so T.length scap) T := by
    have h1 := Row.of_owns hO5
    rw [← hTl] at h1
    exact h1
   have hm0 := MapI.made eI Tryz.prog 3 w5
   have hxA := box_below w5 (.map #[] 0)
   have HI5 := hid (fun wx (hx : Below w5.heap.size w5 wx) => hI5.below hx)
   have hI6 := hid (hI5.below hxA)
   have HF0 : Hid (rankF S (T.take 0) = fun _ => none) := hid (by funext x; unfold rankF; simp)
   have hmm := @run_makeMap Tryz.prog
   have HB5 := hid hb5
   have HX5 := hid hxA
   clear hI5 hxA hb5
   generalize w5 = w5x at *
   go_wp2_with fail
   clear hmm
   go_loopw [28] (fun i wr => ∃ k n c : Nat, k ≤ T.length ∧ i = .int .i64 (k : Int) ∧ n ≤ k ∧ MapI eI Tryz.prog 3 wr w5x.heap.size n (rankF S (T.take k)) c ∧ Hid (Below w5x.heap.size w5x wr)) (fun i _ => T.length - (intOf i).toNat)
   case atStart => exact ⟨0, 0, 0, by omega, rfl, by omega, by rw [HF0.out]; exact hm0, HX5⟩
   case round =>
    obtain ⟨k, n, c, hk, rfl, hn, hM, HB6⟩ := hrel
    clear hm0
    by_cases hlt : k < T.length
    ·have hki2 : (k : Int) < (T.length : Int) := by omega
     obtain ⟨g, o, hao, hc⟩ := (HI5.out _ HB6.out).at hlt
     cases hao
     have hkx := HIN.out T[k] (HPT.out.mem_iff.1 (List.getElem_mem hlt))
     have HP := hid (HPUT.out k hlt)
     have hbz := HB6.out.size
     have HB7 := hid HB6.out
     clear HB6
     generalize T[k] = y at *
     go_wp2_with (first | (at_mapUpdate; refine wpList_putI _ rfl _ _ _ 31 rfl 3 3 keyI mapII _ _ _ _ rfl hM (by unfold maxLen; omega) _ rfl hkx (k : Int) rfl ?_; intro w1 hM4 hgm; go_frame) | go_in)
     have HB8 := hid (HB7.out.grown hgm HB7.out.size (fun j hj => by cases hj; omega))
     rw [HP.out] at hM4
     go_wp2_with fail
     go_roundw
     case rel => exact ⟨k + 1, n + 1, _, by omega, by go_num, by omega, hM4, HB8⟩
     case measure => simp [intOf]; omega
    ·obtain rfl : k = T.length := by omega
     have hki2 : ¬ (T.length : Int) < (T.length : Int) := by omega
     rw [List.take_length, HALL.out] at hM
     have HM := hid hM
     have HB7 := hid (below_then HB5.out HB6.out)
     have hz := HB5.out.size
     clear HB6 hM
     go_wp2_with fail
     go_ret
     exact ⟨⟨_, rfl, n, by omega, hz, c, HM.out⟩, HB7.out⟩
end

section
open Go.RowKit
theorem owns_set {w : World} {base : Nat} {e : TypeId} {size g cap n : Nat} {xs : List Value} (h : w.ownsRow base e size (.slice (some ⟨g, 0, none⟩) n cap) n xs) (j : Nat) (u : Value) :
  (w.setCell ⟨g, j, none⟩ u).ownsRow base e size (.slice (some ⟨g, 0, none⟩) n cap) n (xs.set j u) := by
 obtain ⟨h1, h2⟩ := h
 rcases h2 with ⟨h2, _⟩ | ⟨g', cap', cur, e1, e2, hb, e3, e4, e5, e6⟩
 ·cases h2
 cases e1
 refine ⟨by simp [h1], .inr ⟨g, cap, cur.setIfInBounds j u, rfl, e2, ?_, e3, e4, by simpa using e5, ?_⟩⟩
 ·rw [Sort.setCell_eq]
  simp [Sort.mapBlock, Array.getElem?_modify, hb, Sort.onCells]
 ·rw [Array.toList_setIfInBounds, List.take_set, e6]
theorem opV_set : ∀ (l : List OpV) (k : Nat) (_ : k < l.length) (o : OpV), opV (l.set k o) = (((opV l).set (k * 3) (.bool o.wr)).set (k * 3 + 1) (.int .i64 o.key)).set (k * 3 + 2) (.int .i64 o.val)
 | a :: l, 0, _, o => rfl
 | a :: l, k + 1, hk, o => by
  have ih := opV_set l k (by simpa using hk) o
  rw [show (k + 1) * 3 + 2 = (k * 3 + 2) + 1 + 1 + 1 from by omega, show (k + 1) * 3 + 1 = (k * 3 + 1) + 1 + 1 + 1 from by omega, show (k + 1) * 3 = (k * 3) + 1 + 1 + 1 from by omega]
  show opV (a :: l.set k _) = (((Value.bool a.wr :: .int .i64 a.key :: .int .i64 a.val :: opV l).set _ _).set _ _).set _ _
  simp only [List.set_cons_succ]
  rw [← ih]; rfl
theorem Own.store {w : World} {base g cap n : Nat} {l : List OpV} (h : Own w base (.slice (some ⟨g, 0, none⟩) n cap) l) {k : Nat} (hk : k < l.length) (o : OpV) :
  Own (w.setCells g (k * 3) [.bool o.wr, .int .i64 o.key, .int .i64 o.val]) base (.slice (some ⟨g, 0, none⟩) n cap) (l.set k o) := by
 unfold Own at h ⊢
 obtain ⟨x, y⟩ := h
 have hn : n = l.length := by
  rcases y with ⟨y, _⟩ | ⟨g', cap', cur, e1, _⟩
  ·cases y
  ·exact (Value.slice.inj e1).2.1
 subst hn
 have := owns_set (owns_set (owns_set (w := w) ⟨x, y⟩ (k * 3) (.bool o.wr)) (k * 3 + 1) (.int .i64 o.key)) (k * 3 + 2) (.int .i64 o.val)
 rw [← opV_set l k hk o] at this
 rw [List.length_set]
 exact this
def valP (l : List Int) : List Int := l.filter fun v => v != 0
theorem pos_cons {x : Int} (L : List Int) (h : x ≠ 0) : posL (0 :: L) x = posL L x + 1 := by
 unfold posL
 rw [List.findIdx_cons]
 have : ((0 : Int) == x) = false := by simpa using Ne.symm h
 rw [this]; rfl
theorem pos_zero (L : List Int) : posL (0 :: L) 0 = 0 := by
 unfold posL
 rw [List.findIdx_cons]; rfl
theorem addN_val (q : List Int) (x : Int) : addN (0 :: firsts (valP q)) x = 0 :: firsts (valP (q ++ [x])) := by
 unfold valP
 rw [List.filter_append]
 by_cases h : x = 0
 ·subst h
  rw [show List.filter (fun v => v != 0) [(0 : Int)] = [] from rfl, List.append_nil]
  unfold addN
  rw [if_pos (List.mem_cons_self ..)]
 ·have h1 : List.filter (fun v => v != 0) [x] = [x] := by simp [h]
  rw [h1, firsts_snoc]
  unfold addN
  by_cases h2 : x ∈ firsts (q.filter fun v => v != 0)
  ·rw [if_pos (List.mem_cons_of_mem _ h2), if_pos h2]
  ·rw [if_neg (by simp [h, h2]), if_neg h2]; rfl
section
variable {E : List ETx}
theorem op_ren {p q : List Int} {o : OpV} (hp : p ++ [o.key] <+: keyE E) (hq : q ++ [o.val] <+: valA E) :
  (⟨o.wr, ((posL (firsts p) o.key : Nat) : Int), ((posL (0 :: firsts (valP q)) o.val : Nat) : Int)⟩ : OpV) = renO (noI (keyE E)) (noV (valE E)) o := by
 unfold renO noI noV
 rw [posL_time hp]
 congr 1
 by_cases h : o.val = 0
 ·rw [if_pos h, h, pos_zero]; rfl
 ·rw [if_neg h, pos_cons _ h]
  unfold noI
  have hf : valP q ++ [o.val] <+: valE E := by
   obtain ⟨r, hr⟩ := hq
   refine ⟨valP r, ?_⟩
   unfold valP valE
   rw [← hr, List.filter_append, List.filter_append]
   have h1 : List.filter (fun v => v != 0) [o.val] = [o.val] := by simp [h]
   rw [h1]
  rw [posL_time hf]
  omega
theorem flat_prefix {f : ETx → List Int} {i : Nat} (hi : i < E.length) {k : Nat} (hk : k < (f E[i]).length) : (E.take i).flatMap f ++ (f E[i]).take k ++ [(f E[i])[k]] <+: E.flatMap f := by
 refine ⟨(f E[i]).drop (k + 1) ++ (E.drop (i + 1)).flatMap f, ?_⟩
 have h1 : E.flatMap f = (E.take i).flatMap f ++ (f E[i] ++ (E.drop (i + 1)).flatMap f) := by
  have := congrArg (List.flatMap f) (List.take_append_drop i E)
  rw [← this, List.flatMap_append, List.drop_eq_getElem_cons hi, List.flatMap_cons]
 have h2 : f E[i] = (f E[i]).take k ++ [(f E[i])[k]] ++ (f E[i]).drop (k + 1) := by
  rw [List.append_assoc, List.singleton_append, ← List.drop_eq_getElem_cons hk, List.take_append_drop]
 rw [h1]
 conv => rhs; rw [h2]
 simp only [List.append_assoc]
end
end

section
open Go.RowKit
def cOp (E : List ETx) (o : OpV) : OpV := renO (noI (keyE E)) (noV (valE E)) o
def cTx (E : List ETx) (t : TxnV) : TxnV := ⟨noI (sesE E) t.s, rankI (stE E) t.b, rankI (stE E) t.c, t.v, t.l.map (cOp E)⟩
theorem cTx_canE (s : List TxnV) : (s.map (cTx (s.map txE))).map txE = canE (s.map txE) := by
 unfold canE
 rw [List.map_map, List.map_map]; rfl
def outTo (s : List TxnV) (i : Nat) : List TxnV := (s.take i).map (cTx (s.map txE)) ++ s.drop i
def opsTo (s : List TxnV) (i k j : Nat) : List OpV := if j < i then (opsAt s j).map (cOp (s.map txE)) else if j = i then ((opsAt s j).take k).map (cOp (s.map txE)) ++ (opsAt s j).drop k else opsAt s j
def sTo (s : List TxnV) (i : Nat) : List Int := (sesE (s.map txE)).take i
def kTo (s : List TxnV) (i k : Nat) : List Int := keyE ((s.map txE).take i) ++ ((opsAt s i).take k).map (·.key)
def vTo (s : List TxnV) (i k : Nat) : List Int := valA ((s.map txE).take i) ++ ((opsAt s i).take k).map (·.val)
section
variable {s : List TxnV} {i k : Nat}
theorem outTo_len (hi : i ≤ s.length) : (outTo s i).length = s.length := by unfold outTo; simp; omega
theorem outTo_zero : outTo s 0 = s := by unfold outTo; simp
theorem outTo_all : outTo s s.length = s.map (cTx (s.map txE)) := by unfold outTo; simp
theorem outTo_at (hi : i < s.length) (hi2 : i < (outTo s i).length) : (outTo s i)[i] = s[i] := by
 have h1 : ((s.take i).map (cTx (s.map txE))).length = i := by simp; omega
 have : (outTo s i)[i]? = some s[i] := by
  unfold outTo
  rw [List.getElem?_append_right (by omega), h1, Nat.sub_self, List.getElem?_drop, Nat.add_zero, List.getElem?_eq_getElem hi]
 rw [List.getElem?_eq_getElem hi2] at this
 exact Option.some.inj this
theorem outTo_succ (hi : i < s.length) : outTo s (i + 1) = (outTo s i).set i (cTx (s.map txE) s[i]) := by
 have h1 : ((s.take i).map (cTx (s.map txE))).length = i := by simp; omega
 unfold outTo
 rw [List.take_succ_eq_append_getElem hi, List.map_append, List.set_append_right _ _ (by omega), h1, Nat.sub_self, List.drop_eq_getElem_cons hi, List.set_cons_zero, List.append_assoc]
 rfl
theorem txV_all (l : List TxnV) (i : Nat) (hi : i < l.length) (x y z : Int) (m : List OpV) : txV (l.set i ⟨x, y, z, l[i].v, m⟩) = (((txV l).set (i * 4) (.int .i64 x)).set (i * 4 + 1) (.int .i64 y)).set (i * 4 + 2) (.int .i64 z) := by
 induction l generalizing i with
 | nil => cases hi
 | cons a l ih =>
  cases i with
  | zero => rfl
  | succ i =>
   have := ih i (by simpa using hi)
   rw [show (i + 1) * 4 + 2 = (i * 4 + 2) + 1 + 1 + 1 + 1 from by omega, show (i + 1) * 4 + 1 = (i * 4 + 1) + 1 + 1 + 1 + 1 from by omega, show (i + 1) * 4 = (i * 4) + 1 + 1 + 1 + 1 from by omega]
   show txV (a :: l.set i _) = (((Value.int .i64 a.s :: .int .i64 a.b :: .int .i64 a.c :: a.v :: txV l).set _ _).set _ _).set _ _
   simp only [List.set_cons_succ]
   rw [← this]; rfl
theorem opsTo_now : opsTo s i k i = ((opsAt s i).take k).map (cOp (s.map txE)) ++ (opsAt s i).drop k := by
 unfold opsTo; rw [if_neg (by omega), if_pos rfl]
theorem opsTo_len (j : Nat) : (opsTo s i k j).length = (opsAt s j).length := by
 unfold opsTo
 split
 ·simp
 ·split
  ·simp; omega
  ·rfl
theorem opsTo_at (hk : k < (opsAt s i).length) (hk2 : k < (opsTo s i k i).length) : (opsTo s i k i)[k] = (opsAt s i)[k] := by
 have h1 : (((opsAt s i).take k).map (cOp (s.map txE))).length = k := by simp; omega
 have : (opsTo s i k i)[k]? = some (opsAt s i)[k] := by
  rw [opsTo_now, List.getElem?_append_right (by omega), h1, Nat.sub_self, List.getElem?_drop, Nat.add_zero, List.getElem?_eq_getElem hk]
 rw [List.getElem?_eq_getElem hk2] at this
 exact Option.some.inj this
theorem opsTo_succ (hk : k < (opsAt s i).length) : opsTo s i (k + 1) i = (opsTo s i k i).set k (cOp (s.map txE) (opsAt s i)[k]) := by
 have h1 : (((opsAt s i).take k).map (cOp (s.map txE))).length = k := by simp; omega
 rw [opsTo_now, opsTo_now, List.take_succ_eq_append_getElem hk, List.map_append, List.set_append_right _ _ (by omega), h1, Nat.sub_self, List.drop_eq_getElem_cons hk, List.set_cons_zero, List.append_assoc]
 rfl
theorem opsTo_other {j : Nat} (h : j ≠ i) : opsTo s i (k + 1) j = opsTo s i k j := by
 unfold opsTo; rw [if_neg h, if_neg h]
theorem opsTo_done (j : Nat) : opsTo s i (opsAt s i).length j = opsTo s (i + 1) 0 j := by
 unfold opsTo
 by_cases h1 : j < i
 ·rw [if_pos h1, if_pos (by omega)]
 ·rw [if_neg h1]
  by_cases h2 : j = i
  ·subst h2; rw [if_pos rfl, if_pos (by omega)]; simp
  ·rw [if_neg h2, if_neg (by omega)]
   by_cases h3 : j = i + 1
   ·rw [if_pos h3]; simp
   ·rw [if_neg h3]
theorem sTo_succ (hi : i < s.length) : sTo s (i + 1) = sTo s i ++ [s[i].s] := by
 unfold sTo
 rw [List.take_succ_eq_append_getElem (by unfold sesE; simpa using hi)]
 congr 1
 unfold sesE
 simp [txE]
theorem kTo_succ (hk : k < (opsAt s i).length) : kTo s i (k + 1) = kTo s i k ++ [(opsAt s i)[k].key] := by
 unfold kTo
 rw [List.take_succ_eq_append_getElem hk, List.map_append, List.append_assoc]; rfl
theorem vTo_succ (hk : k < (opsAt s i).length) : vTo s i (k + 1) = vTo s i k ++ [(opsAt s i)[k].val] := by
 unfold vTo
 rw [List.take_succ_eq_append_getElem hk, List.map_append, List.append_assoc]; rfl
theorem take_txE (hi : i < s.length) : (s.map txE).take (i + 1) = (s.map txE).take i ++ [txE s[i]] := by
 rw [List.take_succ_eq_append_getElem (by simpa using hi)]; simp
theorem kTo_done (hi : i < s.length) : kTo s i (opsAt s i).length = kTo s (i + 1) 0 := by
 unfold kTo
 rw [take_txE hi, List.take_length, List.take_zero, List.map_nil, List.append_nil, opsAt_eq hi]
 unfold keyE
 rw [List.flatMap_append]; simp [txE]
theorem vTo_done (hi : i < s.length) : vTo s i (opsAt s i).length = vTo s (i + 1) 0 := by
 unfold vTo
 rw [take_txE hi, List.take_length, List.take_zero, List.map_nil, List.append_nil, opsAt_eq hi]
 unfold valA
 rw [List.flatMap_append]; simp [txE]
theorem cOp_now (hi : i < s.length) (hk : k < (opsAt s i).length) : (⟨(opsAt s i)[k].wr, ((posL (firsts (kTo s i k)) (opsAt s i)[k].key : Nat) : Int), ((posL (0 :: firsts (valP (vTo s i k))) (opsAt s i)[k].val : Nat) : Int)⟩ : OpV) = cOp (s.map txE) (opsAt s i)[k] := by
 have hiE : i < (s.map txE).length := by simpa using hi
 have eE : (txE s[i]).2.2.2 = opsAt s i := (opsAt_eq hi).symm
 have e1 : ((opsAt s i).take k).map (·.key) = ((opsAt s i).map (·.key)).take k := List.map_take
 have e2 : ((opsAt s i).take k).map (·.val) = ((opsAt s i).map (·.val)).take k := List.map_take
 unfold cOp
 refine op_ren ?_ ?_
 ·have := flat_prefix (E := s.map txE) (f := fun e => e.2.2.2.map (·.key)) hiE (k := k) (by simp only [List.getElem_map, eE, List.length_map]; exact hk)
  simp only [List.getElem_map, eE] at this
  unfold kTo
  rw [e1]
  exact this
 ·have := flat_prefix (E := s.map txE) (f := fun e => e.2.2.2.map (·.val)) hiE (k := k) (by simp only [List.getElem_map, eE, List.length_map]; exact hk)
  simp only [List.getElem_map, eE] at this
  unfold vTo
  rw [e2]
  exact this
theorem ses_now (hi : i < s.length) : ((posL (firsts (sTo s i)) s[i].s : Nat) : Int) = noI (sesE (s.map txE)) s[i].s := by
 have h : sTo s i ++ [s[i].s] <+: sesE (s.map txE) := by
  rw [← sTo_succ hi]
  exact List.take_prefix _ _
 unfold noI
 rw [posL_time h]
theorem rank_now (x : Int) : rankI (stL s) x = rankI (stE (s.map txE)) x := by rw [stE_txE]
end
end

section
open Go.RowKit
structure CanF (s : List TxnV) (g base base2 bM bS bK bV : Nat) : Prop where
 g2 : g < base2
 bg : base ≤ g
 ops : ∀ t ∈ s, ∀ b, t.v.ownBlock = some b → base2 ≤ b ∧ b < bM
 apart : s.Pairwise ApartT
 gM : g < bM
 MS : bM < bS
 SK : bS < bK
 KV : bK < bV
structure CanI (s : List TxnV) (g cap base base2 bM bS bK bV nM cM : Nat) (i k iO iS kK kV : Nat) (W : World) : Prop where
 own : OwnT W base (.slice (some ⟨g, 0, none⟩) s.length cap) (outTo s iO)
 ops : ∀ j (hj : j < s.length), Own W base2 s[j].v (opsTo s i k j)
 mM : MapI eI Tryz.prog 3 W bM nM (rankF (stL s) (stL s)) cM
 mS : MapI eI Tryz.prog 3 W bS iS (nameF (firsts (sTo s iS))) (firsts (sTo s iS)).length
 mK : MapI eI Tryz.prog 3 W bK (opsN (s.take i) + kK) (nameF (firsts (kTo s i kK))) (firsts (kTo s i kK)).length
 mV : MapI eI Tryz.prog 3 W bV (opsN (s.take i) + kV + 1) (nameF (0 :: firsts (valP (vTo s i kV)))) (0 :: firsts (valP (vTo s i kV))).length
section
variable {s : List TxnV} {g cap base base2 bM bS bK bV nM cM : Nat} {i k iO iS kK kV : Nat} {W W1 : World}
theorem CanI.below (q : CanI s g cap base base2 bM bS bK bV nM cM i k iO iS kK kV W) (hb : Below W.heap.size W W1) : CanI s g cap base base2 bM bS bK bV nM cM i k iO iS kK kV W1 :=
 ⟨q.own.below hb, fun j hj => (q.ops j hj).below hb, q.mM.below hb, q.mS.below hb, q.mK.below hb, q.mV.below hb⟩
theorem CanF.op (f : CanF s g base base2 bM bS bK bV) {j : Nat} (hj : j < s.length) {b : Nat} (hb : s[j].v.ownBlock = some b) : base2 ≤ b ∧ b < bM := f.ops _ (List.getElem_mem hj) b hb
theorem CanI.ses (f : CanF s g base base2 bM bS bK bV) (q : CanI s g cap base base2 bM bS bK bV nM cM i k iO i kK kV W) (hi : i < s.length)
  (hM : MapI eI Tryz.prog 3 W1 bS (i + 1) (nameF (addN (firsts (sTo s i)) s[i].s)) (addN (firsts (sTo s i)) s[i].s).length) (hg : W.grownBy W1 (some bS)) : CanI s g cap base base2 bM bS bK bV nM cM i k iO (i + 1) kK kV W1 := by
 have h1 := f.gM; have h2 := f.MS; have h3 := f.SK; have h4 := f.KV
 rw [← firsts_snoc, ← sTo_succ hi] at hM
 refine ⟨World.ownsRow.kept q.own hg (.inr (fun e => by simp [Value.ownBlock] at e; omega)), fun j hj => World.ownsRow.kept (q.ops j hj) hg (.inr (fun e => by have := (f.op hj e).2; omega)),
  q.mM.kept hg (fun e => by cases e; omega), hM, q.mK.kept hg (fun e => by cases e; omega), q.mV.kept hg (fun e => by cases e; omega)⟩
theorem CanI.key (f : CanF s g base base2 bM bS bK bV) (q : CanI s g cap base base2 bM bS bK bV nM cM i k iO iS k kV W) (hk : k < (opsAt s i).length)
  (hM : MapI eI Tryz.prog 3 W1 bK (opsN (s.take i) + k + 1) (nameF (addN (firsts (kTo s i k)) (opsAt s i)[k].key)) (addN (firsts (kTo s i k)) (opsAt s i)[k].key).length) (hg : W.grownBy W1 (some bK)) : CanI s g cap base base2 bM bS bK bV nM cM i k iO iS (k + 1) kV W1 := by
 have h1 := f.gM; have h2 := f.MS; have h3 := f.SK; have h4 := f.KV
 rw [← firsts_snoc, ← kTo_succ hk] at hM
 refine ⟨World.ownsRow.kept q.own hg (.inr (fun e => by simp [Value.ownBlock] at e; omega)), fun j hj => World.ownsRow.kept (q.ops j hj) hg (.inr (fun e => by have := (f.op hj e).2; omega)),
  q.mM.kept hg (fun e => by cases e; omega), q.mS.kept hg (fun e => by cases e; omega), hM, q.mV.kept hg (fun e => by cases e; omega)⟩
theorem CanI.val (f : CanF s g base base2 bM bS bK bV) (q : CanI s g cap base base2 bM bS bK bV nM cM i k iO iS kK k W) (hk : k < (opsAt s i).length)
  (hM : MapI eI Tryz.prog 3 W1 bV (opsN (s.take i) + k + 1 + 1) (nameF (addN (0 :: firsts (valP (vTo s i k))) (opsAt s i)[k].val)) (addN (0 :: firsts (valP (vTo s i k))) (opsAt s i)[k].val).length) (hg : W.grownBy W1 (some bV)) : CanI s g cap base base2 bM bS bK bV nM cM i k iO iS kK (k + 1) W1 := by
 have h1 := f.gM; have h2 := f.MS; have h3 := f.SK; have h4 := f.KV
 rw [addN_val, ← vTo_succ hk] at hM
 refine ⟨World.ownsRow.kept q.own hg (.inr (fun e => by simp [Value.ownBlock] at e; omega)), fun j hj => World.ownsRow.kept (q.ops j hj) hg (.inr (fun e => by have := (f.op hj e).2; omega)),
  q.mM.kept hg (fun e => by cases e; omega), q.mS.kept hg (fun e => by cases e; omega), q.mK.kept hg (fun e => by cases e; omega), hM⟩
theorem CanI.cells (q : CanI s g cap base base2 bM bS bK bV nM cM i k i iS kK kV W) (hi : i < s.length) :
  (W.cell? ⟨g, i * 4, none⟩ = some (.int .i64 s[i].s) ∧ W.frozen? ⟨g, i * 4, none⟩ = false) ∧ (W.cell? ⟨g, i * 4 + 1, none⟩ = some (.int .i64 s[i].b) ∧ W.frozen? ⟨g, i * 4 + 1, none⟩ = false) ∧ (W.cell? ⟨g, i * 4 + 2, none⟩ = some (.int .i64 s[i].c) ∧ W.frozen? ⟨g, i * 4 + 2, none⟩ = false) ∧ W.cell? ⟨g, i * 4 + 3, none⟩ = some s[i].v := by
 have hl := outTo_len (s := s) (i := i) (by omega)
 have ho : OwnT W base (.slice (some ⟨g, 0, none⟩) (outTo s i).length cap) (outTo s i) := by rw [hl]; exact q.own
 have hi2 : i < (outTo s i).length := by omega
 obtain ⟨q0, q1, q2, q3⟩ := txV_at (outTo s i) i hi2
 rw [outTo_at hi hi2] at q0 q1 q2 q3
 have a0 := ho.at (j := i * 4) (by omega)
 have a1 := ho.at (j := i * 4 + 1) (by omega)
 have a2 := ho.at (j := i * 4 + 2) (by omega)
 have a3 := ho.at (j := i * 4 + 3) (by omega)
 rw [q0] at a0
 rw [q1] at a1
 rw [q2] at a2
 rw [q3] at a3
 exact ⟨a0, a1, a2, a3.1⟩
theorem CanI.cell (f : CanF s g base base2 bM bS bK bV) (q : CanI s g cap base base2 bM bS bK bV nM cM i k i iS kK kV W) (hi : i < s.length) (x y z : Int) (hx : x = noI (sesE (s.map txE)) s[i].s) (hy : y = rankI (stE (s.map txE)) s[i].b) (hz : z = rankI (stE (s.map txE)) s[i].c) :
  CanI s g cap base base2 bM bS bK bV nM cM i k (i + 1) iS kK kV (((W.setCell ⟨g, i * 4, none⟩ (.int .i64 x)).setCell ⟨g, i * 4 + 1, none⟩ (.int .i64 y)).setCell ⟨g, i * 4 + 2, none⟩ (.int .i64 z)) := by
 have h1 := f.gM; have h2 := f.MS; have h3 := f.SK; have h4 := f.KV; have h5 := f.g2
 have hl := outTo_len (s := s) (i := i) (by omega)
 have hi2 : i < (outTo s i).length := by omega
 have hset : outTo s (i + 1) = (outTo s i).set i ⟨x, y, z, (outTo s i)[i].v, s[i].l.map (cOp (s.map txE))⟩ := by
  rw [outTo_succ hi, outTo_at hi hi2, hx, hy, hz]; rfl
 refine ⟨?_, fun j hj => owns_cell_any (owns_cell_any (owns_cell_any (q.ops j hj) (by exact h5) _) (by exact h5) _) (by exact h5) _,
  ((q.mM.cell (by show bM ≠ g; omega) _).cell (by show bM ≠ g; omega) _).cell (by show bM ≠ g; omega) _, ((q.mS.cell (by show bS ≠ g; omega) _).cell (by show bS ≠ g; omega) _).cell (by show bS ≠ g; omega) _,
  ((q.mK.cell (by show bK ≠ g; omega) _).cell (by show bK ≠ g; omega) _).cell (by show bK ≠ g; omega) _, ((q.mV.cell (by show bV ≠ g; omega) _).cell (by show bV ≠ g; omega) _).cell (by show bV ≠ g; omega) _⟩
 have ho := q.own
 unfold OwnT at ho ⊢
 rw [hl] at ho
 have := owns_set (owns_set (owns_set ho (i * 4) (.int .i64 x)) (i * 4 + 1) (.int .i64 y)) (i * 4 + 2) (.int .i64 z)
 rw [hset, List.length_set, hl, txV_all _ _ hi2]
 exact this
end
end

end Go.Proofs.YtipmfhgdeghmjaaGreat
