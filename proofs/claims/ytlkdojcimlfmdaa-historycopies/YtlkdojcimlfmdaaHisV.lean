/- The walk of Copy of histories. Conditions: slices' cells are known; sizes are small. -/
import Derived.Test.YtlkdojcimlfmdaaHisU
import Derived.Test.YtlkdojcimlfmdaaTxnA
import Derived.Sort.Row
namespace Go.Proofs.Ytlkdojcimlfmdaa
set_option maxRecDepth 100000
open Go.RowKit

theorem grown_setC (w : World) (a : Addr) (u : Value) : w.grownBy (w.setCell a u) (some a.block) :=
  ⟨rfl, rfl, rfl, by simp, fun k _ hk => Below.heap_setCell w a u k (fun e => hk (by rw [e]))⟩
theorem txV_app (l m : List TxnV) : txV (l ++ m) = txV l ++ txV m := by simp [txV]
/-- Two transactions' own operations lie apart. -/
def ApartT (t u : TxnV) : Prop := ∀ b, t.v.ownBlock = some b → u.v.ownBlock ≠ some b
theorem OwnT.below {w w' : World} {base : Nat} {v : Value} {h : List TxnV} (hO : OwnT w base v h) (hb : Below w.heap.size w w') : OwnT w' base v h := owns_below hO hb
theorem OwnT.setCell {w : World} {base g cap : Nat} {h h' : List TxnV} {j : Nat} {u : Value} (hO : OwnT w base (.slice (some ⟨g, 0, none⟩) h.length cap) h) (hl : h'.length = h.length) (hh : txV h' = (txV h).set j u) :
    OwnT (w.setCell ⟨g, j, none⟩ u) base (.slice (some ⟨g, 0, none⟩) h'.length cap) h' := by
  obtain ⟨h1, h2⟩ := hO
  rcases h2 with ⟨h2, _⟩ | ⟨g', cap', cur, e1, e2, hb, e3, e4, e5, e6⟩
  · cases h2
  cases e1
  refine ⟨by rw [txV_len], .inr ⟨g, cap, cur.setIfInBounds j u, rfl, e2, ?_, by rw [hl]; exact e3, e4, by simpa using e5, ?_⟩⟩
  · rw [Sort.setCell_eq]
    simp [Sort.mapBlock, Array.getElem?_modify, hb, Sort.onCells]
  · rw [hl, Array.toList_setIfInBounds, List.take_set, e6, hh]
theorem OwnT.at {w : World} {base g cap : Nat} {h : List TxnV} (hO : OwnT w base (.slice (some ⟨g, 0, none⟩) h.length cap) h) {j : Nat} (hj : j < h.length * 4) :
    w.cell? ⟨g, j, none⟩ = (txV h)[j]? ∧ w.frozen? ⟨g, j, none⟩ = false := by
  constructor
  · obtain ⟨_, ao, cap', e, _, _, hc⟩ := hO.row
    cases e
    obtain ⟨b, off, e, hcell⟩ := hc (by omega)
    cases e
    have := hcell j hj
    simpa using this
  · obtain ⟨h1, h2⟩ := hO
    rcases h2 with ⟨h2, _⟩ | ⟨g', cap', cur, e1, e2, hb, _⟩
    · cases h2
    cases e1
    simp [World.frozen?, hb]
theorem OwnT.split {w : World} {base : Nat} {v : Value} {h : List TxnV} (hO : OwnT w base v h) : (v = .slice none 0 0 ∧ h = []) ∨ ∃ g cap, v = .slice (some ⟨g, 0, none⟩) h.length cap ∧ base ≤ g := by
  obtain ⟨_, h2⟩ := hO
  rcases h2 with ⟨e1, e2⟩ | ⟨g, cap, cur, e1, e2, _⟩
  · exact .inl ⟨e1, List.eq_nil_of_length_eq_zero e2⟩
  · exact .inr ⟨g, cap, e1, e2⟩
theorem txV_mid (D : List TxnV) (x : TxnV) (r : List TxnV) (v' : Value) (l' : List OpV) : txV ((D ++ [⟨x.s, x.b, x.c, v', l'⟩]) ++ r) = (txV (D ++ x :: r)).set (D.length * 4 + 3) v' := by
  rw [txV_app, txV_app, txV_app, ← txV_len D, List.append_assoc, List.set_append, if_neg (by omega), Nat.add_sub_cancel_left]
  rfl
/-- A copy of transactions: the row is the call's own, and each one's operations are, apart from each other. -/
def CopyOf (w : World) (base : Nat) (v : Value) (c : List TxnV) : Prop := ∃ base2, (base ≤ base2 ∧ base2 ≤ w.heap.size) ∧ OwnT w base v c ∧ (∀ b, v.ownBlock = some b → b < base2) ∧ (∀ t ∈ c, Own w base2 t.v t.l) ∧ c.Pairwise ApartT
set_option maxHeartbeats 4000000 in
theorem copy_any (va : Value) (h : List TxnV) (w : World) (ha : Txns w va h) (hl : h.length ≤ 100000) (hn : ∀ t ∈ h, t.l.length ≤ 100000) :
    Calls Try.prog 9 #[va] w fun e w' => ∃ v c, e = .returned v ∧ c.map txE = h.map txE ∧ CopyOf w' w.heap.size v c ∧ Below w.heap.size w w' := by
  have HA := Lib.hid (fun wx (hx : Below w.heap.size w wx) => ha.below hx)
  have HN := Lib.hid hn
  obtain ⟨ao, cap, rfl, hal⟩ := ha.form
  clear hn
  go_enter Try.func9, Try.ntmps9
  go_wp2_with fail
  refine (clone_txns _ h w ha hl).mono ?_
  rintro e w1 ⟨v1, rfl, hO1, hb1⟩
  have hgv := Lib.hid (fun b hb => (World.ownsRow.lt hO1 b hb).2)
  obtain ⟨av, capv, rfl⟩ : ∃ a c, v1 = .slice a h.length c := by
    rcases hO1.split with ⟨rfl, rfl⟩ | ⟨g, c, rfl, _⟩
    · exact ⟨none, 0, rfl⟩
    · exact ⟨_, _, rfl⟩
  have hs1 := hb1.size
  clear ha
  go_wp2_with fail
  go_loopw [10] (fun i wr => ∃ (k : Nat) (D : List TxnV), k ≤ h.length ∧ i = .int .i64 k ∧ D.length = k ∧ D.map txE = (h.take k).map txE ∧ (∀ t ∈ D, Own wr w1.heap.size t.v t.l) ∧ D.Pairwise ApartT ∧ OwnT wr w.heap.size (.slice av h.length capv) (D ++ h.drop k) ∧ Below w.heap.size w wr ∧ w1.heap.size ≤ wr.heap.size) (fun i _ => h.length - (intOf i).toNat)
  case atStart => exact ⟨0, [], by omega, rfl, rfl, rfl, by simp, List.Pairwise.nil, by simpa using hO1, hb1, Nat.le_refl _⟩
  case round =>
    obtain ⟨k, D, hk, rfl, hDl, hDe, hDo, hDp, hO, hb, hsz⟩ := hrel
    clear hO1 hb1
    by_cases hlt : k < h.length
    · have hki : (k : Int) < (h.length : Int) := by omega
      obtain ⟨g, o, hao, c0, c1, c2, c3⟩ := (HA.out _ hb).at hlt
      cases hao
      have hOps := fun wx (hx : Below w.heap.size w wx) => (HA.out wx hx).ops hlt
      have hcl := HN.out _ (List.getElem_mem hlt)
      have hdrop : h.drop k = h[k] :: h.drop (k + 1) := List.drop_eq_getElem_cons hlt
      have HTE : Hid ((h.take (k + 1)).map txE = (h.take k).map txE ++ [txE h[k]]) := Lib.hid (by rw [List.take_succ_eq_append_getElem hlt, List.map_append]; rfl)
      have hlen : (D ++ h.drop k).length = h.length := by simp; omega
      rw [hdrop] at hO hlen
      generalize h[k] = x at *
      obtain ⟨s, b, cc, v, l⟩ := x
      simp only at c0 c1 c2 c3 hOps hcl
      obtain ⟨ai, capi, rfl, hli⟩ := (hOps wr hb).form
      have hbb := hb.alloc hb.size (.cells #[.int .i64 s, .int .i64 b, .int .i64 cc, .slice ai l.length capi] 29)
      have hb0 := box_below wr (.cells #[.int .i64 s, .int .i64 b, .int .i64 cc, .slice ai l.length capi] 29)
      have CC := Lib.hid (clone_ops _ l _ (hOps _ hbb) hcl)
      rcases hO.split with ⟨e1, _⟩ | ⟨gv, cv, e1, hgb⟩
      · have := (Value.slice.inj e1).2.1
        omega
      obtain ⟨rfl, rfl⟩ : av = some ⟨gv, 0, none⟩ ∧ capv = cv := ⟨(Value.slice.inj e1).1, (Value.slice.inj e1).2.2⟩
      have hgl := hgv.out gv rfl
      have HM := Lib.hid (And.intro hDe (And.intro hDo (And.intro hDp (And.intro hO (And.intro hlen hdrop)))))
      clear hOps e1 hDe hDo hDp hO hlen hdrop hcl
      go_wp2_with fail
      refine (CC.out).mono ?_
      rintro e w2 ⟨v2, rfl, hO2, hb2⟩
      clear CC
      obtain ⟨a2, cap2, rfl, _⟩ := hO2.ops.form
      obtain ⟨hDe, hDo, hDp, hO, hlen, hdrop⟩ := HM.out
      have hb3 := below_then hb0 hb2
      have hb4 := hb.trans (hb3.mono hb.size)
      rw [← hlen] at hO
      have hO3 := hO.below hb3
      have hfr := (hO3.at (j := k * 4 + 3) (by omega)).2
      have hcell : (w2.cell? ⟨gv, k * 4 + 3, none⟩) = some (.slice ai l.length capi) := by
        rw [(hO3.at (j := k * 4 + 3) (by omega)).1, ← hDl]
        rw [txV_app, ← txV_len D, List.getElem?_append_right (by omega), Nat.add_sub_cancel_left]
        rfl
      have hOn : OwnT (w2.setCell ⟨gv, k * 4 + 3, none⟩ (.slice a2 l.length cap2)) w.heap.size (.slice (some ⟨gv, 0, none⟩) h.length capv) ((D ++ [(TxnV.mk s b cc (.slice a2 l.length cap2) l)]) ++ h.drop (k + 1)) := by
        have hl2 : ((D ++ [(TxnV.mk s b cc (.slice a2 l.length cap2) l)]) ++ h.drop (k + 1)).length = (D ++ (TxnV.mk s b cc (.slice ai l.length capi) l) :: h.drop (k + 1)).length := by simp
        have := OwnT.setCell (h' := (D ++ [(TxnV.mk s b cc (.slice a2 l.length cap2) l)]) ++ h.drop (k + 1)) (j := k * 4 + 3) (u := .slice a2 l.length cap2) hO3 hl2 (by rw [← hDl]; exact txV_mid D (TxnV.mk s b cc (.slice ai l.length capi) l) _ _ _)
        rw [hl2, hlen] at this
        exact this
      have hg2 := grown_setC w2 ⟨gv, k * 4 + 3, none⟩ (.slice a2 l.length cap2)
      have hsz1 : (wr.alloc (.cells #[.int .i64 s, .int .i64 b, .int .i64 cc, .slice ai l.length capi] 29)).heap.size = wr.heap.size + 1 := by simp
      have hne2 : ∀ (t : TxnV) (base : Nat), Own w2 base t.v t.l → w1.heap.size ≤ base → Own (w2.setCell ⟨gv, k * 4 + 3, none⟩ (.slice a2 l.length cap2)) base t.v t.l := fun t base ht hbs => World.ownsRow.kept ht hg2 (.inr (fun e => by
        have := (World.ownsRow.lt ht gv e).1
        omega))
      have hOl : Own w2 (wr.heap.size + 1) (.slice a2 l.length cap2) l := by rw [hsz1] at hO2; exact hO2
      have hnew := hne2 (TxnV.mk s b cc (.slice a2 l.length cap2) l) _ hOl (by omega)
      have hold : ∀ t ∈ D, Own (w2.setCell ⟨gv, k * 4 + 3, none⟩ (.slice a2 l.length cap2)) w1.heap.size t.v t.l := fun t ht => hne2 t _ ((hDo t ht).below hb3) (Nat.le_refl _)
      have HR := Lib.hid (show D.length = k ∧ (D ++ [(TxnV.mk s b cc (.slice a2 l.length cap2) l)]).length = k + 1 ∧ (D ++ [(TxnV.mk s b cc (.slice a2 l.length cap2) l)]).map txE = (h.take (k + 1)).map txE ∧ (∀ t ∈ (D ++ [(TxnV.mk s b cc (.slice a2 l.length cap2) l)]), Own (w2.setCell ⟨gv, k * 4 + 3, none⟩ (.slice a2 l.length cap2)) w1.heap.size t.v t.l) ∧ (D ++ [(TxnV.mk s b cc (.slice a2 l.length cap2) l)]).Pairwise ApartT ∧ OwnT (w2.setCell ⟨gv, k * 4 + 3, none⟩ (.slice a2 l.length cap2)) w.heap.size (.slice (some ⟨gv, 0, none⟩) h.length capv) ((D ++ [(TxnV.mk s b cc (.slice a2 l.length cap2) l)]) ++ h.drop (k + 1)) ∧ Below w.heap.size w (w2.setCell ⟨gv, k * 4 + 3, none⟩ (.slice a2 l.length cap2)) ∧ w1.heap.size ≤ (w2.setCell ⟨gv, k * 4 + 3, none⟩ (.slice a2 l.length cap2)).heap.size from by
        refine ⟨hDl, by simp [hDl], by rw [HTE.out, List.map_append, hDe]; rfl, ?_, ?_, hOn, hb4.setCell (p := ⟨gv, k * 4 + 3, none⟩) hgb _, ?_⟩
        · intro t ht
          rcases List.mem_append.1 ht with ht | ht
          · exact hold t ht
          · obtain rfl := List.mem_singleton.1 ht
            exact hnew.base (by omega)
        · rw [List.pairwise_append]
          refine ⟨hDp, List.pairwise_singleton _ _, fun t ht u hu => ?_⟩
          obtain rfl := List.mem_singleton.1 hu
          intro b1 h1 h2
          have q1 := (World.ownsRow.lt (hDo t ht) b1 h1).2
          have q2 := (World.ownsRow.lt hOl b1 h2).1
          omega
        · have := hb3.size
          have e : (w2.setCell ⟨gv, k * 4 + 3, none⟩ (.slice a2 l.length cap2)).heap.size = w2.heap.size := by simp
          omega)
      clear hDe hDo hDp hO hlen hdrop HM hO3 hOn hg2 hne2 hOl hnew hold hO2 hb2 hb3 hb4 hb0 hsz1 hDl
      go_wp2_with fail
      obtain ⟨hDl, r1, r2, r3, r4, r5, r6, r7⟩ := HR.out
      go_roundw
      case rel => exact ⟨k + 1, _, by omega, by go_num, r1, r2, r3, r4, r5, r6, r7⟩
      case measure => simp [intOf]; omega
    · have hkl : k = h.length := by omega
      subst hkl
      have HR : Hid (D.map txE = h.map txE ∧ CopyOf wr w.heap.size (.slice av h.length capv) D) := Lib.hid (by
        rw [List.take_length] at hDe
        rw [List.drop_length, List.append_nil] at hO
        exact ⟨hDe, w1.heap.size, ⟨hs1, hsz⟩, hO, hgv.out, hDo, hDp⟩)
      clear hDe hDo hDp hO hgv
      go_wp2_with fail
      go_ret
      exact ⟨_, D, rfl, HR.out.1, HR.out.2, hb⟩
end Go.Proofs.Ytlkdojcimlfmdaa
