/- The walk of the statement on transactions' parts: it answers true. Conditions: the library's table of tens lies as it is laid; a slice's cells are known, and hold operations of ints. -/
import Derived.Test.YtcaomjieambomaaDoorTxnP
namespace Go.Proofs.YtcaomjieambomaaDoor
set_option maxRecDepth 100000
open Go.RowKit

theorem opV_set : ∀ (l : List OpV) (k : Nat) (hk : k < l.length) (z : Int), opV (l.set k ⟨l[k].wr, z, l[k].val⟩) = (opV l).set (k * 3 + 1) (.int .i64 z)
  | a :: l, 0, _, z => rfl
  | a :: l, k + 1, hk, z => by
    have ih := opV_set l k (by simpa using hk) z
    rw [show (k + 1) * 3 + 1 = (k * 3 + 1) + 1 + 1 + 1 from by omega]
    show opV (a :: l.set k _) = (Value.bool a.wr :: .int .i64 a.key :: .int .i64 a.val :: opV l).set _ _
    simp only [List.set_cons_succ]
    rw [← ih]; rfl
theorem Own.setKey {w : World} {base g cap : Nat} {l : List OpV} (h : Own w base (.slice (some ⟨g, 0, none⟩) l.length cap) l) {k : Nat} (hk : k < l.length) (z : Int) :
    Own (w.setCell ⟨g, k * 3 + 1, none⟩ (.int .i64 z)) base (.slice (some ⟨g, 0, none⟩) l.length cap) (l.set k ⟨l[k].wr, z, l[k].val⟩) := by
  obtain ⟨h1, h2⟩ := h
  rcases h2 with ⟨h2, _⟩ | ⟨g', cap', cur, e1, e2, hb, e3, e4, e5, e6⟩
  · cases h2
  cases e1
  have hl := opV_len l
  refine ⟨by rw [opV_len], .inr ⟨g, cap, cur.setIfInBounds (k * 3 + 1) (.int .i64 z), by rw [List.length_set], e2, ?_, by rw [List.length_set]; exact e3, e4, by simpa using e5, ?_⟩⟩
  · rw [Sort.setCell_eq]
    simp [Sort.mapBlock, Array.getElem?_modify, hb, Sort.onCells]
  · rw [List.length_set, Array.toList_setIfInBounds, List.take_set, e6, opV_set l k hk z]
theorem Own.at {w : World} {base g cap : Nat} {l : List OpV} (h : Own w base (.slice (some ⟨g, 0, none⟩) l.length cap) l) {k : Nat} (hk : k < l.length) :
    w.cell? ⟨g, k * 3, none⟩ = some (.bool l[k].wr) ∧ w.cell? ⟨g, k * 3 + 1, none⟩ = some (.int .i64 l[k].key) ∧ w.cell? ⟨g, k * 3 + 2, none⟩ = some (.int .i64 l[k].val) ∧ w.frozen? ⟨g, k * 3 + 1, none⟩ = false := by
  obtain ⟨b, off, e, c0, c1, c2⟩ := h.ops.at hk
  cases e
  simp only [Nat.zero_add] at c0 c1 c2
  refine ⟨c0, c1, c2, ?_⟩
  obtain ⟨h1, h2⟩ := h
  rcases h2 with ⟨h2, _⟩ | ⟨g', cap', cur, e1, e2, hb, _⟩
  · cases h2
  cases e1
  simp [World.frozen?, hb]
theorem reads_ref (s b c : Int) (va : Value) (l : List OpV) (w : World) (ha : Ops w va l) (hok : ∀ o ∈ l, o.ok) (hlen : l.length ≤ 100000) (hk : keysIn l) :
    Calls Tryd.prog 8 #[.agg #[.int .i64 s, .int .i64 b, .int .i64 c, va]] w fun e w' => ∃ v, e = .returned v ∧ Own w' w.heap.size v (refReads l) ∧ Below w.heap.size w w' :=
  (reads_any s b c va l w ha hok hlen).mono fun e w' ⟨v, out, he, hO, hR, _, hb⟩ => ⟨v, he, by rw [hR.eq (refReads_rise hk)] at hO; exact hO, hb⟩
theorem writes_ref (s b c : Int) (va : Value) (l : List OpV) (w : World) (ha : Ops w va l) (hok : ∀ o ∈ l, o.ok) (hlen : l.length ≤ 100000) (hk : keysIn l) :
    Calls Tryd.prog 9 #[.agg #[.int .i64 s, .int .i64 b, .int .i64 c, va]] w fun e w' => ∃ v, e = .returned v ∧ Own w' w.heap.size v (refWrites l) ∧ Below w.heap.size w w' :=
  (writes_any s b c va l w ha hok hlen).mono fun e w' ⟨v, out, he, hO, hR, _, hb⟩ => ⟨v, he, by rw [hR.eq (refWrites_rise hk)] at hO; exact hO, hb⟩
theorem sameI_refl (l : List OpV) : sameI l l = 1 := by unfold sameI; simp
set_option maxHeartbeats 8000000 in
theorem parts5_walk (va : Value) (l : List OpV) (w : World) (he : Ten w) (ha : Ops w va l) (hok : ∀ o ∈ l, o.ok) :
    Calls Tryd.prog 3 #[va] w fun e w' => e = .returned (.bool true) ∧ Below w.heap.size w w' := by
  obtain ⟨i0, hi, hz0, hz1, hz2⟩ := info_parts infoOp
  obtain ⟨ao, cap, rfl, hal⟩ := ha.form
  have CS := Lib.hid (speaks5_any w he)
  have HOK := Lib.hid hok
  clear he hok
  go_enter Tryd.func3, Tryd.ntmps3
  go_wp2_with fail
  refine (CS.out).mono ?_
  rintro e w1 ⟨rfl, hb1⟩
  clear CS
  by_cases hbig : 100 < l.length
  · have hbig' : (100 : Int) < (l.length : Int) := by omega
    go_wp2_with fail
    go_ret
    exact ⟨rfl, hb1⟩
  have hbig' : ¬ (100 : Int) < (l.length : Int) := by omega
  have CM := Lib.hid (may5_any _ l w1 (ha.below hb1))
  cases hall : allM l
  · rw [hall] at CM
    change Hid (Calls _ _ _ _ fun e w' => e = .returned (.int .i64 0) ∧ _) at CM
    clear hall
    go_wp2_with fail
    refine (CM.out).mono ?_
    rintro e w2 ⟨rfl, hb2⟩
    have hb3 := below_then hb1 hb2
    go_wp2_with fail
    go_ret
    exact ⟨rfl, hb3⟩
  rw [hall] at CM
  change Hid (Calls _ _ _ _ fun e w' => e = .returned (.int .i64 1) ∧ _) at CM
  have HK := Lib.hid (allM_keys hall)
  clear hall
  go_wp2_with fail
  refine (CM.out).mono ?_
  rintro e w2 ⟨rfl, hb2⟩
  have hb3 := below_then hb1 hb2
  have ha2 := ha.below hb3
  clear CM hb1 hb2
  go_wp2_with (first | (at_builtin; refine wpList_append_row rfl _ _ 22 rfl w2.heap.size 33 i0 (.agg #[.bool false, .int .i64 0, .int .i64 0]) 3 24 Tryd.underlying22 hi hz0 hz1 hz2 rfl (by decide) _ 0 [] rfl (World.ownsRow_lit _ _ _ (Nat.le_refl _) (by decide) rfl) _ l.length _ rfl (ha2.below ((Below.refl _ _).alloc (Nat.le_refl _) _)) ?d1 ?d2 ?d3 ?d4 ?_) | go_in)
  case d1 => exact opV_one _
  case d2 => unfold maxLen; omega
  case d3 => omega
  case d4 => first | omega | simp
  intro v5 w5 hown5 hg5
  have hO5 : Own w5 w2.heap.size v5 l := by
    refine ⟨by rw [opV_len], ?_⟩
    have := hown5.2
    simpa using this
  have hb5 := (hb3.alloc hb3.size (.cells #[] 33)).grown hg5 (by simp; have := hb3.size; omega) (by intro k hk; simp [Value.ownBlock] at hk; have := hb3.size; omega)
  obtain ⟨ao5, cap5, rfl, _⟩ := hO5.ops.form
  clear hown5 hg5 ha2 hb3
  have hb6 := hb5.alloc hb5.size (.cells #[.int .i64 0, .int .i64 0, .int .i64 0, (.slice ao5 l.length cap5)] 26)
  obtain ⟨x0, x1, x2, x3⟩ := txnBlock w5 (.int .i64 0) (.int .i64 0) (.int .i64 0) (.slice ao5 l.length cap5) 26
  have HO6 := hO5.ops.below (box_below w5 (.cells #[.int .i64 0, .int .i64 0, .int .i64 0, (.slice ao5 l.length cap5)] 26))
  go_wp2_with fail
  generalize w5.alloc (.cells #[.int .i64 0, .int .i64 0, .int .i64 0, (.slice ao5 l.length cap5)] 26) = w6 at *
  have hlt : w5.heap.size < w6.heap.size := block_lt x0
  have HO : Hid (∀ wx, Below w6.heap.size w6 wx → Ops wx (.slice ao5 l.length cap5) l) := Lib.hid (fun wx h => HO6.below h)
  have HA : Hid (∀ wx, Below w6.heap.size w6 wx → Ops wx (.slice ao l.length cap) l) := Lib.hid (fun wx h => ha.below (below_then hb6 h))
  clear HO6 hO5 hb5 ha
  have kk := Below.refl w6.heap.size w6
  go_region_held3 (fun w' => w'.cell? ⟨w5.heap.size, 0, none⟩ = some (.int .i64 0) ∧ w'.cell? ⟨w5.heap.size, 1, none⟩ = some (.int .i64 0) ∧ w'.cell? ⟨w5.heap.size, 2, none⟩ = some (.int .i64 0) ∧ w'.cell? ⟨w5.heap.size, 3, none⟩ = some (.slice ao5 l.length cap5))
    (go_keep)
    (first
      | (go_at_call 8; refine (reads_ref _ _ _ _ l _ (HO.out _ (by first | exact kk | exact kk.drew | exact below_drewN kk _)) HOK.out (by omega) HK.out).mono ?_; rintro e wx ⟨vr, rfl, ho1, hbx⟩; have ho1 := Own.base (base' := w6.heap.size) ho1 kk.size; have kk : Below w6.heap.size w6 wx := (by first | exact below_then kk hbx | exact below_then kk ⟨hbx.os, hbx.tape, hbx.output, hbx.size, hbx.block⟩); have a0 := (kk.cell (p := ⟨w5.heap.size, 0, none⟩) hlt).trans x0; have a1 := (kk.cell (p := ⟨w5.heap.size, 1, none⟩) hlt).trans x1; have a2 := (kk.cell (p := ⟨w5.heap.size, 2, none⟩) hlt).trans x2; have a3 := (kk.cell (p := ⟨w5.heap.size, 3, none⟩) hlt).trans x3)
      | (go_at_call 9; refine (writes_ref _ _ _ _ l _ (HO.out _ (by first | exact kk | exact kk.drew | exact below_drewN kk _)) HOK.out (by omega) HK.out).mono ?_; rintro e wy ⟨vw, rfl, ho2, hby⟩; have ho2 := Own.base (base' := w6.heap.size) ho2 kk.size; have ho1 := Own.below ho1 (w' := wy) (by first | exact hby | exact ⟨hby.os, hby.tape, hby.output, hby.size, hby.block⟩); have kk : Below w6.heap.size w6 wy := (by first | exact below_then kk hby | exact below_then kk ⟨hby.os, hby.tape, hby.output, hby.size, hby.block⟩); have a0 := (kk.cell (p := ⟨w5.heap.size, 0, none⟩) hlt).trans x0; have a1 := (kk.cell (p := ⟨w5.heap.size, 1, none⟩) hlt).trans x1; have a2 := (kk.cell (p := ⟨w5.heap.size, 2, none⟩) hlt).trans x2; have a3 := (kk.cell (p := ⟨w5.heap.size, 3, none⟩) hlt).trans x3))
  have HS1 : Hid ((1 : Int) = sameI (refReads l) (refReads l)) := Lib.hid (sameI_refl _).symm
  have HS2 : Hid ((1 : Int) = sameI (refWrites l) (refWrites l)) := Lib.hid (sameI_refl _).symm
  have HS3 : Hid ((1 : Int) = sameI l l) := Lib.hid (sameI_refl _).symm
  have CR := fun (wx : World) (h : Below w6.heap.size w6 wx) => Lib.hid (rreads_any _ l wx (HA.out _ h))
  have CW := fun (wx : World) (h : Below w6.heap.size w6 wx) => Lib.hid (rwrites_any _ l wx (HA.out _ h))
  have CST := fun (wx : World) (h : Below w6.heap.size w6 wx) => Lib.hid (steady_any 0 0 0 _ l wx (HO.out _ h) HOK.out (by omega))
  have CRS := fun (wx : World) (h : Below w6.heap.size w6 wx) => Lib.hid (rsteady_any _ l wx (HA.out _ h))
  obtain ⟨aor, capr, rfl, hlr⟩ := ho1.ops.form
  obtain ⟨aow, capw, rfl, _⟩ := ho2.ops.form
  have hsplit := Lib.hid ho1.split
  clear hbx hby x0 x1 x2 x3 HK HOK
  generalize refReads l = R at *
  generalize refWrites l = W at *
  generalize steadyL l = st at *
  go_wp2_with fail
  refine ((CST _ kk).out).mono ?_
  rintro e w7 ⟨rfl, hb7⟩
  have k7 := below_then kk hb7
  have o7 := ho1.below hb7
  have p7 := ho2.below hb7
  clear kk ho1 ho2 hb7 a0 a1 a2 a3
  go_wp2_with fail
  refine ((CRS _ k7).out).mono ?_
  rintro e w8 ⟨rfl, hb8⟩
  have k8 := below_then k7 hb8
  have o8 := o7.below hb8
  have p8 := p7.below hb8
  have hst : (st != st) = false := by simp
  clear k7 o7 p7 hb8
  go_wp2_with fail
  refine ((CR _ k8).out).mono ?_
  rintro e w9 ⟨v9, rfl, q9, hb9⟩
  have k9 := below_then k8 hb9
  have o9 := o8.below hb9
  have p9 := p8.below hb9
  clear k8 o8 p8 hb9
  go_wp2_with fail
  refine (same5_any _ _ R R w9 o9.ops q9.ops).mono ?_
  rw [← HS1.out]
  rintro e wa ⟨rfl, hba⟩
  have ka := below_then k9 hba
  have oa := o9.below hba
  have pa := p9.below hba
  clear k9 o9 p9 hba q9
  go_wp2_with fail
  refine ((CW _ ka).out).mono ?_
  rintro e wb ⟨vb, rfl, qb, hbb⟩
  have kb := below_then ka hbb
  have ob := oa.below hbb
  have pb := pa.below hbb
  clear ka oa pa hbb
  go_wp2_with fail
  refine (same5_any _ _ W W wb pb.ops qb.ops).mono ?_
  rw [← HS2.out]
  rintro e wc ⟨rfl, hbc⟩
  have kc := below_then kb hbc
  have oc := ob.below hbc
  clear kb ob pb hbc qb CR CW CST CRS HS1 HS2
  go_wp2_with fail
  go_loopw [48] (fun i wr => ∃ (k : Nat) (L : List OpV), k ≤ R.length ∧ i = .int .i64 k ∧ L.length = R.length ∧ Own wr w6.heap.size (.slice aor R.length capr) L ∧ Below w6.heap.size w6 wr) (fun i _ => R.length - (intOf i).toNat)
  case atStart => exact ⟨0, R, by omega, rfl, rfl, oc, kc⟩
  case round =>
    obtain ⟨k, L, hk, rfl, hL, oL, kL⟩ := hrel
    clear oc kc
    by_cases hlt' : k < R.length
    · have hki : (k : Int) < (R.length : Int) := by omega
      rcases hsplit.out with ⟨_, h2⟩ | ⟨g, cap2, h2, hg⟩
      · rw [h2] at hlt'; simp at hlt'
      obtain ⟨rfl, rfl⟩ : aor = some ⟨g, 0, none⟩ ∧ capr = cap2 := by simpa using h2
      have oL' : Own wr w6.heap.size (.slice (some ⟨g, 0, none⟩) L.length capr) L := by rw [hL]; exact oL
      have hkL : k < L.length := by omega
      obtain ⟨c0, c1, c2, f1⟩ := oL'.at hkL
      have HN := Lib.hid (fun z => oL'.setKey hkL z)
      have HLL : Hid (∀ z, (L.set k ⟨L[k].wr, z, L[k].val⟩).length = R.length) := Lib.hid (fun z => by rw [List.length_set]; exact hL)
      rw [hL] at HN
      generalize L[k] = x at *
      obtain ⟨xw, xk, xv⟩ := x
      clear h2 hsplit oL oL'
      go_wp2_with fail
      go_roundw
      case rel => exact ⟨k + 1, _, by omega, by go_num, HLL.out (wrap64 (xk + 1)), HN.out _, kL.setCell (p := ⟨g, k * 3 + 1, none⟩) hg _⟩
      case measure => simp [intOf]; omega
    · have CF := Lib.hid (same5_any _ _ l l wr (HO.out _ kL) (HA.out _ kL))
      rw [← HS3.out] at CF
      have hbz := below_then hb6 kL
      clear oL hsplit
      go_wp2_with fail
      refine (CF.out).mono ?_
      rintro e wz ⟨rfl, hbl⟩
      have hbf := below_then hbz hbl
      go_wp2_with fail
      go_ret
      exact ⟨rfl, hbf⟩
end Go.Proofs.YtcaomjieambomaaDoor
