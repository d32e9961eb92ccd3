/- The walk of the law on copies. Conditions: a slice's cells are known; a transaction has fewer operations than memory holds. -/
import Derived.Test.YtlkdojcimlfmdaaHisW
import Derived.Test.YtlkdojcimlfmdaaHisN
import Derived.StillTailTactics
namespace Go.Proofs.Ytlkdojcimlfmdaa
set_option maxRecDepth 100000
open Go.RowKit

set_option maxHeartbeats 16000000 in
theorem copies6_walk (va : Value) (h : List TxnV) (x y : Int) (w : World) (hT : Txns w va h) (hsh : Short h) (hx : 0 ≤ x ∧ x ≤ 255) (hy : 0 ≤ y ∧ y ≤ 255) :
    Calls Try.prog 3 #[va, .int .u8 x, .int .u8 y] w fun e w' => e = .returned (.bool true) ∧ Below w.heap.size w w' := by
  have HT := Lib.hid (fun wx (hx : Below w.heap.size w wx) => hT.below hx)
  obtain ⟨ao, cap, rfl, hal⟩ := hT.form
  clear hT
  go_enter Try.func3, Try.ntmps3
  go_wp2_with fail
  refine (speaks6_any _).mono ?_
  rintro e w1 ⟨rfl, hb1⟩
  go_wp2_with fail
  refine (big_any _ h _ (HT.out _ hb1) hsh).mono ?_
  rintro e w2 ⟨rfl, hb2⟩
  have hb2 := below_then hb1 hb2
  clear hb1
  by_cases hbig : bigI h = 1
  · rw [hbig]
    go_wp2_with fail
    go_ret
    exact ⟨rfl, hb2⟩
  have h0 : bigI h = 0 := by
    unfold bigI at hbig ⊢; split at hbig
    · exact (hbig rfl).elim
    · rename_i hn; rw [if_neg hn]
  obtain ⟨hs1, hs2⟩ := big_no h0
  rw [h0]
  have HN : Hid (∀ t ∈ h, t.l.length ≤ 1200) := Lib.hid (fun t ht => by
    obtain ⟨k, hk, rfl⟩ := List.mem_iff_getElem.1 ht
    have := opsN_at h k hk
    omega)
  clear hbig h0
  go_wp2_with fail
  refine (copy_any _ h w2 (HT.out _ hb2) (by omega) (fun t ht => Nat.le_trans (HN.out t ht) (by omega))).mono ?_
  rintro e w3 ⟨vc, c, rfl, hce, hC, hb3⟩
  have hb3 := below_then hb2 hb3
  go_wp2_with fail
  refine (copy_any _ h w3 (HT.out _ hb3) (by omega) (fun t ht => Nat.le_trans (HN.out t ht) (by omega))).mono ?_
  rintro e w4 ⟨vd, d, rfl, hde, hD, hb4⟩
  have hcb := hC.blocks
  have hC := hC.below hb4
  have hb4 := below_then hb3 hb4
  have hcl : c.length = h.length := by have := congrArg List.length hce; simpa using this
  have hdl : d.length = h.length := by have := congrArg List.length hde; simpa using this
  have hde := Lib.hid hde
  have hce := Lib.hid hce
  obtain ⟨ac, capc, rfl, _⟩ := hC.txns.form
  obtain ⟨ad, capd, rfl, _⟩ := hD.txns.form
  rw [hcl] at hC hcb ⊢
  rw [hdl] at hD ⊢
  have HC := Lib.hid hC
  have HD := Lib.hid hD
  have HCB := Lib.hid hcb
  have hw2 := hb2.size
  clear hb2 hb3 hC hD hcb
  go_wp2_with fail
  refine (sameH_any _ _ c h w4 HC.out.txns (HT.out _ hb4)).mono ?_
  rw [show sameH c h = true from decide_eq_true hce.out]
  rintro e w5 ⟨rfl, hb5⟩
  go_wp2_with fail
  refine (sameH_any _ _ h c w5 (HT.out _ (below_then hb4 hb5)) (HC.out.txns.below hb5)).mono ?_
  rw [show sameH h c = true from decide_eq_true hce.out.symm]
  rintro e w6 ⟨rfl, hb6⟩
  have hb56 := below_then hb5 hb6
  have hb6 := below_then hb4 hb56
  have hC := HC.out.below hb56
  have hD := HD.out.below hb56
  clear hb4 hb5 HC HD hb56
  by_cases hz : h.length = 0
  · have hz' : (h.length : Int) = 0 := by omega
    go_wp2_with fail
    go_ret
    exact ⟨rfl, hb6⟩
  have hz' : ¬ (h.length : Int) = 0 := by omega
  have hcn : 0 < c.length := by omega
  obtain ⟨g, capc', hv⟩ := (by rw [← hcl] at hC; exact hC : CopyOf w6 w2.heap.size (.slice ac c.length capc) c).split hcn
  obtain ⟨rfl, rfl⟩ : ac = some ⟨g, 0, none⟩ ∧ capc = capc' := ⟨(Value.slice.inj hv).1, (Value.slice.inj hv).2.2⟩
  obtain ⟨hgl, hblk⟩ := HCB.out
  have hgl := hgl g rfl
  obtain ⟨i, hi, hxi⟩ : ∃ i : Nat, i < c.length ∧ Int.tmod x (h.length : Int) = (i : Int) := by
    have h1 := Int.tmod_lt_of_pos x (show (0 : Int) < (h.length : Int) by omega)
    have h2 := Int.tmod_nonneg (h.length : Int) hx.1
    exact ⟨(Int.tmod x (h.length : Int)).toNat, by omega, by omega⟩
  have hwx : IntKind.i64.wrap x = x := by rw [IntKind.wrap_i64]; omega
  have hwy : IntKind.i64.wrap y = y := by rw [IntKind.wrap_i64]; omega
  have hi0 : (0 : Int) ≤ (i : Int) := by omega
  have hi1 : (i : Int) < (h.length : Int) := by omega
  rw [← hcl] at hC
  obtain ⟨⟨a0, f0⟩, ⟨a2, f2⟩, a3, f3⟩ := hC.cells hi
  have hs64 : wrap64 ((h.length : Int) - 1) = (h.length : Int) - 1 := wrap64_small (by omega) (by omega)
  have hp0 : (0 : Int) ≤ (h.length : Int) - 1 := by omega
  have hp2 : ((h.length : Int) - 1).toNat = h.length - 1 := by omega
  have hcapl : h.length ≤ cap := by
    obtain ⟨⟨_, _, _, e, hm, _, _⟩, _⟩ := HT.out _ hb6
    cases e; omega
  have hp3 : (h.length : Int) - 1 ≤ (cap : Int) := by omega
  have hr4 : y.tmod 4 = 0 ∨ y.tmod 4 = 1 ∨ y.tmod 4 = 2 ∨ y.tmod 4 = 3 := by
    have h1 := Int.tmod_lt_of_pos y (show (0 : Int) < 4 by omega)
    have h2 := Int.tmod_nonneg (4 : Int) hy.1
    omega
  clear hv
  rcases hr4 with hr | hr | hr | hr
  · have hr : y.tmod 4 = 0 := hr
    obtain ⟨N1, N2⟩ := set_ne (t' := ⟨wrap64 (c[i].s + 1), c[i].b, c[i].c, c[i].v, c[i].l⟩) hce.out hi (by unfold txE; simp [wrap_ne])
    have TC := copy_num (t' := ⟨wrap64 (c[i].s + 1), c[i].b, c[i].c, c[i].v, c[i].l⟩) (j := i * 4) hC hi rfl rfl (txV_set0 c i hi (wrap64 (c[i].s + 1)))
    have TD := (hD.far (grown_setC w6 ⟨g, i * 4, none⟩ (.int .i64 (wrap64 (c[i].s + 1)))) (fun b e => by cases e; exact hgl.2)).txns
    have HBZ := hb6.setCell (p := ⟨g, i * 4, none⟩) (show w.heap.size ≤ g by omega) (.int .i64 (wrap64 (c[i].s + 1)))
    have TH := HT.out _ HBZ
    generalize c.set i ⟨wrap64 (c[i].s + 1), c[i].b, c[i].c, c[i].v, c[i].l⟩ = c2 at *
    generalize c[i] = t at *
    rw [hcl] at TC
    clear hC hD hblk
    obtain ⟨ts, tb, tc, tv, tl⟩ := t
    have F := Lib.hid (fin_of TC TH TD N1 N2 hde.out (show h.length - 1 < h.length by omega))
    have hwz := Lib.hid HBZ
    clear TC TH TD N1 N2 HBZ
    go_wp2_with fail
    refine ((F.out _ (Below.refl _ _)).1).mono ?_
    rintro e wa ⟨rfl, ka⟩
    go_wp2_with fail
    refine ((F.out _ ka).2.1).mono ?_
    rintro e wb ⟨rfl, kb⟩
    have kb := below_then ka kb
    go_wp2_with fail
    refine ((F.out _ kb).2.2.1).mono ?_
    rintro e wc ⟨rfl, kc⟩
    have kc := below_then kb kc
    go_wp2_with fail
    refine ((F.out _ kc).2.2.2).mono ?_
    rintro e wd ⟨rfl, kd⟩
    have kd := below_then kc kd
    have hbe := hwz.out.trans (kd.mono hwz.out.size)
    clear ka kb kc kd
    go_wp2_with fail
    go_ret
    exact ⟨rfl, hbe⟩
  · have hr : y.tmod 4 = 1 := hr
    obtain ⟨N1, N2⟩ := set_ne (t' := ⟨c[i].s, c[i].b, wrap64 (c[i].c + 1), c[i].v, c[i].l⟩) hce.out hi (by unfold txE; simp [wrap_ne])
    have TC := copy_num (t' := ⟨c[i].s, c[i].b, wrap64 (c[i].c + 1), c[i].v, c[i].l⟩) (j := i * 4 + 2) hC hi rfl rfl (txV_set2 c i hi (wrap64 (c[i].c + 1)))
    have TD := (hD.far (grown_setC w6 ⟨g, i * 4 + 2, none⟩ (.int .i64 (wrap64 (c[i].c + 1)))) (fun b e => by cases e; exact hgl.2)).txns
    have HBZ := hb6.setCell (p := ⟨g, i * 4 + 2, none⟩) (show w.heap.size ≤ g by omega) (.int .i64 (wrap64 (c[i].c + 1)))
    have TH := HT.out _ HBZ
    generalize c.set i ⟨c[i].s, c[i].b, wrap64 (c[i].c + 1), c[i].v, c[i].l⟩ = c2 at *
    generalize c[i] = t at *
    rw [hcl] at TC
    clear hC hD hblk
    obtain ⟨ts, tb, tc, tv, tl⟩ := t
    have F := Lib.hid (fin_of TC TH TD N1 N2 hde.out (show h.length - 1 < h.length by omega))
    have hwz := Lib.hid HBZ
    clear TC TH TD N1 N2 HBZ
    go_wp2_with fail
    refine ((F.out _ (Below.refl _ _)).1).mono ?_
    rintro e wa ⟨rfl, ka⟩
    go_wp2_with fail
    refine ((F.out _ ka).2.1).mono ?_
    rintro e wb ⟨rfl, kb⟩
    have kb := below_then ka kb
    go_wp2_with fail
    refine ((F.out _ kb).2.2.1).mono ?_
    rintro e wc ⟨rfl, kc⟩
    have kc := below_then kb kc
    go_wp2_with fail
    refine ((F.out _ kc).2.2.2).mono ?_
    rintro e wd ⟨rfl, kd⟩
    have kd := below_then kc kd
    have hbe := hwz.out.trans (kd.mono hwz.out.size)
    clear ka kb kc kd
    go_wp2_with fail
    go_ret
    exact ⟨rfl, hbe⟩
  · have hr : y.tmod 4 = 2 := hr
    obtain ⟨b2, hgb, hOw⟩ := hC.own hi
    obtain ⟨i0, hi', hz0, hz1, hz2⟩ := info_parts infoOp
    have HLE : Hid (c[i].l.length ≤ 1200) := Lib.hid (by
      have e : (c.map txE)[i]? = (h.map txE)[i]? := by rw [hce.out]
      have hih : i < h.length := by omega
      simp [hi, hih] at e
      have e2 : c[i].l = h[i].l := congrArg (fun q => q.2.2.2) e
      rw [e2]; exact HN.out _ (List.getElem_mem hih))
    have HNE := Lib.hid (fun v' => set_ne (t' := ⟨c[i].s, c[i].b, c[i].c, v', c[i].l ++ [opZ]⟩) hce.out hi (by unfold txE; simp))
    have HTC := Lib.hid (fun w1 v' (hg : w6.grownBy w1 c[i].v.ownBlock) (hn : ∃ B, g < B ∧ Own w1 B v' (c[i].l ++ [opZ])) => copy_app hC hi hg hn)
    have HTD := Lib.hid (fun w1 v' (hg : w6.grownBy w1 c[i].v.ownBlock) => ((hD.far hg (fun b e => (hblk _ (List.getElem_mem hi) b e).2)).far (grown_setC w1 ⟨g, i * 4 + 3, none⟩ v') (fun b e => by cases e; exact hgl.2)).txns)
    have HBB := Lib.hid (fun w1 v' (hg : w6.grownBy w1 c[i].v.ownBlock) => (hb6.grown hg hb6.size (fun b e => by have := (hblk _ (List.getElem_mem hi) b e).1; omega)).setCell (p := ⟨g, i * 4 + 3, none⟩) (show w.heap.size ≤ g by omega) v')
    have HRN : Hid (∀ B, c[i].v.ownBlock = some B → g ≠ B) := Lib.hid (fun B e => by have := (World.ownsRow.lt hOw B e).1; omega)
    generalize c[i] = t at *
    obtain ⟨ts, tb, tc, tv, tl⟩ := t
    dsimp only at hOw a3 HLE HTC HTD HBB HNE HRN
    obtain ⟨ai, capi, rfl, _⟩ := hOw.ops.form
    have hle := HLE.out
    have hglt := block_lt a3
    rw [hcl] at HTC
    clear hC hD hblk HLE
    go_wp2_with (first | (at_builtin; refine wpList_append_own _ rfl _ _ 27 rfl b2 31 i0 (.agg #[.bool false, .int .i64 0, .int .i64 0]) 3 24 Try.underlying27 hi' hz0 hz1 hz2 rfl (by decide) _ _ _ rfl (hOw.alloc _) ⟨_, 0, none⟩ 1 1 [.bool false, .int .i64 0, .int .i64 0] rfl rfl ?c1 ?c2 ?c3 ?c4 ?c5 ?_) | go_in)
    case c1 => exact lit_new _ _ _ _ _
    case c2 => exact opV_one [opZ]
    case c3 => unfold maxLen; omega
    case c4 => omega
    case c5 => exact Nat.le_trans hgb.2 (by simp)
    intro v7 w7 hown7 hg7 _
    have hO7 : Own w7 b2 v7 (tl ++ [opZ]) := by
      unfold Own
      rw [List.length_append, opV_app]
      exact hown7
    have hg8 := (World.grownBy_alloc w6 (.cells #[.bool false, .int .i64 0, .int .i64 0] 31) _).trans hg7
    have hgr : some g ≠ (Value.slice ai tl.length capi).ownBlock := fun e => HRN.out g e.symm rfl
    have b3 := (World.grownBy.cell_far hg8 ⟨g, i * 4 + 3, none⟩ hglt hgr).trans a3
    have q3 := (World.grownBy.frozen_far hg8 ⟨g, i * 4 + 3, none⟩ hglt hgr).trans f3
    obtain ⟨N1, N2⟩ := HNE.out v7
    have TC := HTC.out w7 v7 hg8 ⟨b2, hgb.1, hO7⟩
    have TD := HTD.out w7 v7 hg8
    have HBZ := HBB.out w7 v7 hg8
    have TH := HT.out _ HBZ
    obtain ⟨a7, c7, rfl, _⟩ := hO7.ops.form
    have e7 : (tl ++ [opZ]).length = tl.length + 1 := by simp
    rw [e7] at TC TD HBZ TH N1 N2
    clear HNE HTC HTD HBB HRN hg7 hg8 hown7 hO7 hOw a3 f3 hgr
    have F := Lib.hid (fin_of TC TH TD N1 N2 hde.out (show h.length - 1 < h.length by omega))
    have hwz := Lib.hid HBZ
    clear TC TH TD N1 N2 HBZ
    go_wp2_with fail
    refine ((F.out _ (Below.refl _ _)).1).mono ?_
    rintro e wa ⟨rfl, ka⟩
    go_wp2_with fail
    refine ((F.out _ ka).2.1).mono ?_
    rintro e wb ⟨rfl, kb⟩
    have kb := below_then ka kb
    go_wp2_with fail
    refine ((F.out _ kb).2.2.1).mono ?_
    rintro e wc ⟨rfl, kc⟩
    have kc := below_then kb kc
    go_wp2_with fail
    refine ((F.out _ kc).2.2.2).mono ?_
    rintro e wd ⟨rfl, kd⟩
    have kd := below_then kc kd
    have hbe := hwz.out.trans (kd.mono hwz.out.size)
    clear ka kb kc kd
    go_wp2_with fail
    go_ret
    exact ⟨rfl, hbe⟩
  · have hr : y.tmod 4 = 3 := hr
    obtain ⟨b2, hgb, hOw⟩ := hC.own hi
    have HNE := Lib.hid (fun l' (hne : l' ≠ c[i].l) => set_ne (t' := ⟨c[i].s, c[i].b, c[i].c, c[i].v, l'⟩) hce.out hi (by unfold txE; simpa using hne))
    have HTC := Lib.hid (fun w1 l' (hg : w6.grownBy w1 c[i].v.ownBlock) (hn : Ops w1 c[i].v l') => copy_in hC hi hg hn)
    have HTD := Lib.hid (fun w1 (hg : w6.grownBy w1 c[i].v.ownBlock) => (hD.far hg (fun b e => (hblk _ (List.getElem_mem hi) b e).2)).txns)
    have HBB := Lib.hid (fun w1 (hg : w6.grownBy w1 c[i].v.ownBlock) => (hb6.grown hg hb6.size (fun b e => by have := (hblk _ (List.getElem_mem hi) b e).1; omega)))
    generalize c[i] = t at *
    obtain ⟨ts, tb, tc, tv, tl⟩ := t
    dsimp only at hOw a3 HTC HTD HBB HNE
    obtain ⟨ai, capi, rfl, hli⟩ := hOw.ops.form
    rw [hcl] at HTC
    clear hC hD hblk
    by_cases hl0 : tl.length = 0
    · have hl0' : (tl.length : Int) = 0 := by omega
      go_wp2_with fail
      go_ret
      exact ⟨rfl, hb6⟩
    have hl0' : ¬ (tl.length : Int) = 0 := by omega
    obtain ⟨j, hj, hyj⟩ : ∃ j : Nat, j < tl.length ∧ Int.tmod y (tl.length : Int) = (j : Int) := by
      have h1 := Int.tmod_lt_of_pos y (show (0 : Int) < (tl.length : Int) by omega)
      have h2 := Int.tmod_nonneg (tl.length : Int) hy.1
      exact ⟨(Int.tmod y (tl.length : Int)).toNat, by omega, by omega⟩
    have hj0 : (0 : Int) ≤ (j : Int) := by omega
    have hj1 : (j : Int) < (tl.length : Int) := by omega
    rcases hOw.split with ⟨_, e⟩ | ⟨g2, cp, e, hg2⟩
    · rw [e] at hl0; simp at hl0
    obtain ⟨rfl, rfl⟩ : ai = some ⟨g2, 0, none⟩ ∧ capi = cp := ⟨(Value.slice.inj e).1, (Value.slice.inj e).2.2⟩
    clear e
    obtain ⟨_, _, e0, _, _, e2⟩ := hOw.ops.at hj
    cases e0
    simp only [Nat.zero_add] at e2
    have f2' : w6.frozen? ⟨g2, j * 3 + 2, none⟩ = false := by
      obtain ⟨h1, h2⟩ := hOw
      rcases h2 with ⟨h2, _⟩ | ⟨g', cap', cur, e1, e2, hb, _⟩
      · cases h2
      cases e1
      simp [World.frozen?, hb]
    have hgs := grown_setC w6 ⟨g2, j * 3 + 2, none⟩ (.int .i64 (wrap64 (tl[j].val + 1)))
    have hgW : w6.grownBy (w6.setCell ⟨g2, j * 3 + 2, none⟩ (.int .i64 (wrap64 (tl[j].val + 1)))).drew (some g2) := ⟨hgs.os, hgs.tape, hgs.output, hgs.size, hgs.block⟩
    have hOn : Ops (w6.setCell ⟨g2, j * 3 + 2, none⟩ (.int .i64 (wrap64 (tl[j].val + 1)))).drew (.slice (some ⟨g2, 0, none⟩) tl.length capi) (tl.set j ⟨tl[j].wr, tl[j].key, wrap64 (tl[j].val + 1)⟩) := (Own.setVal hOw hj (wrap64 (tl[j].val + 1))).ops.below (Below.refl _ _).drew
    obtain ⟨N1, N2⟩ := HNE.out (tl.set j ⟨tl[j].wr, tl[j].key, wrap64 (tl[j].val + 1)⟩) (fun e => by
      have e3 : (tl.set j ⟨tl[j].wr, tl[j].key, wrap64 (tl[j].val + 1)⟩)[j]? = tl[j]? := by rw [e]
      simp [hj] at e3
      exact wrap_ne tl[j].val (congrArg OpV.val e3))
    have TC := HTC.out _ _ hgW hOn
    have TD := HTD.out _ hgW
    have HBZ := HBB.out _ hgW
    have TH := HT.out _ HBZ
    clear HNE HTC HTD HBB hgs hgW hOn hOw
    have F := Lib.hid (fin_of TC TH TD N1 N2 hde.out (show h.length - 1 < h.length by omega))
    have hwz := Lib.hid HBZ
    clear TC TH TD N1 N2 HBZ
    generalize tl[j] = z at *
    go_wp2_with fail
    go_still_tail 20, (by kernel_rfl)
    go_wp2_with fail
    refine ((F.out _ (Below.refl _ _)).1).mono ?_
    rintro e wa ⟨rfl, ka⟩
    go_wp2_with fail
    refine ((F.out _ ka).2.1).mono ?_
    rintro e wb ⟨rfl, kb⟩
    have kb := below_then ka kb
    go_wp2_with fail
    refine ((F.out _ kb).2.2.1).mono ?_
    rintro e wc ⟨rfl, kc⟩
    have kc := below_then kb kc
    go_wp2_with fail
    refine ((F.out _ kc).2.2.2).mono ?_
    rintro e wd ⟨rfl, kd⟩
    have kd := below_then kc kd
    have hbe := hwz.out.trans (kd.mono hwz.out.size)
    clear ka kb kc kd
    go_wp2_with fail
    go_ret
    exact ⟨rfl, hbe⟩
end Go.Proofs.Ytlkdojcimlfmdaa
