/- Walks and plain facts that the proof of the statement WholeNames uses, joined: OrdL PlaN SeaJ SeaK LesC OrdAB AxhB AxhC BruJ BruP BruQ BruR BruU BruF BruG BruH BruI PlaP LeaI LeaJ TopA BruK BruV BruZ BrcA BrcC BruW BruX AxhN BruY BrcB SeaL IsoA IsoB CnoA SrtA. Conditions: each theorem's own. -/
import Derived.Deep.RegionHeld
import Derived.Deep.CutRange
import Derived.Deep.MidRow
import Derived.Deep.RegionHeld3
import Derived.Deep.Upon
import Derived.Test.YtnhkjehfmbfmmaaGreatDoorPWholeNames0
import Derived.Test.YtnhkjehfmbfmmaaGreatDoorPWholeNames1
import Derived.Test.YtnhkjehfmbfmmaaGreatDoorPWholeNames2
import Derived.Test.YtnhkjehfmbfmmaaGreatDoorPWholeNames3
import Derived.Test.YtnhkjehfmbfmmaaGreatDoorPWholeNames4
import Derived.Test.YtnhkjehfmbfmmaaGreatDoorPWholeNames5
import Derived.Test.YtnhkjehfmbfmmaaGreatDoorPWholeNames6
namespace Go.Proofs.YtnhkjehfmbfmmaaGreatDoor
set_option maxHeartbeats 32000000
set_option maxRecDepth 100000
set_option linter.unusedSimpArgs false
set_option linter.unusedVariables false
open Lib (hid)
section
open Go.RowKit
theorem takeQ {P : Program} {ops : Array Oper} {Q : Exit → Act → World → Prop} {md : Region.Mode} {S : World → Prop} (d : Option Tmp) {i : Nat} {oi : Oper} {v : Value} {fuel : Nat} {listed : Array Bool} {a : Act} {w : World} (hi : ops[i]? = some oi) (hd : oi.dst = d)
  (hs : Region.noSelect ops = true) (hf : Region.free md ops listed i = true) (hr : (Region.ready md ops listed).contains i = true)
  (hQ : ∀ c a w, Q (.panic c) (a.put oi.dst v) w → Q (.panic c) a w) (hy : YieldsIf P ops S oi v a) (hS : S w)
  (h : wpAnyH P md ops Q S fuel (listed.setIfInBounds i true) (a.put d v) w) : wpAnyH P md ops Q S (fuel + 1) listed a w := by
 subst hd; exact wpAnyH_take hi hs hf hr hQ hy hS h
theorem of_done (va : Value) (h : List TxnV) (w : World) (hT : Txns w va h) (hok : ∀ t ∈ h, t.ok) (hsh : Short h) (hc : checkI h = 0) :
  Calls Tryz.prog 25 #[va] w fun e w' => (∃ B, e = .returned (.tuple #[.pointer (some ⟨B, 0, none⟩), .int .i64 0]) ∧ w.heap.size ≤ B ∧ OrdIs w' B (B + 2) h) ∧ Below w.heap.size w w' := by
 obtain ⟨ao, cap, rfl, hal⟩ := hT.form
 obtain ⟨hlen, hops, hW, hks⟩ := check_zero hc
 have hb0 := box_below w (.cells #[.slice ao h.length cap] 22)
 have CH := hid (hcheck_any _ h _ (hT.below hb0) hok hsh)
 rw [hc] at CH
 have CW := hid (fun wx (hx : Below w.heap.size w wx) => hwrites_any _ h wx (hT.below hx) hok hks (by omega) (by omega))
 have HT := hid (fun wx (hx : Below w.heap.size w wx) => hT.below hx)
 have HOK := hid hok
 have HKS := hid hks
 have HW := hid hW
 have HOPS := hid hops
 obtain ⟨i1, hi1, hza1, hzb1, hzc1⟩ := info_parts infoLI
 obtain ⟨i2, hi2, hza2, hzb2, hzc2⟩ := info_parts infoLR
 have hA0 : (w.alloc (.cells #[.slice ao h.length cap] 22)).cell? ⟨w.heap.size, 0, none⟩ = some (.slice ao h.length cap) := by rw [cell_of_row _ _ _ _ _ _ (heap_alloc_new w _)]; rfl
 clear hT hok hsh hks hW hc hops
 go_enter Tryz.func25, Tryz.ntmps25
 go_wp2_with fail
 refine (CH.out).mono ?_
 rintro e w1 ⟨rfl, hb1⟩
 have hA1 := (hb1.cell (p := ⟨w.heap.size, 0, none⟩) (block_lt hA0)).trans hA0
 have hb2 := below_then hb0 hb1
 clear CH hb1 hb0 hA0
 go_wp2_with fail
 refine (CW.out _ hb2).mono ?_
 rintro e w2 ⟨hb3, ⟨hno, _⟩ | ⟨_, bm, m, rfl, hbm, hM⟩⟩
 ·exact absurd hno (by rw [HW.out]; simp)
 have hA2 := (hb3.cell (p := ⟨w.heap.size, 0, none⟩) (block_lt hA1)).trans hA1
 have hb4 := below_then hb2 hb3
 clear CW hb3 hb2 hA1
 have hlt := block_lt hA2
 simp only at hlt
 have hO3 := (OrdAt.made w2 (h.length : Int) 112 rfl rfl).alloc (.cells #[.pointer (some ⟨w2.heap.size, 0, none⟩)] 36)
 have hb3 := ((Below.refl w2.heap.size w2).alloc (Nat.le_refl _) (.cells ((Tryz.zeroCells112.setIfInBounds 0 (.int .i64 h.length)).setIfInBounds 196 (.bool true)) 112)).alloc (by simp) (.cells #[.pointer (some ⟨w2.heap.size, 0, none⟩)] 36)
 have hA3 := (hb3.cell (p := ⟨w.heap.size, 0, none⟩) hlt).trans hA2
 have hC3 : ((w2.alloc (.cells ((Tryz.zeroCells112.setIfInBounds 0 (.int .i64 h.length)).setIfInBounds 196 (.bool true)) 112)).alloc (.cells #[.pointer (some ⟨w2.heap.size, 0, none⟩)] 36)).cell? ⟨w2.heap.size + 1, 0, none⟩ = some (.pointer (some ⟨w2.heap.size, 0, none⟩)) := by
  rw [cell_of_row _ _ _ _ _ _ (heap_alloc2_new w2 _ _)]; rfl
 have hs3 : w2.heap.size + 2 ≤ ((w2.alloc (.cells ((Tryz.zeroCells112.setIfInBounds 0 (.int .i64 h.length)).setIfInBounds 196 (.bool true)) 112)).alloc (.cells #[.pointer (some ⟨w2.heap.size, 0, none⟩)] 36)).heap.size := by simp
 go_wp2_with fail
 generalize ((w2.alloc (.cells ((Tryz.zeroCells112.setIfInBounds 0 (.int .i64 h.length)).setIfInBounds 196 (.bool true)) 112)).alloc (.cells #[.pointer (some ⟨w2.heap.size, 0, none⟩)] 36)) = w3 at *
 generalize (Tryz.zeroCells112.setIfInBounds 0 (.int .i64 h.length)).setIfInBounds 196 (.bool true) = Z at *
 go_loopw [26] (fun i wr => ∃ (k : Nat) (vk vr : Value) (sd : Bool) (K : List KRow) (R : List RRow), k ≤ h.length ∧ i = .int .i64 k ∧ K.map (·.2) = keysTo h k ∧ R.map (·.2) = readsTo h k ∧ sd = soundTo h k ∧ OrdAt wr w2.heap.size h.length noR noR noR (.map none) vk vr sd ∧
   wr.cell? ⟨w2.heap.size + 1, 0, none⟩ = some (.pointer (some ⟨w2.heap.size, 0, none⟩)) ∧ OfR (w2.heap.size + 2) wr vk vr K R ∧ Below w2.heap.size w2 wr ∧ w2.heap.size + 2 ≤ wr.heap.size) (fun i _ => h.length - (intOf i).toNat)
 case atStart => exact ⟨0, _, _, _, [], [], by omega, rfl, rfl, rfl, rfl, hO3, hC3, OfR.nil _ _, hb3, hs3⟩
 case round =>
  clear hO3 hC3 hb3 hs3 hA3
  obtain ⟨k, vk, vr, sd, K, R, hk, rfl, hK, hR, hsd, hO, hC, hF, hb, hsz⟩ := hrel
  have HK := hid (And.intro hK (And.intro hR hsd))
  clear hK hR hsd
  by_cases hlk : k < h.length
  ·have hki : (k : Int) < (h.length : Int) := by omega
   have hbw := below_then hb4 hb
   obtain ⟨g, o, hao, c0, c1, c2, c3⟩ := (HT.out _ hbw).at hlk
   cases hao
   have hOps := (HT.out _ hbw).ops hlk
   have HOPF := hid (fun wx (hx : Below w2.heap.size w2 wx) => (HT.out wx (below_then hb4 hx)).ops hlk)
   generalize h[k].s = ts at *
   generalize h[k].b = tb at *
   generalize h[k].c = tc at *
   have HLK : Hid (opsAt h k = h[k].l) := hid (opsAt_eq hlk)
   have hll : h[k].l.length ≤ 1024 := by
    have h1 := opsN_take h k hlk
    have h2 := opsN_le h (k + 1)
    have h3 := HOPS.out
    omega
   have HOL := hid (HOK.out _ (List.getElem_mem hlk)).2
   have HKL := hid (HKS.out _ (List.getElem_mem hlk))
   generalize h[k].v = tv at *
   generalize h[k].l = l at *
   obtain ⟨a2, cap2, rfl, hl2⟩ := hOps.form
   obtain ⟨b0, b1, b2, b3⟩ := txnBlock wr (.int .i64 ts) (.int .i64 tb) (.int .i64 tc) (.slice a2 l.length cap2) 83
   have hbx := (Below.refl wr.heap.size wr).alloc (Nat.le_refl _) (.cells #[.int .i64 ts, .int .i64 tb, .int .i64 tc, .slice a2 l.length cap2] 83)
   have hOps1 := hOps.below hbx
   have hO1 := hO.below hbx hO.lt
   have hC1 := (hbx.cell (p := ⟨w2.heap.size + 1, 0, none⟩) (block_lt hC)).trans hC
   have hF1 := hF.below hbx
   have hb1 := hb.trans (hbx.mono hb.size)
   have hs1 : w2.heap.size + 2 ≤ (wr.alloc (.cells #[.int .i64 ts, .int .i64 tb, .int .i64 tc, .slice a2 l.length cap2] 83)).heap.size := by simp; omega
   have hgx : w2.heap.size + 2 ≤ wr.heap.size := hsz
   have hX1 := heap_alloc_new wr (.cells #[.int .i64 ts, .int .i64 tb, .int .i64 tc, .slice a2 l.length cap2] 83)
   have hX : OfS w2 wr.heap.size ts tb tc (.slice a2 l.length cap2) h.length vk vr sd K R (wr.alloc (.cells #[.int .i64 ts, .int .i64 tb, .int .i64 tc, .slice a2 l.length cap2] 83)) := ⟨hO1, ⟨hC1, b0, b1, b2, b3⟩, hF1, hb1, hs1, ⟨_, hX1⟩, hgx⟩
   have hTf := fun wx (hx : Below w2.heap.size w2 wx) => HT.out wx (below_then hb4 hx)
   go_upto_region 9 with fail
   clear hOps hO hC hF hb hbx hbw hsz c0 c1 c2 c3 hO1 hC1 hF1 hb1 hs1 hX1 b0 b1 b2 b3
   generalize wr.alloc (.cells #[.int .i64 ts, .int .i64 tb, .int .i64 tc, .slice a2 l.length cap2] 83) = w4 at *
   generalize wr.heap.size = gx at *
   clear wr
   have hKl : K.length ≤ 64 := by have := congrArg List.length HK.out.1; simp [keysTo] at this; omega
   have hRl : R.length ≤ 64 := by have := congrArg List.length HK.out.2.1; simp [readsTo] at this; omega
   obtain ⟨aK, cK, rfl⟩ := owns_form hX.r.kr
   obtain ⟨aR, cR, rfl⟩ := owns_form hX.r.rr
   go_cut [41] from 31 to 41 (fun u wx => ∃ (v5 : Value) (vx : Value), u = .pointer (some ⟨w2.heap.size, 194, none⟩) ∧ OfS w2 gx ts tb tc (.slice a2 l.length cap2) h.length v5 (.slice aR R.length cR) sd (K ++ [(vx, keysOf l)]) R wx)
   case first =>
    have kd := (Below.refl w4.heap.size w4).drew
    have CK : Hid (∀ wx, Below w4.heap.size w4 wx → Calls Tryz.prog 53 #[.agg #[.int .i64 ts, .int .i64 tb, .int .i64 tc, .slice a2 l.length cap2]] wx fun e w' => ∃ v, e = .returned v ∧ w'.ownsRow (w2.heap.size + 2) 3 1 v (keysOf l).length ((keysOf l).map (Value.int .i64)) ∧ Below wx.heap.size wx w') := hid (fun wx hx => (okeys_any ts tb tc _ l wx (hOps1.below hx) HOL.out (by omega)).mono (fun e w' ⟨v, out, he, ho, hr, _, hbb⟩ => by
     obtain rfl := hr.eq (refWrites_rise HKL.out)
     refine ⟨v, he, own_base' ?_ (show w2.heap.size + 2 ≤ wx.heap.size by have h1 := hx.size; have h2 := hX.z; omega), hbb⟩
     unfold keysOf
     rw [List.length_map, List.map_map]
     exact ho))
    have HS : Hid (∀ wx, Below w4.heap.size w4 wx → SB (w2.heap.size + 1) w2.heap.size gx ts tb tc (.slice a2 l.length cap2) wx) := hid (fun wx hx => hX.s.below hx)
    have hc0 := hX.o.cK
    have HCL : Hid (∀ wx, Below w4.heap.size w4 wx → wx.cell? ⟨w2.heap.size, 194, none⟩ = some (.slice aK K.length cK)) := hid (fun wx hx => (hx.cell (p := ⟨w2.heap.size, 194, none⟩) (block_lt hc0)).trans hc0)
    have HCA : Hid (∀ wx, Below w4.heap.size w4 wx → ∀ o, (wx.alloc o).cell? ⟨w2.heap.size, 194, none⟩ = some (.slice aK K.length cK)) := hid (fun wx hx o => HCL.out _ (hx.alloc hx.size o))
    have HRO : Hid (∀ wx, Below w4.heap.size w4 wx → wx.ownsRow (w2.heap.size + 2) 24 1 (.slice aK K.length cK) K.length (K.map (·.1))) := hid (fun wx hx => owns_below hX.r.kr hx)
    have HSZ : Hid (∀ wx (o : Obj), Below w4.heap.size w4 wx → w2.heap.size + 2 ≤ (wx.alloc o).heap.size) := hid (fun wx o hx => by have h1 := hx.size; have h2 := hX.z; simp; omega)
    have HFIN := hid (fun wx w5 v v5 hx => hX.addK (wx := wx) (w5 := w5) (v := v) (v5 := v5) (t := 24) (l := keysOf l) hx)
    have n3 : Hid (K.length + 1 ≤ maxLen) := hid (by unfold maxLen; omega)
    have n4 : Hid ((K.length + 1) * 24 ≤ 140737488355328) := hid (by omega)
    refine wp_region_held_drew (S := SB (w2.heap.size + 1) w2.heap.size gx ts tb tc (.slice a2 l.length cap2)) (by kernel_rfl) hX.s.drew (fun hS0 => ?_)
    refine takeQ (some 31) (i := 0) (v := ?v1) rfl rfl (by kernel_rfl) (by kernel_rfl) (by kernel_rfl) (fun _ _ _ h => h) (Or.inl ⟨by rfl, ?h1⟩) hS0 ?r1
    case h1 => (intro w hw; obtain ⟨q0, q1, q2, q3, q4⟩ := hw; go_simp; try (with_reducible rfl))
    try simp only [Act.put, zA, zB, zC]
    refine takeQ (some 32) (i := 1) (v := ?v2) rfl rfl (by kernel_rfl) (by kernel_rfl) (by kernel_rfl) (fun _ _ _ h => h) (Or.inl ⟨by rfl, ?h2⟩) hS0 ?r2
    case h2 => (intro w hw; obtain ⟨q0, q1, q2, q3, q4⟩ := hw; go_simp; try (with_reducible rfl))
    try simp only [Act.put, zA, zB, zC]
    refine takeQ (some 36) (i := 5) (v := ?v3) rfl rfl (by kernel_rfl) (by kernel_rfl) (by kernel_rfl) (fun _ _ _ h => h) (Or.inl ⟨by rfl, ?h3⟩) hS0 ?r3
    case h3 => (intro w hw; obtain ⟨q0, q1, q2, q3, q4⟩ := hw; go_simp; try (with_reducible rfl))
    try simp only [Act.put, zA, zB, zC]
    refine takeQ (some 33) (i := 2) (v := ?v4) rfl rfl (by kernel_rfl) (by kernel_rfl) (by kernel_rfl) (fun _ _ _ h => h) (Or.inl ⟨by rfl, ?h4⟩) hS0 ?r4
    case h4 => (intro w hw; obtain ⟨q0, q1, q2, q3, q4⟩ := hw; go_simp; try (with_reducible rfl))
    try simp only [Act.put, zA, zB, zC]
    refine takeQ (some 34) (i := 3) (v := ?v5) rfl rfl (by kernel_rfl) (by kernel_rfl) (by kernel_rfl) (fun _ _ _ h => h) (Or.inl ⟨by rfl, ?h5⟩) hS0 ?r5
    case h5 => (intro w hw; obtain ⟨q0, q1, q2, q3, q4⟩ := hw; go_simp; try (with_reducible rfl))
    try simp only [Act.put, zA, zB, zC]
    refine wpAnyH_ready (rs := [4, 6]) (by kernel_rfl) (by simp) ?_
    refine AllReadyH.cons rfl ?_ (AllReadyH.cons rfl ?_ AllReadyH.nil)
    ·intro KK hKK
     go_simp
     refine hKK.out _ _ hS0 (fun _ => ?_)
     clear hKK KK
     refine wpAnyH_ready (rs := [6]) (by kernel_rfl) (by simp) ?_
     refine AllReadyH.cons rfl ?_ AllReadyH.nil
     intro KK hKK
     go_simp
     refine (CK.out _ kd).mono ?_
     rintro e wx ⟨vx, rfl, hox, hbx⟩
     obtain ⟨ax, cx, hvx⟩ := owns_form hox
     subst hvx
     show KK _ _
     have kk := below_then kd hbx
     have hS1 := HS.out _ kk
     have hcw := HCL.out _ kk
     refine hKK.out _ _ hS1 (fun _ => ?_)
     clear hKK KK
     refine wpAnyH_ready (rs := [7]) (by kernel_rfl) (by simp) ?_
     refine AllReadyH.cons rfl ?_ AllReadyH.nil
     intro KK hKK
     go_simp
     have hS2 := hS1.alloc (.cells #[.slice ax (keysOf l).length cx] 24)
     have hcw := HCA.out _ kk (.cells #[.slice ax (keysOf l).length cx] 24)
     refine hKK.out _ _ hS2 (fun _ => ?_)
     clear hKK KK
     refine wpAnyH_ready (rs := [8]) (by kernel_rfl) (by simp) ?_
     refine AllReadyH.cons rfl ?_ AllReadyH.nil
     intro KK hKK
     refine step_app _ rfl (.tmp 35) (.tmp 38) 39 rfl (w2.heap.size + 2) 24 i1 (.slice none 0 0) 1 24 Tryz.underlying39 hi1 hza1 hzb1 hzc1 rfl (by decide) (.slice aK K.length cK) K.length (K.map (·.1)) (by simp [Act.eval]) ((HRO.out _ kk).alloc _) ⟨_, 0, none⟩ 1 1 [.slice ax (keysOf l).length cx] (by rfl) rfl (cell_one_new _ _ _) (by intro u hu; simp at hu; subst hu; rfl) n3.out n4.out (HSZ.out _ _ kk) ?_
     intro v5 w5 hown5 hg5
     obtain ⟨a5, c5, hv5⟩ := owns_form hown5
     subst hv5
     obtain ⟨hfin, hS5, hfz, hcz⟩ := HFIN.out _ _ _ _ kk hox hown5 hg5
     show KK _ _
     refine hKK.out _ _ hS5 (fun _ => ?_)
     clear hKK KK
     refine takeQ (some 40) (i := 9) (v := ?v6) rfl rfl (by kernel_rfl) (by kernel_rfl) (by kernel_rfl) (fun _ _ _ h => h) (Or.inl ⟨by rfl, ?h6⟩) hS5 ?r6
     case h6 => (intro w hw; obtain ⟨q0, q1, q2, q3, q4⟩ := hw; go_simp; try (with_reducible rfl))
     try simp only [Act.put, List.setIfInBounds_toArray]
     refine takeQ (some 41) (i := 10) (v := ?v7) rfl rfl (by kernel_rfl) (by kernel_rfl) (by kernel_rfl) (fun _ _ _ h => h) (Or.inl ⟨by rfl, ?h7⟩) hS5 ?r7
     case h7 => (intro w hw; obtain ⟨q0, q1, q2, q3, q4⟩ := hw; go_simp; try (with_reducible rfl))
     try simp only [Act.put]
     refine wpAnyH_ready (rs := [11]) (by kernel_rfl) (by simp) ?_
     refine AllReadyH.cons rfl ?_ AllReadyH.nil
     intro KK hKK
     go_simp
     refine hKK.out _ _ hfin.s (fun _ => ?_)
     clear hKK KK
     refine wpAnyH_done (by kernel_rfl) ?_ _
     go_wp2_with fail
     go_meet
     exact ⟨_, _, rfl, hfin⟩
    ·intro KK hKK
     go_simp
     refine (CK.out _ kd).mono ?_
     rintro e wx ⟨vx, rfl, hox, hbx⟩
     obtain ⟨ax, cx, hvx⟩ := owns_form hox
     subst hvx
     show KK _ _
     have kk := below_then kd hbx
     have hS1 := HS.out _ kk
     have hcw := HCL.out _ kk
     refine hKK.out _ _ hS1 (fun _ => ?_)
     clear hKK KK
     refine wpAnyH_ready (rs := [4, 7]) (by kernel_rfl) (by simp) ?_
     refine AllReadyH.cons rfl ?_ (AllReadyH.cons rfl ?_ AllReadyH.nil)
     ·intro KK hKK
      go_simp
      refine hKK.out _ _ hS1 (fun _ => ?_)
      clear hKK KK
      refine wpAnyH_ready (rs := [7]) (by kernel_rfl) (by simp) ?_
      refine AllReadyH.cons rfl ?_ AllReadyH.nil
      intro KK hKK
      go_simp
      have hS2 := hS1.alloc (.cells #[.slice ax (keysOf l).length cx] 24)
      have hcw := HCA.out _ kk (.cells #[.slice ax (keysOf l).length cx] 24)
      refine hKK.out _ _ hS2 (fun _ => ?_)
      clear hKK KK
      refine wpAnyH_ready (rs := [8]) (by kernel_rfl) (by simp) ?_
      refine AllReadyH.cons rfl ?_ AllReadyH.nil
      intro KK hKK
      refine step_app _ rfl (.tmp 35) (.tmp 38) 39 rfl (w2.heap.size + 2) 24 i1 (.slice none 0 0) 1 24 Tryz.underlying39 hi1 hza1 hzb1 hzc1 rfl (by decide) (.slice aK K.length cK) K.length (K.map (·.1)) (by simp [Act.eval]) ((HRO.out _ kk).alloc _) ⟨_, 0, none⟩ 1 1 [.slice ax (keysOf l).length cx] (by rfl) rfl (cell_one_new _ _ _) (by intro u hu; simp at hu; subst hu; rfl) n3.out n4.out (HSZ.out _ _ kk) ?_
      intro v5 w5 hown5 hg5
      obtain ⟨a5, c5, hv5⟩ := owns_form hown5
      subst hv5
      obtain ⟨hfin, hS5, hfz, hcz⟩ := HFIN.out _ _ _ _ kk hox hown5 hg5
      show KK _ _
      refine hKK.out _ _ hS5 (fun _ => ?_)
      clear hKK KK
      refine takeQ (some 40) (i := 9) (v := ?v8) rfl rfl (by kernel_rfl) (by kernel_rfl) (by kernel_rfl) (fun _ _ _ h => h) (Or.inl ⟨by rfl, ?h8⟩) hS5 ?r8
      case h8 => (intro w hw; obtain ⟨q0, q1, q2, q3, q4⟩ := hw; go_simp; try (with_reducible rfl))
      try simp only [Act.put, List.setIfInBounds_toArray]
      refine takeQ (some 41) (i := 10) (v := ?v9) rfl rfl (by kernel_rfl) (by kernel_rfl) (by kernel_rfl) (fun _ _ _ h => h) (Or.inl ⟨by rfl, ?h9⟩) hS5 ?r9
      case h9 => (intro w hw; obtain ⟨q0, q1, q2, q3, q4⟩ := hw; go_simp; try (with_reducible rfl))
      try simp only [Act.put]
      refine wpAnyH_ready (rs := [11]) (by kernel_rfl) (by simp) ?_
      refine AllReadyH.cons rfl ?_ AllReadyH.nil
      intro KK hKK
      go_simp
      refine hKK.out _ _ hfin.s (fun _ => ?_)
      clear hKK KK
      refine wpAnyH_done (by kernel_rfl) ?_ _
      go_wp2_with fail
      go_meet
      exact ⟨_, _, rfl, hfin⟩
     ·intro KK hKK
      go_simp
      have hS2 := hS1.alloc (.cells #[.slice ax (keysOf l).length cx] 24)
      have hcw := HCA.out _ kk (.cells #[.slice ax (keysOf l).length cx] 24)
      refine hKK.out _ _ hS2 (fun _ => ?_)
      clear hKK KK
      refine wpAnyH_ready (rs := [4]) (by kernel_rfl) (by simp) ?_
      refine AllReadyH.cons rfl ?_ AllReadyH.nil
      intro KK hKK
      go_simp
      refine hKK.out _ _ hS2 (fun _ => ?_)
      clear hKK KK
      refine wpAnyH_ready (rs := [8]) (by kernel_rfl) (by simp) ?_
      refine AllReadyH.cons rfl ?_ AllReadyH.nil
      intro KK hKK
      refine step_app _ rfl (.tmp 35) (.tmp 38) 39 rfl (w2.heap.size + 2) 24 i1 (.slice none 0 0) 1 24 Tryz.underlying39 hi1 hza1 hzb1 hzc1 rfl (by decide) (.slice aK K.length cK) K.length (K.map (·.1)) (by simp [Act.eval]) ((HRO.out _ kk).alloc _) ⟨_, 0, none⟩ 1 1 [.slice ax (keysOf l).length cx] (by rfl) rfl (cell_one_new _ _ _) (by intro u hu; simp at hu; subst hu; rfl) n3.out n4.out (HSZ.out _ _ kk) ?_
      intro v5 w5 hown5 hg5
      obtain ⟨a5, c5, hv5⟩ := owns_form hown5
      subst hv5
      obtain ⟨hfin, hS5, hfz, hcz⟩ := HFIN.out _ _ _ _ kk hox hown5 hg5
      show KK _ _
      refine hKK.out _ _ hS5 (fun _ => ?_)
      clear hKK KK
      refine takeQ (some 40) (i := 9) (v := ?v10) rfl rfl (by kernel_rfl) (by kernel_rfl) (by kernel_rfl) (fun _ _ _ h => h) (Or.inl ⟨by rfl, ?h10⟩) hS5 ?r10
      case h10 => (intro w hw; obtain ⟨q0, q1, q2, q3, q4⟩ := hw; go_simp; try (with_reducible rfl))
      try simp only [Act.put, List.setIfInBounds_toArray]
      refine takeQ (some 41) (i := 10) (v := ?v11) rfl rfl (by kernel_rfl) (by kernel_rfl) (by kernel_rfl) (fun _ _ _ h => h) (Or.inl ⟨by rfl, ?h11⟩) hS5 ?r11
      case h11 => (intro w hw; obtain ⟨q0, q1, q2, q3, q4⟩ := hw; go_simp; try (with_reducible rfl))
      try simp only [Act.put]
      refine wpAnyH_ready (rs := [11]) (by kernel_rfl) (by simp) ?_
      refine AllReadyH.cons rfl ?_ AllReadyH.nil
      intro KK hKK
      go_simp
      refine hKK.out _ _ hfin.s (fun _ => ?_)
      clear hKK KK
      refine wpAnyH_done (by kernel_rfl) ?_ _
      go_wp2_with fail
      go_meet
      exact ⟨_, _, rfl, hfin⟩
   case rest =>
    obtain ⟨vk5, vx, rfl, hX5⟩ := hcut
    clear hX hOps1
    have hX := hX5
    clear hX5
    have HRD : Hid (∃ rd, rd = rdFr (wrTo h h.length) (k : Int) (refReads l)) := hid ⟨_, rfl⟩
    obtain ⟨rd, hrd⟩ := HRD.out
    have HRD2 := hid hrd
    clear hrd HRD
    go_upto_region 10 with fail
    go_cut [54] from 42 to 54 (fun u wx => ∃ (v5 : Value) (vy : Value), u = .pointer (some ⟨w2.heap.size, 195, none⟩) ∧ OfS w2 gx ts tb tc (.slice a2 l.length cap2) h.length vk5 v5 sd (K ++ [(vx, keysOf l)]) (R ++ [(vy, rd)]) wx)
    case first =>
     have hOps1 := HOPF.out wc hX.b
     have hMc := hM.below hX.b
     have kd := (Below.refl wc.heap.size wc).drew
     have CK : Hid (∀ wx, Below wc.heap.size wc wx → Calls Tryz.prog 54 #[.int .i64 k, .agg #[.int .i64 ts, .int .i64 tb, .int .i64 tc, .slice a2 l.length cap2], .map (some bm)] wx fun e w' => ∃ v, e = .returned v ∧ w'.ownsRow (w2.heap.size + 2) 121 2 v rd.length (frV rd) ∧ Below wx.heap.size wx w') := hid (fun wx hx => (oreads_any (k : Int) ts tb tc _ l (wrTo h h.length) bm _ _ wx (hOps1.below hx) HOL.out (by omega) (hMc.below hx)).mono (fun e w' ⟨v, out, he, ho, hr, _, hbb⟩ => by
      obtain rfl := hr.eq (refReads_rise HKL.out)
      rw [← HRD2.out] at ho
      exact ⟨v, he, own_base' ho (show w2.heap.size + 2 ≤ wx.heap.size by have h1 := hx.size; have h2 := hX.z; omega), hbb⟩))
     have HS : Hid (∀ wx, Below wc.heap.size wc wx → SB (w2.heap.size + 1) w2.heap.size gx ts tb tc (.slice a2 l.length cap2) wx) := hid (fun wx hx => hX.s.below hx)
     have hc0 := hX.o.cR
     have HCL : Hid (∀ wx, Below wc.heap.size wc wx → wx.cell? ⟨w2.heap.size, 195, none⟩ = some (.slice aR R.length cR)) := hid (fun wx hx => (hx.cell (p := ⟨w2.heap.size, 195, none⟩) (block_lt hc0)).trans hc0)
     have HCA : Hid (∀ wx, Below wc.heap.size wc wx → ∀ o, (wx.alloc o).cell? ⟨w2.heap.size, 195, none⟩ = some (.slice aR R.length cR)) := hid (fun wx hx o => HCL.out _ (hx.alloc hx.size o))
     have HRO : Hid (∀ wx, Below wc.heap.size wc wx → wx.ownsRow (w2.heap.size + 2) 114 1 (.slice aR R.length cR) R.length (R.map (·.1))) := hid (fun wx hx => owns_below hX.r.rr hx)
     have HSZ : Hid (∀ wx (o : Obj), Below wc.heap.size wc wx → w2.heap.size + 2 ≤ (wx.alloc o).heap.size) := hid (fun wx o hx => by have h1 := hx.size; have h2 := hX.z; simp; omega)
     have HFIN := hid (fun wx w5 v v5 hx => hX.addR (wx := wx) (w5 := w5) (v := v) (v5 := v5) (t := 114) (l := rd) hx)
     have n3 : Hid (R.length + 1 ≤ maxLen) := hid (by unfold maxLen; omega)
     have n4 : Hid ((R.length + 1) * 24 ≤ 140737488355328) := hid (by omega)
     refine wp_region_held_drew (S := SB (w2.heap.size + 1) w2.heap.size gx ts tb tc (.slice a2 l.length cap2)) (by kernel_rfl) hX.s.drew (fun hS0 => ?_)
     refine takeQ (some 42) (i := 0) (v := ?v101) rfl rfl (by kernel_rfl) (by kernel_rfl) (by kernel_rfl) (fun _ _ _ h => h) (Or.inl ⟨by rfl, ?h101⟩) hS0 ?r101
     case h101 => (intro w hw; obtain ⟨q0, q1, q2, q3, q4⟩ := hw; go_simp; try (with_reducible rfl))
     try simp only [Act.put, zA, zB, zC]
     refine takeQ (some 43) (i := 1) (v := ?v102) rfl rfl (by kernel_rfl) (by kernel_rfl) (by kernel_rfl) (fun _ _ _ h => h) (Or.inl ⟨by rfl, ?h102⟩) hS0 ?r102
     case h102 => (intro w hw; obtain ⟨q0, q1, q2, q3, q4⟩ := hw; go_simp; try (with_reducible rfl))
     try simp only [Act.put, zA, zB, zC]
     refine takeQ (some 47) (i := 5) (v := ?v103) rfl rfl (by kernel_rfl) (by kernel_rfl) (by kernel_rfl) (fun _ _ _ h => h) (Or.inl ⟨by rfl, ?h103⟩) hS0 ?r103
     case h103 => (intro w hw; obtain ⟨q0, q1, q2, q3, q4⟩ := hw; go_simp; try (with_reducible rfl))
     try simp only [Act.put, zA, zB, zC]
     refine takeQ (some 48) (i := 6) (v := ?v104) rfl rfl (by kernel_rfl) (by kernel_rfl) (by kernel_rfl) (fun _ _ _ h => h) (Or.inl ⟨by rfl, ?h104⟩) hS0 ?r104
     case h104 => (intro w hw; obtain ⟨q0, q1, q2, q3, q4⟩ := hw; go_simp; try (with_reducible rfl))
     try simp only [Act.put, zA, zB, zC]
     refine takeQ (some 49) (i := 7) (v := ?v105) rfl rfl (by kernel_rfl) (by kernel_rfl) (by kernel_rfl) (fun _ _ _ h => h) (Or.inl ⟨by rfl, ?h105⟩) hS0 ?r105
     case h105 => (intro w hw; obtain ⟨q0, q1, q2, q3, q4⟩ := hw; go_simp; try (with_reducible rfl))
     try simp only [Act.put, zA, zB, zC]
     refine takeQ (some 44) (i := 2) (v := ?v106) rfl rfl (by kernel_rfl) (by kernel_rfl) (by kernel_rfl) (fun _ _ _ h => h) (Or.inl ⟨by rfl, ?h106⟩) hS0 ?r106
     case h106 => (intro w hw; obtain ⟨q0, q1, q2, q3, q4⟩ := hw; go_simp; try (with_reducible rfl))
     try simp only [Act.put, zA, zB, zC]
     refine takeQ (some 45) (i := 3) (v := ?v107) rfl rfl (by kernel_rfl) (by kernel_rfl) (by kernel_rfl) (fun _ _ _ h => h) (Or.inl ⟨by rfl, ?h107⟩) hS0 ?r107
     case h107 => (intro w hw; obtain ⟨q0, q1, q2, q3, q4⟩ := hw; go_simp; try (with_reducible rfl))
     try simp only [Act.put, zA, zB, zC]
     refine wpAnyH_ready (rs := [4, 8]) (by kernel_rfl) (by simp) ?_
     refine AllReadyH.cons rfl ?_ (AllReadyH.cons rfl ?_ AllReadyH.nil)
     ·intro KK hKK
      go_simp
      refine hKK.out _ _ hS0 (fun _ => ?_)
      clear hKK KK
      refine wpAnyH_ready (rs := [8]) (by kernel_rfl) (by simp) ?_
      refine AllReadyH.cons rfl ?_ AllReadyH.nil
      intro KK hKK
      go_simp
      refine (CK.out _ kd).mono ?_
      rintro e wx ⟨vx, rfl, hox, hbx⟩
      obtain ⟨ax, cx, hvx⟩ := owns_form hox
      subst hvx
      show KK _ _
      have kk := below_then kd hbx
      have hS1 := HS.out _ kk
      have hcw := HCL.out _ kk
      refine hKK.out _ _ hS1 (fun _ => ?_)
      clear hKK KK
      refine wpAnyH_ready (rs := [9]) (by kernel_rfl) (by simp) ?_
      refine AllReadyH.cons rfl ?_ AllReadyH.nil
      intro KK hKK
      go_simp
      have hS2 := hS1.alloc (.cells #[.slice ax rd.length cx] 114)
      have hcw := HCA.out _ kk (.cells #[.slice ax rd.length cx] 114)
      refine hKK.out _ _ hS2 (fun _ => ?_)
      clear hKK KK
      refine wpAnyH_ready (rs := [10]) (by kernel_rfl) (by simp) ?_
      refine AllReadyH.cons rfl ?_ AllReadyH.nil
      intro KK hKK
      refine step_app _ rfl (.tmp 46) (.tmp 51) 110 rfl (w2.heap.size + 2) 114 i2 (.slice none 0 0) 1 24 Tryz.underlying110 hi2 hza2 hzb2 hzc2 rfl (by decide) (.slice aR R.length cR) R.length (R.map (·.1)) (by simp [Act.eval]) ((HRO.out _ kk).alloc _) ⟨_, 0, none⟩ 1 1 [.slice ax rd.length cx] (by rfl) rfl (cell_one_new _ _ _) (by intro u hu; simp at hu; subst hu; rfl) n3.out n4.out (HSZ.out _ _ kk) ?_
      intro v5 w5 hown5 hg5
      obtain ⟨a5, c5, hv5⟩ := owns_form hown5
      subst hv5
      obtain ⟨hfin, hS5, hfz, hcz⟩ := HFIN.out _ _ _ _ kk hox hown5 hg5
      show KK _ _
      refine hKK.out _ _ hS5 (fun _ => ?_)
      clear hKK KK
      refine takeQ (some 53) (i := 11) (v := ?v108) rfl rfl (by kernel_rfl) (by kernel_rfl) (by kernel_rfl) (fun _ _ _ h => h) (Or.inl ⟨by rfl, ?h108⟩) hS5 ?r108
      case h108 => (intro w hw; obtain ⟨q0, q1, q2, q3, q4⟩ := hw; go_simp; try (with_reducible rfl))
      try simp only [Act.put, List.setIfInBounds_toArray]
      refine takeQ (some 54) (i := 12) (v := ?v109) rfl rfl (by kernel_rfl) (by kernel_rfl) (by kernel_rfl) (fun _ _ _ h => h) (Or.inl ⟨by rfl, ?h109⟩) hS5 ?r109
      case h109 => (intro w hw; obtain ⟨q0, q1, q2, q3, q4⟩ := hw; go_simp; try (with_reducible rfl))
      try simp only [Act.put]
      refine wpAnyH_ready (rs := [13]) (by kernel_rfl) (by simp) ?_
      refine AllReadyH.cons rfl ?_ AllReadyH.nil
      intro KK hKK
      go_simp
      refine hKK.out _ _ hfin.s (fun _ => ?_)
      clear hKK KK
      refine wpAnyH_done (by kernel_rfl) ?_ _
      go_wp2_with fail
      go_meet
      exact ⟨_, _, rfl, hfin⟩
     ·intro KK hKK
      go_simp
      refine (CK.out _ kd).mono ?_
      rintro e wx ⟨vx, rfl, hox, hbx⟩
      obtain ⟨ax, cx, hvx⟩ := owns_form hox
      subst hvx
      show KK _ _
      have kk := below_then kd hbx
      have hS1 := HS.out _ kk
      have hcw := HCL.out _ kk
      refine hKK.out _ _ hS1 (fun _ => ?_)
      clear hKK KK
      refine wpAnyH_ready (rs := [4, 9]) (by kernel_rfl) (by simp) ?_
      refine AllReadyH.cons rfl ?_ (AllReadyH.cons rfl ?_ AllReadyH.nil)
      ·intro KK hKK
       go_simp
       refine hKK.out _ _ hS1 (fun _ => ?_)
       clear hKK KK
       refine wpAnyH_ready (rs := [9]) (by kernel_rfl) (by simp) ?_
       refine AllReadyH.cons rfl ?_ AllReadyH.nil
       intro KK hKK
       go_simp
       have hS2 := hS1.alloc (.cells #[.slice ax rd.length cx] 114)
       have hcw := HCA.out _ kk (.cells #[.slice ax rd.length cx] 114)
       refine hKK.out _ _ hS2 (fun _ => ?_)
       clear hKK KK
       refine wpAnyH_ready (rs := [10]) (by kernel_rfl) (by simp) ?_
       refine AllReadyH.cons rfl ?_ AllReadyH.nil
       intro KK hKK
       refine step_app _ rfl (.tmp 46) (.tmp 51) 110 rfl (w2.heap.size + 2) 114 i2 (.slice none 0 0) 1 24 Tryz.underlying110 hi2 hza2 hzb2 hzc2 rfl (by decide) (.slice aR R.length cR) R.length (R.map (·.1)) (by simp [Act.eval]) ((HRO.out _ kk).alloc _) ⟨_, 0, none⟩ 1 1 [.slice ax rd.length cx] (by rfl) rfl (cell_one_new _ _ _) (by intro u hu; simp at hu; subst hu; rfl) n3.out n4.out (HSZ.out _ _ kk) ?_
       intro v5 w5 hown5 hg5
       obtain ⟨a5, c5, hv5⟩ := owns_form hown5
       subst hv5
       obtain ⟨hfin, hS5, hfz, hcz⟩ := HFIN.out _ _ _ _ kk hox hown5 hg5
       show KK _ _
       refine hKK.out _ _ hS5 (fun _ => ?_)
       clear hKK KK
       refine takeQ (some 53) (i := 11) (v := ?v110) rfl rfl (by kernel_rfl) (by kernel_rfl) (by kernel_rfl) (fun _ _ _ h => h) (Or.inl ⟨by rfl, ?h110⟩) hS5 ?r110
       case h110 => (intro w hw; obtain ⟨q0, q1, q2, q3, q4⟩ := hw; go_simp; try (with_reducible rfl))
       try simp only [Act.put, List.setIfInBounds_toArray]
       refine takeQ (some 54) (i := 12) (v := ?v111) rfl rfl (by kernel_rfl) (by kernel_rfl) (by kernel_rfl) (fun _ _ _ h => h) (Or.inl ⟨by rfl, ?h111⟩) hS5 ?r111
       case h111 => (intro w hw; obtain ⟨q0, q1, q2, q3, q4⟩ := hw; go_simp; try (with_reducible rfl))
       try simp only [Act.put]
       refine wpAnyH_ready (rs := [13]) (by kernel_rfl) (by simp) ?_
       refine AllReadyH.cons rfl ?_ AllReadyH.nil
       intro KK hKK
       go_simp
       refine hKK.out _ _ hfin.s (fun _ => ?_)
       clear hKK KK
       refine wpAnyH_done (by kernel_rfl) ?_ _
       go_wp2_with fail
       go_meet
       exact ⟨_, _, rfl, hfin⟩
      ·intro KK hKK
       go_simp
       have hS2 := hS1.alloc (.cells #[.slice ax rd.length cx] 114)
       have hcw := HCA.out _ kk (.cells #[.slice ax rd.length cx] 114)
       refine hKK.out _ _ hS2 (fun _ => ?_)
       clear hKK KK
       refine wpAnyH_ready (rs := [4]) (by kernel_rfl) (by simp) ?_
       refine AllReadyH.cons rfl ?_ AllReadyH.nil
       intro KK hKK
       go_simp
       refine hKK.out _ _ hS2 (fun _ => ?_)
       clear hKK KK
       refine wpAnyH_ready (rs := [10]) (by kernel_rfl) (by simp) ?_
       refine AllReadyH.cons rfl ?_ AllReadyH.nil
       intro KK hKK
       refine step_app _ rfl (.tmp 46) (.tmp 51) 110 rfl (w2.heap.size + 2) 114 i2 (.slice none 0 0) 1 24 Tryz.underlying110 hi2 hza2 hzb2 hzc2 rfl (by decide) (.slice aR R.length cR) R.length (R.map (·.1)) (by simp [Act.eval]) ((HRO.out _ kk).alloc _) ⟨_, 0, none⟩ 1 1 [.slice ax rd.length cx] (by rfl) rfl (cell_one_new _ _ _) (by intro u hu; simp at hu; subst hu; rfl) n3.out n4.out (HSZ.out _ _ kk) ?_
       intro v5 w5 hown5 hg5
       obtain ⟨a5, c5, hv5⟩ := owns_form hown5
       subst hv5
       obtain ⟨hfin, hS5, hfz, hcz⟩ := HFIN.out _ _ _ _ kk hox hown5 hg5
       show KK _ _
       refine hKK.out _ _ hS5 (fun _ => ?_)
       clear hKK KK
       refine takeQ (some 53) (i := 11) (v := ?v112) rfl rfl (by kernel_rfl) (by kernel_rfl) (by kernel_rfl) (fun _ _ _ h => h) (Or.inl ⟨by rfl, ?h112⟩) hS5 ?r112
       case h112 => (intro w hw; obtain ⟨q0, q1, q2, q3, q4⟩ := hw; go_simp; try (with_reducible rfl))
       try simp only [Act.put, List.setIfInBounds_toArray]
       refine takeQ (some 54) (i := 12) (v := ?v113) rfl rfl (by kernel_rfl) (by kernel_rfl) (by kernel_rfl) (fun _ _ _ h => h) (Or.inl ⟨by rfl, ?h113⟩) hS5 ?r113
       case h113 => (intro w hw; obtain ⟨q0, q1, q2, q3, q4⟩ := hw; go_simp; try (with_reducible rfl))
       try simp only [Act.put]
       refine wpAnyH_ready (rs := [13]) (by kernel_rfl) (by simp) ?_
       refine AllReadyH.cons rfl ?_ AllReadyH.nil
       intro KK hKK
       go_simp
       refine hKK.out _ _ hfin.s (fun _ => ?_)
       clear hKK KK
       refine wpAnyH_done (by kernel_rfl) ?_ _
       go_wp2_with fail
       go_meet
       exact ⟨_, _, rfl, hfin⟩
    case rest =>
     obtain ⟨vr5, vy, rfl, hX5⟩ := hcut
     clear hX
     have hX := hX5
     clear hX5
     have hOps1 := HOPF.out wc hX.b
     have hMc := hM.below hX.b
     have kd := (Below.refl wc.heap.size wc).drew
     have HSO : Hid (∃ so, so = (!(refReads l).any (badFr (wrTo h h.length) (k : Int)) && steadyL l)) := hid ⟨_, rfl⟩
     obtain ⟨so, hso⟩ := HSO.out
     have HSO2 := hid hso
     clear hso HSO
     have CK : Hid (∀ wx, Below wc.heap.size wc wx → Calls Tryz.prog 55 #[.int .i64 k, .agg #[.int .i64 ts, .int .i64 tb, .int .i64 tc, .slice a2 l.length cap2], .map (some bm)] wx fun e w' => e = .returned (.bool so) ∧ Below wx.heap.size wx w') := hid (fun wx hx => (osound_any (k : Int) ts tb tc _ l (wrTo h h.length) bm _ _ wx (hOps1.below hx) HOL.out (by omega) (hMc.below hx)).mono (fun e w' ⟨out, he, hr, _, hbb⟩ => by
      obtain rfl := hr.eq (refReads_rise HKL.out)
      rw [← HSO2.out] at he
      exact ⟨he, hbb⟩))
     have HK0 : Hid ((K ++ [(vx, keysOf l)]).map (·.2) = keysTo h (k + 1) ∧ (R ++ [(vy, rd)]).map (·.2) = readsTo h (k + 1) ∧ (sd && so) = soundTo h (k + 1)) := hid (by
      refine ⟨?_, ?_, ?_⟩
      ·rw [List.map_append, keysTo_succ, ← HK.out.1, HLK.out]; rfl
      ·rw [List.map_append, readsTo_succ, ← HK.out.2.1]
       unfold readsOf
       rw [HLK.out, ← HRD2.out]; rfl
      ·rw [soundTo_succ, ← HK.out.2.2]
       unfold soundOf
       rw [HLK.out, ← HSO2.out])
     go_upto_region 11 with fail
     cases sd
     ·have HK1 : Hid ((K ++ [(vx, keysOf l)]).map (·.2) = keysTo h (k + 1) ∧ (R ++ [(vy, rd)]).map (·.2) = readsTo h (k + 1) ∧ false = soundTo h (k + 1)) := hid HK0.out
      clear HK0
      refine wp_region_held_drew (S := SB (w2.heap.size + 1) w2.heap.size gx ts tb tc (.slice a2 l.length cap2)) (by kernel_rfl) hX.s.drew (fun hS0 => ?_)
      have hc0 := hX.o.cS
      refine takeQ (some 55) (i := 0) (v := ?v201) rfl rfl (by kernel_rfl) (by kernel_rfl) (by kernel_rfl) (fun _ _ _ h => h) (Or.inl ⟨by rfl, ?h201⟩) hS0 ?r201
      case h201 => (intro w hw; obtain ⟨q0, q1, q2, q3, q4⟩ := hw; go_simp; try (with_reducible rfl))
      try simp only [Act.put, zA, zB, zC]
      refine takeQ (some 56) (i := 1) (v := ?v202) rfl rfl (by kernel_rfl) (by kernel_rfl) (by kernel_rfl) (fun _ _ _ h => h) (Or.inl ⟨by rfl, ?h202⟩) hS0 ?r202
      case h202 => (intro w hw; obtain ⟨q0, q1, q2, q3, q4⟩ := hw; go_simp; try (with_reducible rfl))
      try simp only [Act.put, zA, zB, zC]
      refine takeQ (some 57) (i := 2) (v := ?v203) rfl rfl (by kernel_rfl) (by kernel_rfl) (by kernel_rfl) (fun _ _ _ h => h) (Or.inl ⟨by rfl, ?h203⟩) hS0 ?r203
      case h203 => (intro w hw; obtain ⟨q0, q1, q2, q3, q4⟩ := hw; go_simp; try (with_reducible rfl))
      try simp only [Act.put, zA, zB, zC]
      refine takeQ (some 58) (i := 3) (v := ?v204) rfl rfl (by kernel_rfl) (by kernel_rfl) (by kernel_rfl) (fun _ _ _ h => h) (Or.inl ⟨by rfl, ?h204⟩) hS0 ?r204
      case h204 => (intro w hw; obtain ⟨q0, q1, q2, q3, q4⟩ := hw; go_simp; try (with_reducible rfl))
      try simp only [Act.put, zA, zB, zC]
      refine wpAnyH_ready (rs := [4]) (by kernel_rfl) (by simp) ?_
      refine AllReadyH.cons rfl ?_ AllReadyH.nil
      intro KK hKK
      go_simp
      refine hKK.out _ _ hS0 (fun _ => ?_)
      clear hKK KK
      refine takeQ (some 60) (i := 5) (v := ?v205) rfl rfl (by kernel_rfl) (by kernel_rfl) (by kernel_rfl) (fun _ _ _ h => h) (Or.inl ⟨by rfl, ?h205⟩) hS0 ?r205
      case h205 => (intro w hw; obtain ⟨q0, q1, q2, q3, q4⟩ := hw; go_simp; try (with_reducible rfl))
      try simp only [Act.put, zA, zB, zC]
      refine takeQ (some 61) (i := 6) (v := undef) rfl rfl (by kernel_rfl) (by kernel_rfl) (by kernel_rfl) (fun _ _ _ h => h) (Or.inr ⟨by rfl, rfl⟩) hS0 ?_
      try simp only [Act.put, zA, zB, zC]
      refine takeQ (some 62) (i := 7) (v := undef) rfl rfl (by kernel_rfl) (by kernel_rfl) (by kernel_rfl) (fun _ _ _ h => h) (Or.inr ⟨by rfl, rfl⟩) hS0 ?_
      try simp only [Act.put, zA, zB, zC]
      refine takeQ (some 63) (i := 8) (v := undef) rfl rfl (by kernel_rfl) (by kernel_rfl) (by kernel_rfl) (fun _ _ _ h => h) (Or.inr ⟨by rfl, rfl⟩) hS0 ?_
      try simp only [Act.put, zA, zB, zC]
      refine wpAnyH_ready (rs := [9]) (by kernel_rfl) (by simp) ?_
      refine AllReadyH.cons rfl ?_ AllReadyH.nil
      intro KK hKK
      go_simp
      have hY := hX.below kd
      have hf := hY.o.free (i := 196) (by omega)
      have hc := hY.o.cS
      refine hKK.out _ _ hS0 (fun _ => ?_)
      clear hKK KK
      refine takeQ (some 65) (i := 10) (v := ?v206) rfl rfl (by kernel_rfl) (by kernel_rfl) (by kernel_rfl) (fun _ _ _ h => h) (Or.inl ⟨by rfl, ?h206⟩) hS0 ?r206
      case h206 => (intro w hw; obtain ⟨q0, q1, q2, q3, q4⟩ := hw; go_simp; try (with_reducible rfl))
      try simp only [Act.put, zA, zB, zC]
      refine takeQ (some 66) (i := 11) (v := ?v207) rfl rfl (by kernel_rfl) (by kernel_rfl) (by kernel_rfl) (fun _ _ _ h => h) (Or.inl ⟨by rfl, ?h207⟩) hS0 ?r207
      case h207 => (intro w hw; obtain ⟨q0, q1, q2, q3, q4⟩ := hw; go_simp; try (with_reducible rfl))
      try simp only [Act.put, zA, zB, zC]
      refine takeQ (some 67) (i := 12) (v := ?v208) rfl rfl (by kernel_rfl) (by kernel_rfl) (by kernel_rfl) (fun _ _ _ h => h) (Or.inl ⟨by rfl, ?h208⟩) hS0 ?r208
      case h208 => (intro w hw; obtain ⟨q0, q1, q2, q3, q4⟩ := hw; go_simp; try (with_reducible rfl))
      try simp only [Act.put, zA, zB, zC]
      refine wpAnyH_ready (rs := [13]) (by kernel_rfl) (by simp) ?_
      refine AllReadyH.cons rfl ?_ AllReadyH.nil
      intro KK hKK
      go_simp
      have hZ := hY.setS false
      refine hKK.out _ _ hZ.s (fun _ => ?_)
      clear hKK KK
      refine wpAnyH_done (by kernel_rfl) ?_ _
      clear hX hY CK kd hc hf hS0
      go_wp2_with fail
      go_roundw
      case rel => exact ⟨k + 1, _, _, _, _, _, by omega, by go_num, HK1.out.1, HK1.out.2.1, HK1.out.2.2, hZ.o, hZ.s.1, hZ.r, hZ.b, hZ.z⟩
      case measure => simp [intOf]; omega
     ·have HK1 : Hid ((K ++ [(vx, keysOf l)]).map (·.2) = keysTo h (k + 1) ∧ (R ++ [(vy, rd)]).map (·.2) = readsTo h (k + 1) ∧ so = soundTo h (k + 1)) := hid HK0.out
      clear HK0
      refine wp_region_held_drew (S := SB (w2.heap.size + 1) w2.heap.size gx ts tb tc (.slice a2 l.length cap2)) (by kernel_rfl) hX.s.drew (fun hS0 => ?_)
      have hc0 := hX.o.cS
      refine takeQ (some 55) (i := 0) (v := ?v301) rfl rfl (by kernel_rfl) (by kernel_rfl) (by kernel_rfl) (fun _ _ _ h => h) (Or.inl ⟨by rfl, ?h301⟩) hS0 ?r301
      case h301 => (intro w hw; obtain ⟨q0, q1, q2, q3, q4⟩ := hw; go_simp; try (with_reducible rfl))
      try simp only [Act.put, zA, zB, zC]
      refine takeQ (some 56) (i := 1) (v := ?v302) rfl rfl (by kernel_rfl) (by kernel_rfl) (by kernel_rfl) (fun _ _ _ h => h) (Or.inl ⟨by rfl, ?h302⟩) hS0 ?r302
      case h302 => (intro w hw; obtain ⟨q0, q1, q2, q3, q4⟩ := hw; go_simp; try (with_reducible rfl))
      try simp only [Act.put, zA, zB, zC]
      refine takeQ (some 57) (i := 2) (v := ?v303) rfl rfl (by kernel_rfl) (by kernel_rfl) (by kernel_rfl) (fun _ _ _ h => h) (Or.inl ⟨by rfl, ?h303⟩) hS0 ?r303
      case h303 => (intro w hw; obtain ⟨q0, q1, q2, q3, q4⟩ := hw; go_simp; try (with_reducible rfl))
      try simp only [Act.put, zA, zB, zC]
      refine takeQ (some 58) (i := 3) (v := ?v304) rfl rfl (by kernel_rfl) (by kernel_rfl) (by kernel_rfl) (fun _ _ _ h => h) (Or.inl ⟨by rfl, ?h304⟩) hS0 ?r304
      case h304 => (intro w hw; obtain ⟨q0, q1, q2, q3, q4⟩ := hw; go_simp; try (with_reducible rfl))
      try simp only [Act.put, zA, zB, zC]
      refine wpAnyH_ready (rs := [4]) (by kernel_rfl) (by simp) ?_
      refine AllReadyH.cons rfl ?_ AllReadyH.nil
      intro KK hKK
      go_simp
      refine hKK.out _ _ hS0 (fun _ => ?_)
      clear hKK KK
      refine takeQ (some 60) (i := 5) (v := ?v305) rfl rfl (by kernel_rfl) (by kernel_rfl) (by kernel_rfl) (fun _ _ _ h => h) (Or.inl ⟨by rfl, ?h305⟩) hS0 ?r305
      case h305 => (intro w hw; obtain ⟨q0, q1, q2, q3, q4⟩ := hw; go_simp; try (with_reducible rfl))
      try simp only [Act.put, zA, zB, zC]
      refine takeQ (some 61) (i := 6) (v := ?v306) rfl rfl (by kernel_rfl) (by kernel_rfl) (by kernel_rfl) (fun _ _ _ h => h) (Or.inl ⟨by rfl, ?h306⟩) hS0 ?r306
      case h306 => (intro w hw; obtain ⟨q0, q1, q2, q3, q4⟩ := hw; go_simp; try (with_reducible rfl))
      try simp only [Act.put, zA, zB, zC]
      refine takeQ (some 62) (i := 7) (v := ?v307) rfl rfl (by kernel_rfl) (by kernel_rfl) (by kernel_rfl) (fun _ _ _ h => h) (Or.inl ⟨by rfl, ?h307⟩) hS0 ?r307
      case h307 => (intro w hw; obtain ⟨q0, q1, q2, q3, q4⟩ := hw; go_simp; try (with_reducible rfl))
      try simp only [Act.put, zA, zB, zC]
      refine takeQ (some 63) (i := 8) (v := ?v308) rfl rfl (by kernel_rfl) (by kernel_rfl) (by kernel_rfl) (fun _ _ _ h => h) (Or.inl ⟨by rfl, ?h308⟩) hS0 ?r308
      case h308 => (intro w hw; obtain ⟨q0, q1, q2, q3, q4⟩ := hw; go_simp; try (with_reducible rfl))
      try simp only [Act.put, zA, zB, zC]
      refine wpAnyH_ready (rs := [9]) (by kernel_rfl) (by simp) ?_
      refine AllReadyH.cons rfl ?_ AllReadyH.nil
      intro KK hKK
      go_simp
      refine (CK.out _ kd).mono ?_
      rintro e wx ⟨rfl, hbx⟩
      show KK _ _
      have kk := below_then kd hbx
      have hY := hX.below kk
      have hf := hY.o.free (i := 196) (by omega)
      have hc := hY.o.cS
      refine hKK.out _ _ hY.s (fun _ => ?_)
      clear hKK KK
      refine takeQ (some 65) (i := 10) (v := ?v309) rfl rfl (by kernel_rfl) (by kernel_rfl) (by kernel_rfl) (fun _ _ _ h => h) (Or.inl ⟨by rfl, ?h309⟩) hY.s ?r309
      case h309 => (intro w hw; obtain ⟨q0, q1, q2, q3, q4⟩ := hw; go_simp; try (with_reducible rfl))
      try simp only [Act.put, zA, zB, zC]
      refine takeQ (some 66) (i := 11) (v := ?v310) rfl rfl (by kernel_rfl) (by kernel_rfl) (by kernel_rfl) (fun _ _ _ h => h) (Or.inl ⟨by rfl, ?h310⟩) hY.s ?r310
      case h310 => (intro w hw; obtain ⟨q0, q1, q2, q3, q4⟩ := hw; go_simp; try (with_reducible rfl))
      try simp only [Act.put, zA, zB, zC]
      refine takeQ (some 67) (i := 12) (v := ?v311) rfl rfl (by kernel_rfl) (by kernel_rfl) (by kernel_rfl) (fun _ _ _ h => h) (Or.inl ⟨by rfl, ?h311⟩) hY.s ?r311
      case h311 => (intro w hw; obtain ⟨q0, q1, q2, q3, q4⟩ := hw; go_simp; try (with_reducible rfl))
      try simp only [Act.put, zA, zB, zC]
      refine wpAnyH_ready (rs := [13]) (by kernel_rfl) (by simp) ?_
      refine AllReadyH.cons rfl ?_ AllReadyH.nil
      intro KK hKK
      go_simp
      have hZ := hY.setS so
      refine hKK.out _ _ hZ.s (fun _ => ?_)
      clear hKK KK
      refine wpAnyH_done (by kernel_rfl) ?_ _
      clear hX hY CK kd hc hf hS0 kk hbx
      go_wp2_with fail
      go_roundw
      case rel => exact ⟨k + 1, _, _, _, _, _, by omega, by go_num, HK1.out.1, HK1.out.2.1, HK1.out.2.2, hZ.o, hZ.s.1, hZ.r, hZ.b, hZ.z⟩
      case measure => simp [intOf]; omega
  ·have hkl : k = h.length := by omega
   subst hkl
   have hA4 := (hb.cell (p := ⟨w.heap.size, 0, none⟩) hlt).trans hA2
   have hbw := below_then hb4 hb
   have hX : OfT w2 w.heap.size (.slice ao h.length cap) h.length noR noR noR (.map none) vk vr sd K R wr := ⟨hO, ⟨hC, hA4⟩, hF, hb, hlt⟩
   have hKl : K.length ≤ 64 := by have := congrArg List.length HK.out.1; simp [keysTo] at this; omega
   obtain ⟨aK, cK, rfl⟩ := owns_form hX.r.kr
   obtain ⟨aR, cR, rfl⟩ := owns_form hX.r.rr
   have HKE : Hid (∀ p ∈ K, p.2.length ≤ 64 ∧ ∀ x ∈ p.2, InI x) := hid (fun p hp => by
    have hm : p.2 ∈ keysTo h h.length := by rw [← HK.out.1]; exact List.mem_map.2 ⟨p, hp, rfl⟩
    unfold keysTo at hm
    obtain ⟨i, hi, he⟩ := List.mem_map.1 hm
    have hil := List.mem_range.1 hi
    rw [← he]
    unfold keysOf
    refine ⟨by rw [List.length_map]; exact upTo_len _ 64, fun x hx => ?_⟩
    obtain ⟨q, hq, rfl⟩ := List.mem_map.1 hx
    have hq2 := lastW_key ((((refWrites_rise (by rw [opsAt_eq hil]; exact HKS.out _ (List.getElem_mem hil))).2 q).1 hq).1)
    exact inI_of (((HOK.out _ (List.getElem_mem hil)).2 q (by rw [← opsAt_eq hil]; exact hq2.2.2)).1))
   have kd := (Below.refl wr.heap.size wr).drew
   have CWR : Hid (∀ wx, Below wr.heap.size wr wx → Calls Tryz.prog 56 #[.slice aK K.length cK] wx fun e w' => ∃ b n c, e = .returned (.map (some b)) ∧ wx.heap.size ≤ b ∧ MapI eS Tryz.prog 3 w' b n (wrsTo K K.length) c ∧ AllSet (wrsTo K K.length) ∧ Below wx.heap.size wx w') := hid (fun wx hx => owriters_any _ K wx ((hX.r.below hx).rws) (by omega) (fun p hp => by have := (HKE.out p hp).1; omega) (fun p hp => (HKE.out p hp).2))
   have hmf : ∀ (fn : Fn) (first cap : Array Value) (w : World), (Instr.makeFunc fn first cap).run Tryz.prog w = .ok (.func fn first cap) w := fun _ _ _ _ => rfl
   clear hO hC hF hb hA4 hbw
   go_wp2_with fail
   refine wp_region_held_drew (S := SA (w2.heap.size + 1) w2.heap.size w.heap.size (.slice ao h.length cap)) (by kernel_rfl) hX.drew.s (fun hS0 => ?_)
   have hc0 := hX.o.cK
   refine takeQ (some 69) (i := 0) (v := ?v401) rfl rfl (by kernel_rfl) (by kernel_rfl) (by kernel_rfl) (fun _ _ _ h => h) (Or.inl ⟨by rfl, ?h401⟩) hS0 ?r401
   case h401 => (intro w hw; obtain ⟨q0, q1⟩ := hw; go_simp; try (with_reducible rfl))
   try simp only [Act.put, zA, zB, zC]
   refine takeQ (some 70) (i := 1) (v := ?v402) rfl rfl (by kernel_rfl) (by kernel_rfl) (by kernel_rfl) (fun _ _ _ h => h) (Or.inl ⟨by rfl, ?h402⟩) hS0 ?r402
   case h402 => (intro w hw; obtain ⟨q0, q1⟩ := hw; go_simp; try (with_reducible rfl))
   try simp only [Act.put, zA, zB, zC]
   refine takeQ (some 71) (i := 2) (v := ?v403) rfl rfl (by kernel_rfl) (by kernel_rfl) (by kernel_rfl) (fun _ _ _ h => h) (Or.inl ⟨by rfl, ?h403⟩) hS0 ?r403
   case h403 => (intro w hw; obtain ⟨q0, q1⟩ := hw; go_simp; try (with_reducible rfl))
   try simp only [Act.put, zA, zB, zC]
   refine takeQ (some 72) (i := 3) (v := ?v404) rfl rfl (by kernel_rfl) (by kernel_rfl) (by kernel_rfl) (fun _ _ _ h => h) (Or.inl ⟨by rfl, ?h404⟩) hS0 ?r404
   case h404 => (intro w hw; obtain ⟨q0, q1⟩ := hw; go_simp; try (with_reducible rfl))
   try simp only [Act.put, zA, zB, zC]
   refine wpAnyH_ready (rs := [4]) (by kernel_rfl) (by simp) ?_
   refine AllReadyH.cons rfl ?_ AllReadyH.nil
   intro KK hKK
   go_simp
   refine hKK.out _ _ hS0 (fun _ => ?_)
   clear hKK KK
   refine wpAnyH_ready (rs := [5]) (by kernel_rfl) (by simp) ?_
   refine AllReadyH.cons rfl ?_ AllReadyH.nil
   intro KK hKK
   go_simp
   refine (CWR.out _ kd).mono ?_
   rintro e wx ⟨bw, nw, cw, rfl, hbw, hMw, hAw, hbx⟩
   show KK _ _
   have hY := hX.below (below_then kd hbx)
   have hbB : w2.heap.size < bw := by have h1 := hX.b.size; have h2 := hX.o.lt; have h3 := kd.size; omega
   have hf := hY.o.free (i := 193) (by omega)
   have hc := hY.o.cM
   refine hKK.out _ _ hY.s (fun _ => ?_)
   clear hKK KK
   refine takeQ (some 75) (i := 6) (v := ?v405) rfl rfl (by kernel_rfl) (by kernel_rfl) (by kernel_rfl) (fun _ _ _ h => h) (Or.inl ⟨by rfl, ?h405⟩) hY.s ?r405
   case h405 => (intro w hw; obtain ⟨q0, q1⟩ := hw; go_simp; try (with_reducible rfl))
   try simp only [Act.put, zA, zB, zC]
   refine takeQ (some 76) (i := 7) (v := ?v406) rfl rfl (by kernel_rfl) (by kernel_rfl) (by kernel_rfl) (fun _ _ _ h => h) (Or.inl ⟨by rfl, ?h406⟩) hY.s ?r406
   case h406 => (intro w hw; obtain ⟨q0, q1⟩ := hw; go_simp; try (with_reducible rfl))
   try simp only [Act.put, zA, zB, zC]
   refine wpAnyH_ready (rs := [8]) (by kernel_rfl) (by simp) ?_
   refine AllReadyH.cons rfl ?_ AllReadyH.nil
   intro KK hKK
   go_simp
   have hX13 := hY.setM (.map (some bw))
   have hM13 := hMw.cell (a := ⟨w2.heap.size, 193, none⟩) (by simp; omega) (.map (some bw))
   refine hKK.out _ _ hX13.s (fun _ => ?_)
   clear hKK KK
   refine wpAnyH_done (by kernel_rfl) ?_ _
   clear hX hY kd CWR hc hf hc0 hS0 hMw
   generalize wx.setCell ⟨w2.heap.size, 193, none⟩ (.map (some bw)) = w3 at *
   have hX := hX13
   have hM3 := hM13
   clear hX13 hM13
   have kd := (Below.refl w3.heap.size w3).drew
   have CP : Hid (∀ wx, Below w3.heap.size w3 wx → Calls Tryz.prog 57 #[.int .i64 h.length, .func (.func 58) #[] #[.pointer (some ⟨w.heap.size, 0, none⟩)]] wx fun e w' => e = .returned (.agg (rowsA (sesM h))) ∧ Below wx.heap.size wx w') := hid (fun wx hx => pairs_any (sesP h) h.length (by omega) _ _ wx enters_ses (fun a b wy ha hb hy => ses_calls _ h _ a b wy ((hX.below (below_then hx hy)).s.2) (HT.out _ (below_then hb4 (hX.below (below_then hx hy)).b)) ha hb))
   go_wp2_with fail
   refine wp_region_held_drew (S := SA (w2.heap.size + 1) w2.heap.size w.heap.size (.slice ao h.length cap)) (by kernel_rfl) hX.drew.s (fun hS0 => ?_)
   refine takeQ (some 77) (i := 0) (v := ?v501) rfl rfl (by kernel_rfl) (by kernel_rfl) (by kernel_rfl) (fun _ _ _ h => h) (Or.inl ⟨by rfl, ?h501⟩) hS0 ?r501
   case h501 => (intro w hw; obtain ⟨q0, q1⟩ := hw; go_simp; try (with_reducible rfl))
   try simp only [Act.put, zA, zB, zC]
   refine takeQ (some 78) (i := 1) (v := ?v502) rfl rfl (by kernel_rfl) (by kernel_rfl) (by kernel_rfl) (fun _ _ _ h => h) (Or.inl ⟨by rfl, ?h502⟩) hS0 ?r502
   case h502 => (intro w hw; obtain ⟨q0, q1⟩ := hw; go_simp; try (with_reducible rfl))
   try simp only [Act.put, zA, zB, zC]
   refine takeQ (some 79) (i := 2) (v := ?v503) rfl rfl (by kernel_rfl) (by kernel_rfl) (by kernel_rfl) (fun _ _ _ h => h) (Or.inl ⟨by rfl, ?h503⟩) hS0 ?r503
   case h503 => (intro w hw; obtain ⟨q0, q1⟩ := hw; go_simp; try (with_reducible rfl))
   try simp only [Act.put, zA, zB, zC]
   refine takeQ (some 80) (i := 3) (v := ?v504) rfl rfl (by kernel_rfl) (by kernel_rfl) (by kernel_rfl) (fun _ _ _ h => h) (Or.inl ⟨by rfl, ?h504⟩) hS0 ?r504
   case h504 => (intro w hw; obtain ⟨q0, q1⟩ := hw; go_simp; try (with_reducible rfl))
   try simp only [Act.put, zA, zB, zC]
   refine wpAnyH_ready (rs := [4]) (by kernel_rfl) (by simp) ?_
   refine AllReadyH.cons rfl ?_ AllReadyH.nil
   intro KK hKK
   go_simp
   refine (CP.out _ kd).mono ?_
   rintro e wx ⟨rfl, hbx⟩
   show KK _ _
   have kk := below_then kd hbx
   have hY := hX.below kk
   have hMY := hM3.below kk
   refine hKK.out _ _ hY.s (fun _ => ?_)
   clear hKK KK
   refine takeQ (some 82) (i := 5) (v := ?v505) rfl rfl (by kernel_rfl) (by kernel_rfl) (by kernel_rfl) (fun _ _ _ h => h) (Or.inl ⟨by rfl, ?h505⟩) hY.s ?r505
   case h505 => (intro w hw; obtain ⟨q0, q1⟩ := hw; go_simp; try (with_reducible rfl))
   try simp only [Act.put, List.setIfInBounds_toArray]
   refine takeQ (some 83) (i := 6) (v := ?v506) rfl rfl (by kernel_rfl) (by kernel_rfl) (by kernel_rfl) (fun _ _ _ h => h) (Or.inl ⟨by rfl, ?h506⟩) hY.s ?r506
   case h506 => (intro w hw; obtain ⟨q0, q1⟩ := hw; go_simp; try (with_reducible rfl))
   try simp only [Act.put]
   refine wpAnyH_ready (rs := [7]) (by kernel_rfl) (by simp) ?_
   refine AllReadyH.cons rfl ?_ AllReadyH.nil
   intro KK hKK
   rw [if_pos (by rfl)]
   refine wp_store_mid 108 (.tmp 83) (.tmp 81) rfl w2.heap.size 1 (rowsA (sesM h)) rfl rfl (by rw [rowsA_size]; exact hY.o.there 1 (by omega)) (infoRel' _) (rows_one _) ?_
   have hXn := hY.setS (sesM h)
   have hMn := MapI.cells (g := w2.heap.size) (by omega) (rowsA (sesM h)).toList 1 _ hMY
   refine hKK.out _ _ hXn.s (fun _ => ?_)
   clear hKK KK
   refine wpAnyH_done (by kernel_rfl) ?_ _
   clear hX hM3 hY kd CP hS0 hMY kk hbx
   generalize wx.setCells w2.heap.size 1 (rowsA (sesM h)).toList = w3 at *
   have hX := hXn
   have hM3 := hMn
   clear hXn hMn
   have kd := (Below.refl w3.heap.size w3).drew
   have CP : Hid (∀ wx, Below w3.heap.size w3 wx → Calls Tryz.prog 57 #[.int .i64 h.length, .func (.func 59) #[] #[.pointer (some ⟨w.heap.size, 0, none⟩)]] wx fun e w' => e = .returned (.agg (rowsA (timM h))) ∧ Below wx.heap.size wx w') := hid (fun wx hx => pairs_any (timP h) h.length (by omega) _ _ wx enters_tim (fun a b wy ha hb hy => tim_calls _ h _ a b wy ((hX.below (below_then hx hy)).s.2) (HT.out _ (below_then hb4 (hX.below (below_then hx hy)).b)) ha hb))
   go_wp2_with fail
   refine wp_region_held_drew (S := SA (w2.heap.size + 1) w2.heap.size w.heap.size (.slice ao h.length cap)) (by kernel_rfl) hX.drew.s (fun hS0 => ?_)
   refine takeQ (some 84) (i := 0) (v := ?v601) rfl rfl (by kernel_rfl) (by kernel_rfl) (by kernel_rfl) (fun _ _ _ h => h) (Or.inl ⟨by rfl, ?h601⟩) hS0 ?r601
   case h601 => (intro w hw; obtain ⟨q0, q1⟩ := hw; go_simp; try (with_reducible rfl))
   try simp only [Act.put, zA, zB, zC]
   refine takeQ (some 85) (i := 1) (v := ?v602) rfl rfl (by kernel_rfl) (by kernel_rfl) (by kernel_rfl) (fun _ _ _ h => h) (Or.inl ⟨by rfl, ?h602⟩) hS0 ?r602
   case h602 => (intro w hw; obtain ⟨q0, q1⟩ := hw; go_simp; try (with_reducible rfl))
   try simp only [Act.put]
   refine takeQ (some 86) (i := 2) (v := ?v603) rfl rfl (by kernel_rfl) (by kernel_rfl) (by kernel_rfl) (fun _ _ _ h => h) (Or.inl ⟨by rfl, ?h603⟩) hS0 ?r603
   case h603 => (intro w hw; obtain ⟨q0, q1⟩ := hw; go_simp; try (with_reducible rfl))
   try simp only [Act.put]
   refine takeQ (some 87) (i := 3) (v := ?v604) rfl rfl (by kernel_rfl) (by kernel_rfl) (by kernel_rfl) (fun _ _ _ h => h) (Or.inl ⟨by rfl, ?h604⟩) hS0 ?r604
   case h604 => (intro w hw; obtain ⟨q0, q1⟩ := hw; go_simp; try (with_reducible rfl))
   try simp only [Act.put]
   refine wpAnyH_ready (rs := [4]) (by kernel_rfl) (by simp) ?_
   refine AllReadyH.cons rfl ?_ AllReadyH.nil
   intro KK hKK
   go_simp
   refine (CP.out _ kd).mono ?_
   rintro e wx ⟨rfl, hbx⟩
   show KK _ _
   have kk := below_then kd hbx
   have hY := hX.below kk
   have hMY := hM3.below kk
   refine hKK.out _ _ hY.s (fun _ => ?_)
   clear hKK KK
   refine takeQ (some 89) (i := 5) (v := ?v605) rfl rfl (by kernel_rfl) (by kernel_rfl) (by kernel_rfl) (fun _ _ _ h => h) (Or.inl ⟨by rfl, ?h605⟩) hY.s ?r605
   case h605 => (intro w hw; obtain ⟨q0, q1⟩ := hw; go_simp; try (with_reducible rfl))
   try simp only [Act.put, List.setIfInBounds_toArray]
   refine takeQ (some 90) (i := 6) (v := ?v606) rfl rfl (by kernel_rfl) (by kernel_rfl) (by kernel_rfl) (fun _ _ _ h => h) (Or.inl ⟨by rfl, ?h606⟩) hY.s ?r606
   case h606 => (intro w hw; obtain ⟨q0, q1⟩ := hw; go_simp; try (with_reducible rfl))
   try simp only [Act.put]
   refine wpAnyH_ready (rs := [7]) (by kernel_rfl) (by simp) ?_
   refine AllReadyH.cons rfl ?_ AllReadyH.nil
   intro KK hKK
   rw [if_pos (by rfl)]
   refine wp_store_mid 108 (.tmp 90) (.tmp 88) rfl w2.heap.size 65 (rowsA (timM h)) rfl rfl (by rw [rowsA_size]; exact hY.o.there 65 (by omega)) (infoRel' _) (rows_one _) ?_
   have hXn := hY.setT (timM h)
   have hMn := MapI.cells (g := w2.heap.size) (by omega) (rowsA (timM h)).toList 65 _ hMY
   refine hKK.out _ _ hXn.s (fun _ => ?_)
   clear hKK KK
   refine wpAnyH_done (by kernel_rfl) ?_ _
   clear hX hM3 hY kd CP hS0 hMY kk hbx
   generalize wx.setCells w2.heap.size 65 (rowsA (timM h)).toList = w3 at *
   have hX := hXn
   have hM3 := hMn
   clear hXn hMn
   have kd := (Below.refl w3.heap.size w3).drew
   have CP : Hid (∀ wx, Below w3.heap.size w3 wx → Calls Tryz.prog 57 #[.int .i64 h.length, .func (.func 60) #[] #[.pointer (some ⟨w2.heap.size + 1, 0, none⟩)]] wx fun e w' => e = .returned (.agg (rowsA (froM h))) ∧ Below wx.heap.size wx w') := hid (fun wx hx => pairs_any (froP h) h.length (by omega) _ _ wx enters_fro (fun a b wy ha hb hy => fro_calls _ h R _ _ a b wy ((hX.below (below_then hx hy)).s.1) ((hX.below (below_then hx hy)).o.cR) ((hX.below (below_then hx hy)).r.frws) HK.out.2.1 hb))
   go_wp2_with fail
   refine wp_region_held_drew (S := SA (w2.heap.size + 1) w2.heap.size w.heap.size (.slice ao h.length cap)) (by kernel_rfl) hX.drew.s (fun hS0 => ?_)
   refine takeQ (some 91) (i := 0) (v := ?v701) rfl rfl (by kernel_rfl) (by kernel_rfl) (by kernel_rfl) (fun _ _ _ h => h) (Or.inl ⟨by rfl, ?h701⟩) hS0 ?r701
   case h701 => (intro w hw; obtain ⟨q0, q1⟩ := hw; go_simp; try (with_reducible rfl))
   try simp only [Act.put, zA, zB, zC]
   refine takeQ (some 92) (i := 1) (v := ?v702) rfl rfl (by kernel_rfl) (by kernel_rfl) (by kernel_rfl) (fun _ _ _ h => h) (Or.inl ⟨by rfl, ?h702⟩) hS0 ?r702
   case h702 => (intro w hw; obtain ⟨q0, q1⟩ := hw; go_simp; try (with_reducible rfl))
   try simp only [Act.put]
   refine takeQ (some 93) (i := 2) (v := ?v703) rfl rfl (by kernel_rfl) (by kernel_rfl) (by kernel_rfl) (fun _ _ _ h => h) (Or.inl ⟨by rfl, ?h703⟩) hS0 ?r703
   case h703 => (intro w hw; obtain ⟨q0, q1⟩ := hw; go_simp; try (with_reducible rfl))
   try simp only [Act.put]
   refine takeQ (some 94) (i := 3) (v := ?v704) rfl rfl (by kernel_rfl) (by kernel_rfl) (by kernel_rfl) (fun _ _ _ h => h) (Or.inl ⟨by rfl, ?h704⟩) hS0 ?r704
   case h704 => (intro w hw; obtain ⟨q0, q1⟩ := hw; go_simp; try (with_reducible rfl))
   try simp only [Act.put]
   refine wpAnyH_ready (rs := [4]) (by kernel_rfl) (by simp) ?_
   refine AllReadyH.cons rfl ?_ AllReadyH.nil
   intro KK hKK
   go_simp
   refine (CP.out _ kd).mono ?_
   rintro e wx ⟨rfl, hbx⟩
   show KK _ _
   have kk := below_then kd hbx
   have hY := hX.below kk
   have hMY := hM3.below kk
   refine hKK.out _ _ hY.s (fun _ => ?_)
   clear hKK KK
   refine takeQ (some 96) (i := 5) (v := ?v705) rfl rfl (by kernel_rfl) (by kernel_rfl) (by kernel_rfl) (fun _ _ _ h => h) (Or.inl ⟨by rfl, ?h705⟩) hY.s ?r705
   case h705 => (intro w hw; obtain ⟨q0, q1⟩ := hw; go_simp; try (with_reducible rfl))
   try simp only [Act.put, List.setIfInBounds_toArray]
   refine takeQ (some 97) (i := 6) (v := ?v706) rfl rfl (by kernel_rfl) (by kernel_rfl) (by kernel_rfl) (fun _ _ _ h => h) (Or.inl ⟨by rfl, ?h706⟩) hY.s ?r706
   case h706 => (intro w hw; obtain ⟨q0, q1⟩ := hw; go_simp; try (with_reducible rfl))
   try simp only [Act.put]
   refine wpAnyH_ready (rs := [7]) (by kernel_rfl) (by simp) ?_
   refine AllReadyH.cons rfl ?_ AllReadyH.nil
   intro KK hKK
   rw [if_pos (by rfl)]
   refine wp_store_mid 108 (.tmp 97) (.tmp 95) rfl w2.heap.size 129 (rowsA (froM h)) rfl rfl (by rw [rowsA_size]; exact hY.o.there 129 (by omega)) (infoRel' _) (rows_one _) ?_
   have hXn := hY.setF (froM h)
   have hMn := MapI.cells (g := w2.heap.size) (by omega) (rowsA (froM h)).toList 129 _ hMY
   refine hKK.out _ _ hXn.s (fun _ => ?_)
   clear hKK KK
   refine wpAnyH_done (by kernel_rfl) ?_ _
   clear hX hM3 hY kd CP hS0 hMY kk hbx
   generalize wx.setCells w2.heap.size 129 (rowsA (froM h)).toList = w3 at *
   have hq := hXn.s.1
   go_wp2_with fail
   go_ret2
   exact ⟨⟨_, rfl, by have := hb4.size; omega, _, _, _, _, _, K, R, HK.out.2.2 ▸ hXn.o, hMn, hAw, hXn.r, HK.out.1, HK.out.2.1⟩, below_then hb4 hXn.b⟩
end

section
open Go.RowKit
def decW (h : List TxnV) (lv : Int) : List Int × List (List Int) × Bool := match (decN h lv).1 with
 | none => ([], [], false)
 | some r => (r.reverse.map Int.ofNat, seesL (seesR h (clI ((askN lv : Nat) : Int)) r) h.length, true)
theorem decW_yes (h : List TxnV) (lv : Int) : (decW h lv).2.2 = (decN h lv).1.isSome := by
 unfold decW
 cases (decN h lv).1 <;> rfl
section
variable {w0 w : World} {B b : Nat} {h : List TxnV}
theorem sdecide_no (lv : Int) (T F U : Nat) (hO : OrdIs w0 B b h) (ht : Tab w0) (hK : Kinds w0) (hc : checkI h = 0) (hb : Below w0.heap.size w0 w) (hT : w0.heap.size ≤ T) (hm : MtAt w T F U)
  (hM : (decN h lv).2.2 + 2 ≤ 1099511627776) (hl : ¬ Lasts F U (decN h lv).2.2) :
  Calls Tryz.prog 96 #[.pointer (some ⟨B, 0, none⟩), .int .i64 lv, .pointer (some ⟨T, 0, none⟩)] w fun e w' =>
   e = .returned (.tuple #[.agg #[.slice none 0 0, .slice none 0 0], .bool false, .int .i64 4]) ∧ MtAt w' T F F ∧ w.grownBy w' (some T) ∧ Below w0.heap.size w0 w' := by
 refine (sdecide_any lv T F U hO ht hK hc hb hT hm hM (fun e => (hl (.inl e)).elim)).mono ?_
 rintro e w' ⟨hg, hr⟩
 have hb' : Below w0.heap.size w0 w' := hb.grown hg hb.size (fun j hj => by cases hj; exact hT)
 rcases hr with ⟨hy, _⟩ | ⟨_, hm', rfl⟩
 ·exact (hl hy).elim
 ·exact ⟨rfl, hm', hg, hb'⟩
end
end

section
open Go.RowKit
theorem tr_le : ∀ k, k ≤ 7 → trN k ≤ 20000 := by decide +kernel
end

section
open Go.RowKit
theorem txns_none (w : World) : Txns w (.slice none 0 0) [] := ⟨⟨rfl, none, 0, rfl, ⟨Nat.le_refl _, Nat.zero_le _⟩, fun _ => ⟨rfl, rfl⟩, fun h => absurd h (by simp)⟩, fun t ht => by cases ht⟩
theorem lone_any (w : World) : Calls Tryz.prog 33 #[] w fun e w' => e = .returned (.bool true) ∧ Below w.heap.size w w' := by
 have CO := hid (of_done (.slice none 0 0) [] w (txns_none w) (fun t ht => by cases ht) (fun t ht => by cases ht) rfl)
 go_enter Tryz.func33, Tryz.ntmps33
 go_wp2_with fail
 refine (CO.out).mono ?_
 rintro e w1 ⟨⟨B, rfl, hB, hO⟩, hb⟩
 have n0 : w1.cell? ⟨B, 196, none⟩ = some (.bool true) := hO.blk.cS
 have n1 : w1.cell? ⟨B, 0, none⟩ = some (.int .i64 0) := hO.blk.cN
 clear CO hO
 go_wp2_with fail
 go_ret
 exact ⟨rfl, hb⟩
end

section
open Go.RowKit
theorem decW_some {h : List TxnV} {lv : Int} (hc : checkI h = 0) : (decW h lv).2.2 = ((ordersN h.length).find? (keptL h lv)).isSome := by
 rw [decW_yes, ← dec_first hc, Option.isSome_map]
theorem decW_none (h : List TxnV) (lv : Int) : (decW h lv).2.2 = false → (decW h lv).1 = [] ∧ (decW h lv).2.1 = [] := by
 unfold decW
 cases (decN h lv).1 with
 | none => intro _; exact ⟨rfl, rfl⟩
 | some r => intro e; cases e
end

section
open Go.RowKit
structure IsoT (n : Nat) (π ρ : Nat → Nat) : Prop where
 lt : ∀ j, j < n → π j < n
 tl : ∀ j, j < n → ρ j < n
 pr : ∀ j, j < n → π (ρ j) = j
 rp : ∀ j, j < n → ρ (π j) = j
def IsoS (n : Nat) (π : Nat → Nat) (s t : Nat) : Prop := (∀ j, s.testBit j = true → j < n) ∧ (∀ j, t.testBit j = true → j < n) ∧ ∀ j, j < n → s.testBit j = t.testBit (π j)
section
variable {n : Nat} {π ρ : Nat → Nat}
theorem IsoT.inj (q : IsoT n π ρ) {i j : Nat} (hi : i < n) (hj : j < n) (e : π i = π j) : i = j := by rw [← q.rp i hi, ← q.rp j hj, e]
theorem IsoT.symm (q : IsoT n π ρ) : IsoT n ρ π := ⟨q.tl, q.lt, q.rp, q.pr⟩
theorem IsoS.zero : IsoS n π 0 0 := ⟨fun j h => by simp at h, fun j h => by simp at h, fun j _ => by simp⟩
theorem IsoS.or {s t s' t' : Nat} (a : IsoS n π s t) (b : IsoS n π s' t') : IsoS n π (s ||| s') (t ||| t') := by
 refine ⟨fun j h => ?_, fun j h => ?_, fun j hj => ?_⟩
 ·rw [Nat.testBit_or, Bool.or_eq_true] at h; exact h.elim (a.1 j) (b.1 j)
 ·rw [Nat.testBit_or, Bool.or_eq_true] at h; exact h.elim (a.2.1 j) (b.2.1 j)
 ·rw [Nat.testBit_or, Nat.testBit_or, a.2.2 j hj, b.2.2 j hj]
theorem IsoS.and {s t s' t' : Nat} (a : IsoS n π s t) (b : IsoS n π s' t') : IsoS n π (s &&& s') (t &&& t') := by
 refine ⟨fun j h => ?_, fun j h => ?_, fun j hj => ?_⟩
 ·rw [Nat.testBit_and, Bool.and_eq_true] at h; exact a.1 j h.1
 ·rw [Nat.testBit_and, Bool.and_eq_true] at h; exact a.2.1 j h.1
 ·rw [Nat.testBit_and, Nat.testBit_and, a.2.2 j hj, b.2.2 j hj]
theorem IsoS.sub {s t s' t' : Nat} (q : IsoT n π ρ) (a : IsoS n π s t) (b : IsoS n π s' t') : (∀ k, s.testBit k = true → s'.testBit k = true) ↔ (∀ k, t.testBit k = true → t'.testBit k = true) := by
 constructor
 ·intro h k hk
  have hkn := a.2.1 k hk
  have := h (ρ k) (by rw [a.2.2 _ (q.tl k hkn), q.pr k hkn]; exact hk)
  rw [b.2.2 _ (q.tl k hkn), q.pr k hkn] at this; exact this
 ·intro h k hk
  have hkn := a.1 k hk
  rw [b.2.2 k hkn]
  exact h (π k) (by rw [← a.2.2 k hkn]; exact hk)
theorem IsoS.none {s t : Nat} (q : IsoT n π ρ) (a : IsoS n π s t) : s = 0 ↔ t = 0 := by
 have h := IsoS.sub q a (IsoS.zero (n := n) (π := π))
 have z : ∀ s : Nat, s = 0 ↔ ∀ k, s.testBit k = true → (0 : Nat).testBit k = true := fun s => by
  constructor
  ·rintro rfl k hk; exact hk
  ·intro hk
   apply Nat.eq_of_testBit_eq
   intro i
   cases e : s.testBit i with
   | false => simp
   | true => exact (hk i e).symm
 rw [z s, z t, h]
theorem IsoS.join {s t : Nat} {F G : Nat → Nat} (q : IsoT n π ρ) (hn : n ≤ 64) (a : IsoS n π s t) (hF : ∀ k, k < n → IsoS n π (F k) (G (π k))) : IsoS n π (joinN F s) (joinN G t) := by
 refine ⟨fun j h => ?_, fun j h => ?_, fun j hj => ?_⟩
 ·obtain ⟨k, _, h1, h2⟩ := joinN_iff.1 h
  exact (hF k (a.1 k h1)).1 j h2
 ·obtain ⟨k, _, h1, h2⟩ := joinN_iff.1 h
  have hk := a.2.1 k h1
  rw [← q.pr k hk] at h2
  exact (hF (ρ k) (q.tl k hk)).2.1 j h2
 ·rw [Bool.eq_iff_iff, joinN_iff, joinN_iff]
  constructor
  ·rintro ⟨k, _, h1, h2⟩
   have hk := a.1 k h1
   exact ⟨π k, by have := q.lt k hk; omega, by rw [← a.2.2 k hk]; exact h1, by rw [← (hF k hk).2.2 j hj]; exact h2⟩
  ·rintro ⟨k, _, h1, h2⟩
   have hk := a.2.1 k h1
   have hr := q.tl k hk
   refine ⟨ρ k, by omega, by rw [a.2.2 _ hr, q.pr k hk]; exact h1, ?_⟩
   rw [(hF (ρ k) hr).2.2 j hj, q.pr k hk]; exact h2
theorem IsoS.wld {C b pl rv b' pl' rv' : Nat} {sF aF sG aG : Nat → Nat} (q : IsoT n π ρ) (hn : n ≤ 64) (hb : IsoS n π b b') (hp : IsoS n π pl pl') (hr : IsoS n π rv rv') (hs : ∀ k, k < n → IsoS n π (sF k) (sG (π k))) (ha : ∀ k, k < n → IsoS n π (aF k) (aG (π k))) : IsoS n π (wld4 b pl rv C sF aF) (wld4 b' pl' rv' C sG aG) := by
 have h1 : IsoS n π (wld1 b pl C) (wld1 b' pl' C) := by
  unfold wld1; split
  ·exact hb.or hp
  ·exact hb
 have h2 : IsoS n π (wld2 b pl rv C) (wld2 b' pl' rv' C) := by
  unfold wld2; split
  ·exact h1.or (hr.and hp)
  ·exact h1
 have h3 : IsoS n π (wld3 b pl rv C sF) (wld3 b' pl' rv' C sG) := by
  unfold wld3; split
  ·exact h2.or (h2.join q hn hs)
  ·exact h2
 unfold wld4; split
 ·exact h3.or (h3.join q hn ha)
 ·exact h3
theorem IsoS.row (q : IsoT n π ρ) (hn : n ≤ 64) {r : List Nat} (hr : ∀ i ∈ r, i < n) : IsoS n π (plS r) (plS (r.map π)) := by
 have h1 : ∀ i ∈ r, i < 64 := fun i hi => by have := hr i hi; omega
 have h2 : ∀ i ∈ r.map π, i < 64 := fun i hi => by
  obtain ⟨k, hk, rfl⟩ := List.mem_map.1 hi
  have := q.lt k (hr k hk); omega
 refine ⟨fun j h => ?_, fun j h => ?_, fun j hj => ?_⟩
 ·rw [plS_bit j r h1, decide_eq_true_eq] at h; exact hr j h
 ·rw [plS_bit j _ h2, decide_eq_true_eq] at h
  obtain ⟨k, hk, rfl⟩ := List.mem_map.1 h
  exact q.lt k (hr k hk)
 ·rw [plS_bit j r h1, plS_bit _ _ h2, Bool.eq_iff_iff, decide_eq_true_eq, decide_eq_true_eq, List.mem_map]
  exact ⟨fun h => ⟨j, h, rfl⟩, fun ⟨k, hk, e⟩ => by rw [← q.inj (hr k hk) hj e]; exact hk⟩
theorem IsoS.ahead (q : IsoT n π ρ) (hn : n ≤ 64) : ∀ {r : List Nat}, (∀ i ∈ r, i < n) → ∀ k, k < n → IsoS n π (aheadL r k) (aheadL (r.map π) (π k))
 | [], _, _, _ => IsoS.zero
 | i :: r, hr, k, hk => by
  have hi := hr i (List.mem_cons_self ..)
  have hr' : ∀ a ∈ r, a < n := fun a ha => hr a (List.mem_cons_of_mem _ ha)
  rw [List.map_cons]
  unfold aheadL
  by_cases e : k = i
  ·rw [if_pos e, if_pos (by rw [e])]; exact IsoS.row q hn hr'
  ·rw [if_neg e, if_neg (fun e2 => e (q.inj hk hi e2))]
   exact IsoS.ahead q hn hr' k hk
theorem IsoS.put {s t : Nat} (q : IsoT n π ρ) (hn : n ≤ 64) (a : IsoS n π s t) {k : Nat} (hk : k < n) : IsoS n π (withS s (k : Int)) (withS t ((π k : Nat) : Int)) := by
 have hp := q.lt k hk
 have e : ∀ (s j m : Nat), m < 64 → ((withS s (m : Int)).testBit j = true ↔ s.testBit j = true ∨ m = j) := fun s j m hm => by
  rw [testBit_withS, Bool.or_eq_true, Bool.and_eq_true, decide_eq_true_eq, decide_eq_true_eq, Int.toNat_natCast]
  exact or_congr Iff.rfl ⟨fun h => h.2, fun h => ⟨⟨by omega, by omega⟩, h⟩⟩
 refine ⟨fun j h => ?_, fun j h => ?_, fun j hj => ?_⟩
 ·rw [e _ _ _ (by omega)] at h
  rcases h with h | rfl
  ·exact a.1 j h
  ·exact hk
 ·rw [e _ _ _ (by omega)] at h
  rcases h with h | rfl
  ·exact a.2.1 j h
  ·exact hp
 ·rw [Bool.eq_iff_iff, e _ _ _ (by omega), e _ _ _ (by omega), a.2.2 j hj]
  exact or_congr Iff.rfl ⟨fun h => by rw [h], fun h => q.inj hk hj h⟩
end
structure IsoH (h x : List TxnV) (C : Nat) (π ρ : Nat → Nat) : Prop where
 len : x.length = h.length
 turn : IsoT h.length π ρ
 base : ∀ j, j < h.length → IsoS h.length π (baseN x C j) (baseN h C (π j))
 riv : ∀ j, j < h.length → IsoS h.length π (rivN x j) (rivN h (π j))
 reads : ∀ (j : Nat) (aF aG : Nat → Nat) (s t : Nat), j < h.length → IsoS h.length π s t → (∀ k, k < h.length → IsoS h.length π (aF k) (aG (π k))) → readsP x aF s j = readsP h aG t (π j)
 snd : soundTo x x.length = soundTo h h.length
section
variable {h x : List TxnV} {C : Nat} {π ρ : Nat → Nat}
theorem IsoH.see (q : IsoH h x C π ρ) (hn : h.length ≤ 64) : ∀ {r : List Nat}, (∀ i ∈ r, i < h.length) → ∀ k, k < h.length → IsoS h.length π (plSee x C r k) (plSee h C (r.map π) (π k))
 | [], _, _, _ => IsoS.zero
 | i :: r, hr, k, hk => by
  have hi := hr i (List.mem_cons_self ..)
  have hr' : ∀ a ∈ r, a < h.length := fun a ha => hr a (List.mem_cons_of_mem _ ha)
  rw [List.map_cons]
  unfold plSee
  by_cases e : k = i
  ·rw [if_pos e, if_pos (by rw [e])]
   exact IsoS.wld q.turn hn (q.base i hi) (IsoS.row q.turn hn hr') (q.riv i hi) (fun k hk => q.see hn hr' k hk) (fun k hk => IsoS.ahead q.turn hn hr' k hk)
  ·rw [if_neg e, if_neg (fun e2 => e (q.turn.inj hk hi e2))]
   exact q.see hn hr' k hk
theorem IsoH.next (q : IsoH h x C π ρ) (hn : h.length ≤ 64) {r : List Nat} (hr : ∀ i ∈ r, i < h.length) {i : Nat} (hi : i < h.length) : IsoS h.length π (nextN x C r i) (nextN h C (r.map π) (π i)) :=
 IsoS.wld q.turn hn (q.base i hi) (IsoS.row q.turn hn hr) (q.riv i hi) (fun k hk => q.see hn hr k hk) (fun k hk => IsoS.ahead q.turn hn hr k hk)
theorem IsoH.try (q : IsoH h x C π ρ) (hn : h.length ≤ 64) {r : List Nat} (hr : ∀ i ∈ r, i < h.length) {i : Nat} (hi : i < h.length) : tryP x C r i = tryP h C (r.map π) (π i) := by
 unfold tryP
 have e1 : decide (i ∈ r) = decide (π i ∈ r.map π) := by
  rw [Bool.eq_iff_iff, decide_eq_true_eq, decide_eq_true_eq, List.mem_map]
  exact ⟨fun h => ⟨i, h, rfl⟩, fun ⟨k, hk, e⟩ => by rw [← q.turn.inj (hr k hk) hi e]; exact hk⟩
 have e2 : inB (baseN x C i) (plS r) = inB (baseN h C (π i)) (plS (r.map π)) := by
  rw [Bool.eq_iff_iff, inB_bits (baseN_set ..), inB_bits (baseN_set ..)]
  exact IsoS.sub q.turn (q.base i hi) (IsoS.row q.turn hn hr)
 rw [q.len, decide_eq_true hi, decide_eq_true (q.turn.lt i hi), e1, e2, q.reads i (aheadL r) (aheadL (r.map π)) _ _ hi (q.next hn hr hi) (fun k hk => IsoS.ahead q.turn hn hr k hk)]
theorem IsoH.all (q : IsoH h x C π ρ) (hn : h.length ≤ 64) : ∀ (l r : List Nat), (∀ i ∈ r, i < h.length) → (∀ i ∈ l, i < h.length) → allT x C r l = allT h C (r.map π) (l.map π)
 | [], r, _, _ => by rw [List.map_nil]; unfold allT; rfl
 | i :: l, r, hr, hl => by
  have hi := hl i (List.mem_cons_self ..)
  rw [List.map_cons]
  unfold allT
  rw [q.try hn hr hi, IsoH.all q hn l (i :: r) (fun a ha => (List.mem_cons.1 ha).elim (fun e => e ▸ hi) (hr a)) (fun a ha => hl a (List.mem_cons_of_mem _ ha)), List.map_cons]
end
theorem exts_has {many : Nat} {x : List Nat} (hnd : x.Nodup) (hlt : ∀ i ∈ x, i < many) : ∀ (k : Nat) (r : List Nat), r <+: x → x.length = r.length + k → x ∈ exts many k r
 | 0, r, hp, hl => by
  have : r = x := hp.eq_of_length (by omega)
  subst this
  unfold exts; exact List.mem_singleton.2 rfl
 | k + 1, r, hp, hl => by
  obtain ⟨t, rfl⟩ := hp
  cases t with
  | nil => simp at hl
  | cons a t =>
   unfold exts
   rw [List.mem_flatMap]
   refine ⟨a, List.mem_range.2 (hlt a (by simp)), ?_⟩
   have ha : a ∉ r := fun h => (List.nodup_append.1 hnd).2.2 a h a (by simp) rfl
   rw [if_neg ha]
   exact exts_has hnd hlt k (r ++ [a]) ⟨t, by simp⟩ (by simp at hl ⊢; omega)
theorem orders_has {n : Nat} {x : List Nat} (hp : x.Perm (List.range n)) : x ∈ ordersN n :=
 exts_has (hp.nodup_iff.2 List.nodup_range) (fun i hi => List.mem_range.1 (hp.mem_iff.1 hi)) n [] ⟨x, rfl⟩ (by rw [hp.length_eq]; simp)
theorem dec_ex {h : List TxnV} {lv : Int} (hc : checkI h = 0) : (decW h lv).2.2 = true ↔ ∃ r : List Nat, r.Perm (List.range h.length) ∧ keptL h lv r = true := by
 rw [decW_some hc, List.find?_isSome]
 exact ⟨fun ⟨r, h1, h2⟩ => ⟨r, orders_perm h1, h2⟩, fun ⟨r, h1, h2⟩ => ⟨r, orders_has h1, h2⟩⟩
theorem turn_perm {n : Nat} {π ρ : Nat → Nat} (q : IsoT n π ρ) {r : List Nat} (hp : r.Perm (List.range n)) : (r.map π).Perm (List.range n) := by
 have hnd := hp.nodup_iff.2 List.nodup_range
 have hlt : ∀ i ∈ r, i < n := fun i hi => List.mem_range.1 (hp.mem_iff.1 hi)
 refine perm_range ?_ ?_ (by rw [List.length_map, hp.length_eq]; simp)
 ·rw [List.nodup_iff_pairwise_ne, List.pairwise_map]
  exact (List.nodup_iff_pairwise_ne.1 hnd).imp_of_mem fun ha hb hne e => hne (q.inj (hlt _ ha) (hlt _ hb) e)
 ·intro i hi
  obtain ⟨k, hk, rfl⟩ := List.mem_map.1 hi
  exact q.lt k (hlt k hk)
theorem IsoH.kept {h x : List TxnV} {lv : Int} {π ρ : Nat → Nat} (q : IsoH h x (clI ((askN lv : Nat) : Int)) π ρ) (hn : h.length ≤ 64) {r : List Nat} (hr : ∀ i ∈ r, i < h.length) : keptL x lv r = keptL h lv (r.map π) := by
 unfold keptL
 rw [q.snd, q.all hn r [] (fun i hi => by cases hi) hr, List.map_nil]
theorem IsoH.dec {h x : List TxnV} {lv : Int} {π ρ : Nat → Nat} (q : IsoH h x (clI ((askN lv : Nat) : Int)) π ρ) (hc : checkI h = 0) (hx : checkI x = 0) : (decW x lv).2.2 = (decW h lv).2.2 := by
 have hn := (check_zero hc).1
 rw [Bool.eq_iff_iff, dec_ex hx, dec_ex hc, q.len]
 constructor
 ·rintro ⟨r, hp, hk⟩
  have hlt : ∀ i ∈ r, i < h.length := fun i hi => List.mem_range.1 (hp.mem_iff.1 hi)
  exact ⟨r.map π, turn_perm q.turn hp, by rw [← q.kept hn hlt]; exact hk⟩
 ·rintro ⟨r, hp, hk⟩
  have hlt : ∀ i ∈ r, i < h.length := fun i hi => List.mem_range.1 (hp.mem_iff.1 hi)
  refine ⟨r.map ρ, turn_perm q.turn.symm hp, ?_⟩
  rw [q.kept hn (fun i hi => by obtain ⟨k, hk, rfl⟩ := List.mem_map.1 hi; exact q.turn.tl k (hlt k hk)), List.map_map]
  have e : r.map (π ∘ ρ) = r := by
   have : r.map (π ∘ ρ) = r.map id := List.map_congr_left fun i hi => q.turn.pr i (hlt i hi)
   rw [this, List.map_id]
  rw [e]; exact hk
end

section
open Go.RowKit
def renO (κ ν : Int → Int) (o : OpV) : OpV := ⟨o.wr, κ o.key, ν o.val⟩
def KeyIn (h : List TxnV) (k : Int) : Prop := ∃ t ∈ h, ∃ o ∈ t.l, o.key = k
def ValIn (h : List TxnV) (v : Int) : Prop := v = 0 ∨ ∃ t ∈ h, ∃ o ∈ t.l, o.val = v
theorem find_alike {α : Type} {p q : α → Bool} : ∀ (l : List α), (∀ a ∈ l, p a = q a) → l.find? p = l.find? q
 | [], _ => rfl
 | a :: l, h => by
  have h1 := h a (List.mem_cons_self ..)
  have h2 := find_alike l fun b hb => h b (List.mem_cons_of_mem _ hb)
  rw [List.find?_cons, List.find?_cons, h1, h2]
section
variable {κ ν : Int → Int} {l : List OpV} {K V : Int → Prop}
theorem ren_first (hk : ∀ a b, K a → K b → κ a = κ b → a = b) (hl : ∀ o ∈ l, K o.key) {k : Int} (hK : K k) : firstO (l.map (renO κ ν)) (κ k) = (firstO l k).map (renO κ ν) := by
 unfold firstO
 rw [List.find?_map]
 congr 1
 refine find_alike _ fun o ho => ?_
 show (κ o.key == κ k) = (o.key == k)
 rw [Bool.eq_iff_iff, beq_iff_eq, beq_iff_eq]
 exact ⟨hk _ _ (hl o ho) hK, fun e => by rw [e]⟩
theorem ren_lastW (hk : ∀ a b, K a → K b → κ a = κ b → a = b) (hl : ∀ o ∈ l, K o.key) {k : Int} (hK : K k) : lastW (l.map (renO κ ν)) (κ k) = (lastW l k).map (renO κ ν) := by
 unfold lastW
 rw [List.filter_map, List.getLast?_map]
 congr 2
 refine List.filter_congr fun o ho => ?_
 show (o.wr && (κ o.key == κ k)) = (o.wr && (o.key == k))
 congr 1
 rw [Bool.eq_iff_iff, beq_iff_eq, beq_iff_eq]
 exact ⟨hk _ _ (hl o ho) hK, fun e => by rw [e]⟩
theorem ren_lastO (hk : ∀ a b, K a → K b → κ a = κ b → a = b) (hl : ∀ o ∈ l, K o.key) {k : Int} (hK : K k) : lastO (l.map (renO κ ν)) (κ k) = (lastO l k).map (renO κ ν) := by
 unfold lastO
 rw [List.filter_map, List.getLast?_map]
 congr 2
 refine List.filter_congr fun o ho => ?_
 show (κ o.key == κ k) = (o.key == k)
 rw [Bool.eq_iff_iff, beq_iff_eq, beq_iff_eq]
 exact ⟨hk _ _ (hl o ho) hK, fun e => by rw [e]⟩
theorem ren_steady (hk : ∀ a b, K a → K b → κ a = κ b → a = b) (hl : ∀ o ∈ l, K o.key) (hv : ∀ a b, V a → V b → ν a = ν b → a = b) (hlv : ∀ o ∈ l, V o.val) : steadyL (l.map (renO κ ν)) = steadyL l := by
 unfold steadyL
 rw [List.length_map]
 refine all_congr _ fun k hkr => ?_
 have hkl := List.mem_range.1 hkr
 have hm := List.getElem_mem hkl
 rw [stOk_at (by rw [List.length_map]; exact hkl), stOk_at hkl, List.getElem_map, ← List.map_take]
 have e : lastO ((l.take k).map (renO κ ν)) (renO κ ν l[k]).key = (lastO (l.take k) l[k].key).map (renO κ ν) := ren_lastO hk (fun o ho => hl o (List.mem_of_mem_take ho)) (hl _ hm)
 rw [e]
 cases hh : lastO (l.take k) l[k].key with
 | none => rfl
 | some p =>
  have hp := List.mem_of_mem_take (lastO_key hh).2
  show (l[k].wr || (ν l[k].val == ν p.val)) = (l[k].wr || (l[k].val == p.val))
  congr 1
  rw [Bool.eq_iff_iff, beq_iff_eq, beq_iff_eq]
  exact ⟨hv _ _ (hlv _ hm) (hlv p hp), fun e => by rw [e]⟩
theorem ren_reads (hk : ∀ a b, K a → K b → κ a = κ b → a = b) (hl : ∀ o ∈ l, K o.key) (hkl : keysIn l) (hkx : keysIn (l.map (renO κ ν))) {o : OpV} : o ∈ refReads (l.map (renO κ ν)) ↔ ∃ p ∈ refReads l, o = renO κ ν p := by
 rw [(refReads_rise hkx).2]
 constructor
 ·rintro ⟨h1, h2⟩
  obtain ⟨p, hp, rfl⟩ := List.mem_map.1 (firstO_key h1).2
  change firstO _ (κ p.key) = _ at h1
  rw [ren_first hk hl (hl p hp)] at h1
  cases hf : firstO l p.key with
  | none => rw [hf] at h1; cases h1
  | some q =>
   rw [hf] at h1
   have hq := firstO_key hf
   have e := Option.some.inj h1
   exact ⟨q, ((refReads_rise hkl).2 q).2 ⟨by rw [hq.1]; exact hf, (congrArg OpV.wr e).trans h2⟩, e.symm⟩
 ·rintro ⟨p, hp, rfl⟩
  obtain ⟨h1, h2⟩ := ((refReads_rise hkl).2 p).1 hp
  refine ⟨?_, h2⟩
  show firstO _ (κ p.key) = _
  rw [ren_first hk hl (hl p (firstO_key h1).2), h1]; rfl
theorem ren_writes (hk : ∀ a b, K a → K b → κ a = κ b → a = b) (hl : ∀ o ∈ l, K o.key) (hkl : keysIn l) (hkx : keysIn (l.map (renO κ ν))) {o : OpV} : o ∈ refWrites (l.map (renO κ ν)) ↔ ∃ p ∈ refWrites l, o = renO κ ν p := by
 rw [(refWrites_rise hkx).2]
 constructor
 ·rintro ⟨h1, h2⟩
  obtain ⟨p, hp, rfl⟩ := List.mem_map.1 (lastW_key h1).2.2
  change lastW _ (κ p.key) = _ at h1
  rw [ren_lastW hk hl (hl p hp)] at h1
  cases hf : lastW l p.key with
  | none => rw [hf] at h1; cases h1
  | some q =>
   rw [hf] at h1
   have hq := lastW_key hf
   have e := Option.some.inj h1
   exact ⟨q, ((refWrites_rise hkl).2 q).2 ⟨by rw [hq.1]; exact hf, hq.2.1⟩, e.symm⟩
 ·rintro ⟨p, hp, rfl⟩
  obtain ⟨h1, h2⟩ := ((refWrites_rise hkl).2 p).1 hp
  refine ⟨?_, h2⟩
  show lastW _ (κ p.key) = _
  rw [ren_lastW hk hl (hl p (lastW_key h1).2.2), h1]; rfl
theorem vOf_last (hkl : keysIn l) {o : OpV} (ho : o ∈ l) (wo : o.wr = true) : ∃ p ∈ l, lastW l o.key = some p ∧ vOf l o.key = p.val := by
 have h0 := lastW_some l wo l.length (Nat.le_refl _) (by rw [List.take_length]; exact ho)
 rw [List.take_length] at h0
 obtain ⟨p, hp⟩ := Option.isSome_iff_exists.1 h0
 have hpk := lastW_key hp
 refine ⟨p, hpk.2.2, hp, ?_⟩
 have hm : p ∈ refWrites l := ((refWrites_rise hkl).2 p).2 ⟨by rw [hpk.1]; exact hp, hpk.2.1⟩
 unfold vOf
 cases hf : (refWrites l).find? (fun q => q.key == o.key) with
 | none => have := List.find?_eq_none.1 hf p hm; simp [hpk.1] at this
 | some q =>
  have hq := List.mem_of_find?_eq_some hf
  have hqk : q.key = o.key := by simpa using List.find?_some hf
  have h2 := ((refWrites_rise hkl).2 q).1 hq
  rw [hqk, hp] at h2
  obtain rfl := Option.some.inj h2.1
  rfl
theorem ren_vOf (hk : ∀ a b, K a → K b → κ a = κ b → a = b) (hl : ∀ o ∈ l, K o.key) (hv : ∀ a b, V a → V b → ν a = ν b → a = b) (hlv : ∀ o ∈ l, V o.val) (hkl : keysIn l) (hkx : keysIn (l.map (renO κ ν))) {o : OpV} (ho : o ∈ l) (wo : o.wr = true) {v : Int} (hV : V v) : (vOf (l.map (renO κ ν)) (κ o.key) == ν v) = (vOf l o.key == v) := by
 obtain ⟨p, hp, h1, h2⟩ := vOf_last hkl ho wo
 obtain ⟨p2, hp2, h3, h4⟩ := vOf_last hkx (List.mem_map_of_mem ho) wo
 have e : lastW (l.map (renO κ ν)) (κ o.key) = some p2 := h3
 rw [ren_lastW hk hl (hl o ho), h1] at e
 obtain rfl := Option.some.inj e
 have h5 : vOf (l.map (renO κ ν)) (κ o.key) = ν p.val := h4
 rw [h5, h2, Bool.eq_iff_iff, beq_iff_eq, beq_iff_eq]
 exact ⟨hv _ _ (hlv p hp) hV, fun e => by rw [e]⟩
end
structure Ren (h x : List TxnV) (π ρ : Nat → Nat) (κ ν : Int → Int) : Prop where
 len : x.length = h.length
 turn : IsoT h.length π ρ
 ops : ∀ j, j < h.length → opsAt x j = (opsAt h (π j)).map (renO κ ν)
 key : ∀ a b, KeyIn h a → KeyIn h b → κ a = κ b → a = b
 val : ∀ a b, ValIn h a → ValIn h b → ν a = ν b → a = b
 zero : ν 0 = 0
def turnI (ρ : Nat → Nat) (i : Int) : Int := if 0 ≤ i then ((ρ i.toNat : Nat) : Int) else i
theorem turnI_nat (ρ : Nat → Nat) (i : Nat) : turnI ρ (i : Int) = ((ρ i : Nat) : Int) := by unfold turnI; rw [if_pos (by omega), Int.toNat_natCast]
theorem keyIn_at {h : List TxnV} {i : Nat} (hi : i < h.length) {o : OpV} (ho : o ∈ opsAt h i) : KeyIn h o.key := ⟨h[i], List.getElem_mem hi, o, by rw [← opsAt_eq hi]; exact ho, rfl⟩
theorem valIn_at {h : List TxnV} {i : Nat} (hi : i < h.length) {o : OpV} (ho : o ∈ opsAt h i) : ValIn h o.val := .inr ⟨h[i], List.getElem_mem hi, o, by rw [← opsAt_eq hi]; exact ho, rfl⟩
theorem wvH_at {h : List TxnV} {v : Int} : v ∈ wvH h ↔ ∃ i, i < h.length ∧ ∃ o ∈ opsAt h i, o.wr = true ∧ o.val = v := by
 unfold wvH
 rw [List.mem_flatMap]
 constructor
 ·rintro ⟨t, ht, hv⟩
  obtain ⟨i, hi, rfl⟩ := List.mem_iff_getElem.1 ht
  obtain ⟨o, ho, wo, e⟩ := wv_mem.1 hv
  exact ⟨i, hi, o, by rw [opsAt_eq hi]; exact ho, wo, e⟩
 ·rintro ⟨i, hi, o, ho, wo, e⟩
  rw [opsAt_eq hi] at ho
  exact ⟨h[i], List.getElem_mem hi, wv_mem.2 ⟨o, ho, wo, e⟩⟩
theorem keys_at0 {h : List TxnV} (hk : ∀ t ∈ h, keysIn t.l) {i : Nat} (hi : i < h.length) : keysIn (opsAt h i) := by rw [opsAt_eq hi]; exact hk _ (List.getElem_mem hi)
section
variable {h x : List TxnV} {π ρ : Nat → Nat} {κ ν : Int → Int}
theorem Ren.wr_at (q : Ren h x π ρ κ ν) (hkh : ∀ t ∈ h, keysIn t.l) (hkx : ∀ t ∈ x, keysIn t.l) (hoh : okW h = true) (hox : okW x = true) {i : Nat} (hi : i < h.length) {o : OpV} (ho : o ∈ opsAt h i) (wo : o.wr = true) :
  ∃ b, wrTo h h.length o.val = some ⟨i, o.key, b⟩ ∧ wrTo x x.length (ν o.val) = some ⟨((ρ i : Nat) : Int), κ o.key, b⟩ := by
 have hr := q.turn.tl i hi
 have e := q.ops (ρ i) hr
 rw [q.turn.pr i hi] at e
 have hrx : ρ i < x.length := by rw [q.len]; exact hr
 have a := wrTo_at hkh h.length (Nat.le_refl _) (by rw [List.take_length]; exact of_decide_eq_true hoh) i hi hi o (by rw [← opsAt_eq hi]; exact ho) wo
 have hmx : renO κ ν o ∈ opsAt x (ρ i) := by rw [e]; exact List.mem_map_of_mem ho
 have b := wrTo_at hkx x.length (Nat.le_refl _) (by rw [List.take_length]; exact of_decide_eq_true hox) (ρ i) hrx hrx (renO κ ν o) (by rw [← opsAt_eq hrx]; exact hmx) wo
 refine ⟨vOf h[i].l o.key == o.val, a, ?_⟩
 have hkx2 := keys_at0 hkx hrx
 rw [e] at hkx2
 have c := ren_vOf (K := KeyIn h) (V := ValIn h) q.key (fun p hp => keyIn_at hi hp) q.val (fun p hp => valIn_at hi hp) (keys_at0 hkh hi) hkx2 ho wo (valIn_at hi ho)
 rw [← opsAt_eq hrx, e] at b
 rw [← opsAt_eq hi, ← c]
 exact b
theorem Ren.wr_none (q : Ren h x π ρ κ ν) {v : Int} (hV : ValIn h v) (hn : wrTo h h.length v = none) : wrTo x x.length (ν v) = none := by
 have d1 := dom_wr h h.length (Nat.le_refl _) v
 have d2 := dom_wr x x.length (Nat.le_refl _) (ν v)
 rw [hn, List.take_length] at d1
 rw [List.take_length] at d2
 cases e : wrTo x x.length (ν v) with
 | none => rfl
 | some u =>
  rw [e] at d2
  obtain ⟨j, hj, o, ho, wo, ev⟩ := wvH_at.1 (of_decide_eq_true d2.symm)
  rw [q.len] at hj
  rw [q.ops j hj] at ho
  obtain ⟨p, hp, rfl⟩ := List.mem_map.1 ho
  have hpj := q.turn.lt j hj
  have := q.val _ _ (valIn_at hpj hp) hV ev
  exact absurd (wvH_at.2 ⟨π j, hpj, p, hp, wo, this⟩) (of_decide_eq_false d1.symm)
theorem Ren.wr_some (q : Ren h x π ρ κ ν) (hkh : ∀ t ∈ h, keysIn t.l) (hkx : ∀ t ∈ x, keysIn t.l) (hoh : okW h = true) (hox : okW x = true) {v : Int} {u : WV} (hs : wrTo h h.length v = some u) :
  ∃ i : Nat, i < h.length ∧ u.i = (i : Int) ∧ wrTo x x.length (ν v) = some ⟨((ρ i : Nat) : Int), κ u.key, u.last⟩ := by
 have d1 := dom_wr h h.length (Nat.le_refl _) v
 rw [hs, List.take_length] at d1
 obtain ⟨i, hi, o, ho, wo, rfl⟩ := wvH_at.1 (of_decide_eq_true d1.symm)
 obtain ⟨b, h1, h2⟩ := q.wr_at hkh hkx hoh hox hi ho wo
 rw [h1] at hs
 obtain rfl := Option.some.inj hs
 exact ⟨i, hi, rfl, h2⟩
theorem Ren.frm (q : Ren h x π ρ κ ν) (hkh : ∀ t ∈ h, keysIn t.l) (hkx : ∀ t ∈ x, keysIn t.l) (hoh : okW h = true) (hox : okW x = true) {v : Int} (hV : ValIn h v) :
  fromO (wrTo x x.length) (ν v) = turnI ρ (fromO (wrTo h h.length) v) ∧ (fromO (wrTo h h.length) v = -1 ∨ ∃ i : Nat, i < h.length ∧ fromO (wrTo h h.length) v = (i : Int)) := by
 unfold fromO
 cases e : wrTo h h.length v with
 | none => rw [q.wr_none hV e]; exact ⟨rfl, .inl rfl⟩
 | some u =>
  obtain ⟨i, hi, e1, e2⟩ := q.wr_some hkh hkx hoh hox e
  rw [e2]
  simp only [Option.map_some, Option.getD_some]
  rw [e1, turnI_nat]
  exact ⟨rfl, .inr ⟨i, hi, rfl⟩⟩
theorem Ren.bad (q : Ren h x π ρ κ ν) (hkh : ∀ t ∈ h, keysIn t.l) (hkx : ∀ t ∈ x, keysIn t.l) (hoh : okW h = true) (hox : okW x = true) {o : OpV} (hV : ValIn h o.val) {j : Nat} (hj : j < h.length) :
  badFr (wrTo x x.length) (j : Int) (renO κ ν o) = badFr (wrTo h h.length) ((π j : Nat) : Int) o := by
 unfold badFr
 show (match wrTo x x.length (ν o.val) with | none => false | some u => decide (u.i = (j : Int)) || !u.last) = _
 cases e : wrTo h h.length o.val with
 | none => rw [q.wr_none hV e]
 | some u =>
  obtain ⟨i, hi, e1, e2⟩ := q.wr_some hkh hkx hoh hox e
  rw [e2]
  simp only
  congr 1
  rw [Bool.eq_iff_iff, decide_eq_true_eq, decide_eq_true_eq, e1]
  constructor
  ·intro a
   have : ρ i = j := by omega
   rw [← this, q.turn.pr i hi]
  ·intro a
   have : i = π j := by omega
   rw [this, q.turn.rp j hj]
theorem Ren.reads_mem (hc : checkI h = 0) (hx : checkI x = 0) (q : Ren h x π ρ κ ν) {j : Nat} (hj : j < h.length) {p : Int × Int} : p ∈ readsOf x j ↔ ∃ r ∈ readsOf h (π j), p = (κ r.1, turnI ρ r.2) := by
 obtain ⟨h64, _, hoh, hkh⟩ := check_zero hc
 obtain ⟨_, _, hox, hkx⟩ := check_zero hx
 have hpj := q.turn.lt j hj
 have hjx : j < x.length := by rw [q.len]; exact hj
 have hk1 := keys_at0 hkh hpj
 have hk2 := keys_at0 hkx hjx
 rw [q.ops j hj] at hk2
 unfold readsOf rdFr
 rw [q.ops j hj]
 simp only [List.mem_map, List.mem_filter]
 constructor
 ·rintro ⟨o, ⟨ho, hne⟩, rfl⟩
  obtain ⟨p, hp, rfl⟩ := (ren_reads (K := KeyIn h) q.key (fun p hp => keyIn_at hpj hp) hk1 hk2).1 ho
  have hpl := (refReads_in hp).1
  obtain ⟨f1, f2⟩ := q.frm hkh hkx hoh hox (valIn_at hpj hpl)
  have f1' : fromO (wrTo x x.length) (renO κ ν p).val = _ := f1
  rw [f1'] at hne ⊢
  refine ⟨_, ⟨p, ⟨hp, ?_⟩, rfl⟩, rfl⟩
  rw [bne_iff_ne] at hne ⊢
  intro e
  apply hne
  rw [e, turnI_nat, q.turn.rp j hj]
 ·rintro ⟨_, ⟨o, ⟨ho, hne⟩, rfl⟩, rfl⟩
  have hol := (refReads_in ho).1
  obtain ⟨f1, f2⟩ := q.frm hkh hkx hoh hox (valIn_at hpj hol)
  have f1' : fromO (wrTo x x.length) (renO κ ν o).val = _ := f1
  refine ⟨renO κ ν o, ⟨(ren_reads (K := KeyIn h) q.key (fun p hp => keyIn_at hpj hp) hk1 hk2).2 ⟨o, ho, rfl⟩, ?_⟩, by rw [f1']; rfl⟩
  rw [f1']
  rw [bne_iff_ne] at hne ⊢
  intro e
  rcases f2 with f2 | ⟨i, hi, f2⟩
  ·rw [f2] at e; unfold turnI at e; rw [if_neg (by omega)] at e; omega
  ·rw [f2, turnI_nat] at e
   apply hne
   rw [f2]
   have : ρ i = j := by omega
   rw [← this, q.turn.pr i hi]
theorem Ren.keys (hc : checkI h = 0) (hx : checkI x = 0) (q : Ren h x π ρ κ ν) {j : Nat} (hj : j < h.length) {y : Int} : y ∈ keysOf (opsAt x j) ↔ ∃ k ∈ keysOf (opsAt h (π j)), y = κ k := by
 obtain ⟨h64, _, hoh, hkh⟩ := check_zero hc
 obtain ⟨_, _, hox, hkx⟩ := check_zero hx
 have hpj := q.turn.lt j hj
 have hjx : j < x.length := by rw [q.len]; exact hj
 have hk1 := keys_at0 hkh hpj
 have hk2 := keys_at0 hkx hjx
 rw [q.ops j hj] at hk2
 unfold keysOf
 rw [q.ops j hj, List.mem_map]
 constructor
 ·rintro ⟨o, ho, rfl⟩
  obtain ⟨p, hp, rfl⟩ := (ren_writes (K := KeyIn h) q.key (fun p hp => keyIn_at hpj hp) hk1 hk2).1 ho
  exact ⟨p.key, List.mem_map_of_mem hp, rfl⟩
 ·rintro ⟨k, hk, rfl⟩
  obtain ⟨p, hp, rfl⟩ := List.mem_map.1 hk
  exact ⟨renO κ ν p, (ren_writes (K := KeyIn h) q.key (fun p hp => keyIn_at hpj hp) hk1 hk2).2 ⟨p, hp, rfl⟩, rfl⟩
theorem keysOf_in {i : Nat} (hi : i < h.length) {k : Int} (hk : k ∈ keysOf (opsAt h i)) : KeyIn h k := by
 obtain ⟨p, hp, rfl⟩ := List.mem_map.1 hk
 exact keyIn_at hi (refWrites_mem hp).1
theorem Ren.key_at (hc : checkI h = 0) (hx : checkI x = 0) (q : Ren h x π ρ κ ν) {j : Nat} (hj : j < h.length) {k : Int} (hK : KeyIn h k) : κ k ∈ keysOf (opsAt x j) ↔ k ∈ keysOf (opsAt h (π j)) := by
 rw [q.keys hc hx hj]
 constructor
 ·rintro ⟨k2, h2, e⟩
  rw [q.key _ _ hK (keysOf_in (q.turn.lt j hj) h2) e]; exact h2
 ·intro h2; exact ⟨k, h2, rfl⟩
theorem Ren.wrt (hc : checkI h = 0) (hx : checkI x = 0) (q : Ren h x π ρ κ ν) {k : Int} (hK : KeyIn h k) : IsoS h.length π (wrtN x (κ k)) (wrtN h k) := by
 have h64 := (check_zero hc).1
 unfold wrtN
 refine ⟨fun j e => ?_, fun j e => ?_, fun j hj => ?_⟩
 ·rw [testBit_mkS, q.len] at e; simp at e; exact e.2.1
 ·rw [testBit_mkS] at e; simp at e; exact e.2.1
 ·have := q.turn.lt j hj
  rw [testBit_mkS, testBit_mkS, q.len, decide_eq_true (show j < 64 by omega), decide_eq_true (show π j < 64 by omega), decide_eq_true hj, decide_eq_true this, Bool.true_and, Bool.true_and, Bool.true_and, Bool.true_and, Bool.eq_iff_iff, decide_eq_true_eq, decide_eq_true_eq]
  exact q.key_at hc hx hj hK
theorem riv_keys (hc : checkI h = 0) {i k : Nat} (hi : i < h.length) (hk : k < h.length) : rivR h i k = true ↔ ∃ y, y ∈ keysOf (opsAt h i) ∧ y ∈ keysOf (opsAt h k) := by
 obtain ⟨h64, _, hoh, hkh⟩ := check_zero hc
 unfold rivR
 rw [List.any_eq_true]
 constructor
 ·rintro ⟨n, _, e⟩
  rw [Bool.and_eq_true] at e
  exact ⟨n, (keysOf_iff hc hi _).2 e.1, (keysOf_iff hc hk _).2 e.2⟩
 ·rintro ⟨y, h1, h2⟩
  have hy : 0 ≤ y ∧ y < 64 := by
   obtain ⟨p, hp, rfl⟩ := List.mem_map.1 h1
   exact keys_at0 hkh hi p (refWrites_mem hp).1
  refine ⟨y.toNat, List.mem_range.2 (by omega), ?_⟩
  rw [Int.toNat_of_nonneg hy.1, Bool.and_eq_true]
  exact ⟨(keysOf_iff hc hi _).1 h1, (keysOf_iff hc hk _).1 h2⟩
theorem Ren.riv (hc : checkI h = 0) (hx : checkI x = 0) (q : Ren h x π ρ κ ν) {j : Nat} (hj : j < h.length) : IsoS h.length π (rivN x j) (rivN h (π j)) := by
 have h64 := (check_zero hc).1
 have hpj := q.turn.lt j hj
 refine ⟨fun i e => ?_, fun i e => ?_, fun i hi => ?_⟩
 ·have := (rivN_bit.1 e).2
  unfold rivB at this
  rw [q.len] at this
  simp only [Bool.and_eq_true, decide_eq_true_eq] at this
  exact this.2.1
 ·have := (rivN_bit.1 e).2
  unfold rivB at this
  simp only [Bool.and_eq_true, decide_eq_true_eq] at this
  exact this.2.1
 ·have hpi := q.turn.lt i hi
  rw [Bool.eq_iff_iff, rivN_bit, rivN_bit]
  unfold rivB
  rw [q.len, decide_eq_true hj, decide_eq_true hi, decide_eq_true hpj, decide_eq_true hpi, Bool.true_and, Bool.true_and, Bool.true_and, Bool.true_and, Bool.and_eq_true, Bool.and_eq_true, decide_eq_true_eq, decide_eq_true_eq,
   riv_keys hx (by rw [q.len]; exact hj) (by rw [q.len]; exact hi), riv_keys hc hpj hpi]
  have e1 : j ≠ i ↔ π j ≠ π i := ⟨fun a b => a (q.turn.inj hj hi b), fun a b => a (by rw [b])⟩
  have e2 : (∃ y, y ∈ keysOf (opsAt x j) ∧ y ∈ keysOf (opsAt x i)) ↔ ∃ y, y ∈ keysOf (opsAt h (π j)) ∧ y ∈ keysOf (opsAt h (π i)) := by
   constructor
   ·rintro ⟨y, a, b⟩
    obtain ⟨k, hk, rfl⟩ := (q.keys hc hx hj).1 a
    exact ⟨k, hk, (q.key_at hc hx hi (keysOf_in hpj hk)).1 b⟩
   ·rintro ⟨k, a, b⟩
    exact ⟨κ k, (q.key_at hc hx hj (keysOf_in hpj a)).2 a, (q.key_at hc hx hi (keysOf_in hpj a)).2 b⟩
  rw [e1, e2]
  exact ⟨fun ⟨_, a⟩ => ⟨by omega, a⟩, fun ⟨_, a⟩ => ⟨by omega, a⟩⟩
theorem Ren.fro (hc : checkI h = 0) (hx : checkI x = 0) (q : Ren h x π ρ κ ν) {i j : Nat} (hi : i < h.length) (hj : j < h.length) : froP x i j = froP h (π i) (π j) := by
 unfold froP
 rw [Bool.eq_iff_iff, List.any_eq_true, List.any_eq_true]
 constructor
 ·rintro ⟨p, hp, e⟩
  obtain ⟨r, hr, rfl⟩ := (q.reads_mem hc hx hj).1 hp
  refine ⟨r, hr, ?_⟩
  simp only [decide_eq_true_eq] at e ⊢
  rcases read_from hc (q.turn.lt j hj) hr with e2 | ⟨n, hn, e2, _, _⟩
  ·rw [e2] at e; unfold turnI at e; rw [if_neg (by omega)] at e; omega
  ·rw [e2, turnI_nat] at e
   have : ρ n = i := by omega
   rw [e2, ← this, q.turn.pr n hn]
 ·rintro ⟨r, hr, e⟩
  refine ⟨_, (q.reads_mem hc hx hj).2 ⟨r, hr, rfl⟩, ?_⟩
  simp only [decide_eq_true_eq] at e ⊢
  rw [e, turnI_nat, q.turn.rp i hi]
theorem Ren.base (hc : checkI h = 0) (hx : checkI x = 0) (q : Ren h x π ρ κ ν) {C : Nat} (hC : C < 9223372036854775808) (hs : C.testBit 0 = true → ∀ i j, i < h.length → j < h.length → sesP x i j = sesP h (π i) (π j))
  (ht : C.testBit 5 = true → ∀ i j, i < h.length → j < h.length → timP x i j = timP h (π i) (π j)) {j : Nat} (hj : j < h.length) : IsoS h.length π (baseN x C j) (baseN h C (π j)) := by
 have h64 := (check_zero hc).1
 have hpj := q.turn.lt j hj
 refine ⟨fun i e => ?_, fun i e => ?_, fun i hi => ?_⟩
 ·obtain ⟨h1, h2⟩ := (baseN_bit (by omega)).1 e
  rw [← q.len]; exact (baseM_lt hC h1 (by omega) h2).1
 ·obtain ⟨h1, h2⟩ := (baseN_bit (by omega)).1 e
  exact (baseM_lt hC h1 (by omega) h2).1
 ·have hpi := q.turn.lt i hi
  rw [Bool.eq_iff_iff, baseN_bit (by omega), baseN_bit (by omega), baseM_iff x C hC, baseM_iff h C hC]
  have e0 : froM x i j = true ↔ froM h (π i) (π j) = true := by
   unfold froM
   rw [prsTo_iff _ _ i j (by omega) (by omega), prsTo_iff _ _ (π i) (π j) (by omega) (by omega), q.fro hc hx hi hj, q.len]
   exact ⟨fun a => ⟨hpi, hpj, a.2.2⟩, fun a => ⟨hi, hj, a.2.2⟩⟩
  have e1 : (C.testBit 0 = true ∧ sesM x i j = true) ↔ (C.testBit 0 = true ∧ sesM h (π i) (π j) = true) := by
   refine and_congr_right fun c => ?_
   unfold sesM
   rw [prsTo_iff _ _ i j (by omega) (by omega), prsTo_iff _ _ (π i) (π j) (by omega) (by omega), hs c i j hi hj, q.len]
   exact ⟨fun a => ⟨hpi, hpj, a.2.2⟩, fun a => ⟨hi, hj, a.2.2⟩⟩
  have e2 : (C.testBit 5 = true ∧ timM x i j = true) ↔ (C.testBit 5 = true ∧ timM h (π i) (π j) = true) := by
   refine and_congr_right fun c => ?_
   unfold timM
   rw [prsTo_iff _ _ i j (by omega) (by omega), prsTo_iff _ _ (π i) (π j) (by omega) (by omega), ht c i j hi hj, q.len]
   exact ⟨fun a => ⟨hpi, hpj, a.2.2⟩, fun a => ⟨hi, hj, a.2.2⟩⟩
  rw [e0, e1, e2]
  exact ⟨fun a => ⟨by omega, a.2⟩, fun a => ⟨by omega, a.2⟩⟩
theorem Ren.readsP (hc : checkI h = 0) (hx : checkI x = 0) (q : Ren h x π ρ κ ν) {j : Nat} {aF aG : Nat → Nat} {s t : Nat} (hj : j < h.length) (hs : IsoS h.length π s t) (ha : ∀ k, k < h.length → IsoS h.length π (aF k) (aG (π k))) : readsP x aF s j = Go.Proofs.YtnhkjehfmbfmmaaGreatDoor.readsP h aG t (π j) := by
 have h64 := (check_zero hc).1
 have hpj := q.turn.lt j hj
 have one : ∀ r ∈ readsOf h (π j), readP x aF s (κ r.1, turnI ρ r.2) = readP h aG t r := by
  intro r hr
  have hK : KeyIn h r.1 := by
   obtain ⟨o, ho, rfl⟩ := List.mem_map.1 hr
   exact keyIn_at hpj (refReads_in (List.mem_filter.1 ho).1).1
  have hw := hs.and (q.wrt hc hx hK)
  unfold readP readW
  rcases read_from hc hpj hr with e | ⟨n, hn, e, _, _⟩
  ·have e2 : turnI ρ (-1) = -1 := rfl
   simp only [e, e2]
   rw [if_neg (by omega), if_neg (by omega), Bool.eq_iff_iff, decide_eq_true_eq, decide_eq_true_eq]
   exact IsoS.none q.turn hw
  ·have hrn := q.turn.tl n hn
   have e2 : turnI ρ (n : Int) = ((ρ n : Nat) : Int) := turnI_nat ρ n
   simp only [e, e2]
   rw [if_pos (by omega), if_pos (by omega), Bool.eq_iff_iff, decide_eq_true_eq, decide_eq_true_eq, lack_iff, lack_iff, Int.toNat_natCast, Int.toNat_natCast]
   have hp := IsoS.put q.turn h64 (ha (ρ n) hrn) hrn
   rw [q.turn.pr n hn] at hp
   exact IsoS.sub q.turn hw hp
 unfold Go.Proofs.YtnhkjehfmbfmmaaGreatDoor.readsP
 rw [Bool.eq_iff_iff, List.all_eq_true, List.all_eq_true]
 constructor
 ·intro a r hr
  rw [← one r hr]
  exact a _ ((q.reads_mem hc hx hj).2 ⟨r, hr, rfl⟩)
 ·intro a p hp
  obtain ⟨r, hr, rfl⟩ := (q.reads_mem hc hx hj).1 hp
  rw [one r hr]; exact a r hr
theorem Ren.sound (hc : checkI h = 0) (hx : checkI x = 0) (q : Ren h x π ρ κ ν) : soundTo x x.length = soundTo h h.length := by
 obtain ⟨h64, _, hoh, hkh⟩ := check_zero hc
 obtain ⟨_, _, hox, hkx⟩ := check_zero hx
 have one : ∀ j, j < h.length → soundOf x j = soundOf h (π j) := by
  intro j hj
  have hpj := q.turn.lt j hj
  have hjx : j < x.length := by rw [q.len]; exact hj
  have hk1 := keys_at0 hkh hpj
  have hk2 := keys_at0 hkx hjx
  rw [q.ops j hj] at hk2
  unfold soundOf
  rw [q.ops j hj, ren_steady (K := KeyIn h) (V := ValIn h) q.key (fun p hp => keyIn_at hpj hp) q.val (fun p hp => valIn_at hpj hp)]
  congr 2
  rw [Bool.eq_iff_iff, List.any_eq_true, List.any_eq_true]
  constructor
  ·rintro ⟨o, ho, e⟩
   obtain ⟨p, hp, rfl⟩ := (ren_reads (K := KeyIn h) q.key (fun p hp => keyIn_at hpj hp) hk1 hk2).1 ho
   exact ⟨p, hp, by rw [← q.bad hkh hkx hoh hox (valIn_at hpj (refReads_in hp).1) hj]; exact e⟩
  ·rintro ⟨p, hp, e⟩
   exact ⟨renO κ ν p, (ren_reads (K := KeyIn h) q.key (fun p hp => keyIn_at hpj hp) hk1 hk2).2 ⟨p, hp, rfl⟩, by rw [q.bad hkh hkx hoh hox (valIn_at hpj (refReads_in hp).1) hj]; exact e⟩
 unfold soundTo
 rw [Bool.eq_iff_iff, List.all_eq_true, List.all_eq_true]
 constructor
 ·intro a i hi
  have hi := List.mem_range.1 hi
  rw [← q.turn.pr i hi, ← one _ (q.turn.tl i hi)]
  exact a _ (List.mem_range.2 (by rw [q.len]; exact q.turn.tl i hi))
 ·intro a j hj
  have hj := List.mem_range.1 hj
  rw [q.len] at hj
  rw [one j hj]; exact a _ (List.mem_range.2 (q.turn.lt j hj))
theorem Ren.iso (hc : checkI h = 0) (hx : checkI x = 0) (q : Ren h x π ρ κ ν) {C : Nat} (hC : C < 9223372036854775808) (hs : C.testBit 0 = true → ∀ i j, i < h.length → j < h.length → sesP x i j = sesP h (π i) (π j))
  (ht : C.testBit 5 = true → ∀ i j, i < h.length → j < h.length → timP x i j = timP h (π i) (π j)) : IsoH h x C π ρ :=
 ⟨q.len, q.turn, fun _ hj => q.base hc hx hC hs ht hj, fun _ hj => q.riv hc hx hj, fun _ _ _ _ _ hj a b => q.readsP hc hx hj a b, q.sound hc hx⟩
end
theorem sum_perm {l m : List Nat} (h : l.Perm m) : l.sum = m.sum := by
 induction h with
 | nil => rfl
 | cons a _ ih => simp only [List.sum_cons, ih]
 | swap a b l => simp only [List.sum_cons]; omega
 | trans _ _ i1 i2 => rw [i1, i2]
theorem ops_list (h : List TxnV) : h.map (·.l) = (List.range h.length).map (opsAt h) := by
 apply List.ext_getElem
 ·simp
 ·intro i h1 h2
  have hi : i < h.length := by simpa using h1
  simp only [List.getElem_map, List.getElem_range]
  rw [opsAt_eq hi]
section
variable {h x : List TxnV} {π ρ : Nat → Nat} {κ ν : Int → Int}
theorem Ren.perm (q : Ren h x π ρ κ ν) : (x.map (·.l)).Perm ((h.map (·.l)).map (List.map (renO κ ν))) := by
 have e : x.map (·.l) = ((List.range h.length).map π).map fun i => (opsAt h i).map (renO κ ν) := by
  rw [ops_list x, q.len, List.map_map]
  exact List.map_congr_left fun j hj => q.ops j (List.mem_range.1 hj)
 have e2 : (h.map (·.l)).map (List.map (renO κ ν)) = (List.range h.length).map fun i => (opsAt h i).map (renO κ ν) := by rw [ops_list h, List.map_map]; rfl
 rw [e, e2]
 exact (turn_perm q.turn (List.Perm.refl _)).map _
theorem wv_ren (l : List OpV) : wv (l.map (renO κ ν)) = (wv l).map ν := by
 unfold wv
 rw [List.filter_map, List.map_map, List.map_map]
 rfl
theorem Ren.check (q : Ren h x π ρ κ ν) (hc : checkI h = 0) (hm : partsB x = true) (hst : stampsB x = true) (hse : sesB x = true) : checkI x = 0 := by
 obtain ⟨h64, hopn, hoh, hkh⟩ := check_zero hc
 have hkx := parts_keys hm
 have hr : rightB h = true := by
  unfold checkI at hc
  split at hc
  ·cases hc
  ·split at hc
   ·assumption
   ·cases hc
 have ho : opsN x = opsN h := by
  have e : ∀ h : List TxnV, opsN h = ((h.map (·.l)).map List.length).sum := fun h => by unfold opsN; rw [List.map_map]; rfl
  rw [e x, e h, sum_perm (q.perm.map List.length)]
  congr 1
  rw [List.map_map]
  exact List.map_congr_left fun l _ => by simp
 have hw : (wvH x).Perm ((wvH h).map ν) := by
  have e : ∀ h : List TxnV, wvH h = (h.map (·.l)).flatMap wv := fun h => by unfold wvH; rw [List.flatMap_map]
  rw [e x, e h]
  refine (List.Perm.flatMap_right wv q.perm).trans ?_
  rw [List.flatMap_map, List.map_flatMap, show (fun a => wv (List.map (renO κ ν) a)) = fun a => (wv a).map ν from funext fun a => wv_ren a]
 have hox : okW x = true := by
  unfold okW
  rw [decide_eq_true_eq, hw.nodup_iff, List.nodup_iff_pairwise_ne, List.pairwise_map]
  refine (List.nodup_iff_pairwise_ne.1 (of_decide_eq_true hoh)).imp_of_mem fun {a b} ha hb hne e => hne (q.val a b ?_ ?_ e)
  ·obtain ⟨i, hi, o, ho, _, rfl⟩ := wvH_at.1 ha; exact valIn_at hi ho
  ·obtain ⟨i, hi, o, ho, _, rfl⟩ := wvH_at.1 hb; exact valIn_at hi ho
 unfold rightB at hr
 simp only [Bool.and_eq_true] at hr
 unfold valuesB at hr
 rw [Bool.and_eq_true] at hr
 have hv : valuesB x = true := by
  unfold valuesB
  rw [hox, Bool.true_and, List.all_eq_true]
  intro t ht
  obtain ⟨j, hj, rfl⟩ := List.mem_iff_getElem.1 ht
  rw [q.len] at hj
  have hpj := q.turn.lt j hj
  unfold rowOk
  rw [List.all_eq_true, ← opsAt_eq (by rw [q.len]; exact hj), q.ops j hj]
  intro o ho
  obtain ⟨p, hp, rfl⟩ := List.mem_map.1 ho
  have h1 := List.all_eq_true.1 hr.2.1.2 _ (List.getElem_mem hpj)
  unfold rowOk at h1
  rw [← opsAt_eq hpj] at h1
  have h2 := List.all_eq_true.1 h1 p hp
  unfold rdOk at h2 ⊢
  show (p.wr || ν p.val == 0 || match wrTo x x.length (ν p.val) with | none => false | some u => u.key == κ p.key) = true
  cases wp : p.wr with
  | true => rfl
  | false =>
   rw [wp] at h2
   by_cases e : p.val = 0
   ·rw [e, q.zero]; rfl
   ·have e' : (p.val == 0) = false := by simpa using e
    rw [e', Bool.or_false, Bool.false_or] at h2
    cases hu : wrTo h h.length p.val with
    | none => rw [hu] at h2; cases h2
    | some u =>
     rw [hu] at h2
     obtain ⟨i, _, _, e2⟩ := q.wr_some hkh hkx hoh hox hu
     rw [e2]
     have e3 : u.key = p.key := by simpa using h2
     simp [e3]
 unfold checkI
 rw [if_neg (by rw [q.len, ho]; omega), if_pos (by unfold rightB; rw [hm, hv, hst, hse]; rfl)]
end
end

section
open Go.RowKit
def addN (l : List Int) (x : Int) : List Int := if x ∈ l then l else l ++ [x]
def firsts (l : List Int) : List Int := l.foldl addN []
def posL (l : List Int) (x : Int) : Nat := l.findIdx (fun y => y == x)
theorem firsts_snoc (l : List Int) (x : Int) : firsts (l ++ [x]) = addN (firsts l) x := by unfold firsts; rw [List.foldl_append]; rfl
theorem addN_prefix (l : List Int) (x : Int) : l <+: addN l x := by
 unfold addN; split
 ·exact List.prefix_refl _
 ·exact List.prefix_append _ _
theorem mem_addN {l : List Int} {x y : Int} : y ∈ addN l x ↔ y ∈ l ∨ y = x := by
 unfold addN; split
 ·exact ⟨.inl, fun h => h.elim id (fun e => e ▸ (by assumption))⟩
 ·rw [List.mem_append, List.mem_singleton]
theorem addN_nodup {l : List Int} {x : Int} (h : l.Nodup) : (addN l x).Nodup := by
 unfold addN; split
 ·exact h
 ·exact nodup_snoc h (by assumption)
theorem firsts_ind {P : List Int → List Int → Prop} (h0 : P [] []) (h1 : ∀ l x, P l (firsts l) → P (l ++ [x]) (addN (firsts l) x)) (l : List Int) : P l (firsts l) := by
 have : ∀ n, ∀ l : List Int, l.length = n → P l (firsts l) := by
  intro n
  induction n with
  | zero => intro l hl; obtain rfl := List.length_eq_zero_iff.1 hl; exact h0
  | succ n ih =>
   intro l hl
   have hne : l ≠ [] := by intro e; subst e; cases hl
   have e : l = l.dropLast ++ [l.getLast hne] := (List.dropLast_concat_getLast hne).symm
   rw [e, firsts_snoc]
   exact h1 _ _ (ih _ (by rw [List.length_dropLast, hl]; rfl))
 exact this _ l rfl
theorem mem_firsts {l : List Int} {y : Int} : y ∈ firsts l ↔ y ∈ l := by
 refine firsts_ind (P := fun l m => y ∈ m ↔ y ∈ l) Iff.rfl (fun l x ih => ?_) l
 rw [mem_addN, ih, List.mem_append, List.mem_singleton]
theorem firsts_nodup (l : List Int) : (firsts l).Nodup := firsts_ind (P := fun _ m => m.Nodup) List.nodup_nil (fun _ _ ih => addN_nodup ih) l
theorem firsts_len (l : List Int) : (firsts l).length ≤ l.length := by
 refine firsts_ind (P := fun l m => m.length ≤ l.length) (Nat.le_refl _) (fun l x ih => ?_) l
 rw [List.length_append]
 unfold addN; split
 ·simp; omega
 ·simp; exact ih
theorem firsts_prefix {l m : List Int} (h : l <+: m) : firsts l <+: firsts m := by
 obtain ⟨t, rfl⟩ := h
 induction t generalizing l with
 | nil => rw [List.append_nil]; exact List.prefix_refl _
 | cons a t ih =>
  have := ih (l := l ++ [a])
  rw [List.append_assoc, List.singleton_append, firsts_snoc] at this
  exact (addN_prefix _ _).trans this
theorem posL_new {l : List Int} {x : Int} (h : x ∉ l) : posL l x = l.length := by
 unfold posL
 rw [List.findIdx_eq_length]
 intro y hy
 rw [beq_eq_false_iff_ne]
 exact fun e => h (e ▸ hy)
theorem posL_lt {l : List Int} {x : Int} (h : x ∈ l) : posL l x < l.length := by
 unfold posL
 rw [List.findIdx_lt_length]
 exact ⟨x, h, by simp⟩
theorem posL_at {l : List Int} {x : Int} (h : x ∈ l) : l[posL l x]'(posL_lt h) = x := by
 have := List.findIdx_getElem (p := fun y => y == x) (xs := l) (w := posL_lt h)
 exact beq_iff_eq.1 this
theorem posL_inj {l : List Int} {x y : Int} (hx : x ∈ l) (hy : y ∈ l) (e : posL l x = posL l y) : x = y := by
 have h1 := posL_at hx
 have h2 := posL_at hy
 rw [← h1, ← h2]
 congr 1
theorem posL_prefix {l m : List Int} {x : Int} (h : l <+: m) (hx : x ∈ l) : posL m x = posL l x := by
 obtain ⟨t, rfl⟩ := h
 unfold posL
 rw [List.findIdx_append]
 exact if_pos (posL_lt hx)
theorem posL_add (l : List Int) (x : Int) : posL (addN l x) x = posL l x := by
 unfold addN; split
 ·rfl
 ·rename_i h
  rw [posL_new h]
  unfold posL
  rw [List.findIdx_append]
  have : ¬ List.findIdx (fun y => y == x) l < l.length := by have := posL_new h; unfold posL at this; omega
  rw [if_neg this]
  simp
theorem posL_time {p L : List Int} {x : Int} (h : p ++ [x] <+: L) : posL (firsts L) x = posL (firsts p) x := by
 have h1 := firsts_prefix h
 rw [firsts_snoc] at h1
 rw [posL_prefix h1 (mem_addN.2 (.inr rfl)), posL_add]
theorem firsts_map {f : Int → Int} {l : List Int} (hf : ∀ a ∈ l, ∀ b ∈ l, f a = f b → a = b) : firsts (l.map f) = (firsts l).map f := by
 have : ∀ m : List Int, (∀ a ∈ m, a ∈ l) → firsts (m.map f) = (firsts m).map f := by
  intro m
  refine firsts_ind (P := fun m q => (∀ a ∈ m, a ∈ l) → firsts (m.map f) = q.map f) (fun _ => rfl) (fun m x ih hm => ?_) m
  have ih := ih fun a ha => hm a (List.mem_append.2 (.inl ha))
  rw [List.map_append, List.map_singleton, firsts_snoc, ih]
  have hx := hm x (by simp)
  unfold addN
  by_cases h : x ∈ firsts m
  ·rw [if_pos h, if_pos (List.mem_map_of_mem h)]
  ·rw [if_neg h, if_neg, List.map_append, List.map_singleton]
   intro h2
   obtain ⟨y, hy, e⟩ := List.mem_map.1 h2
   have hyl := hm y (List.mem_append.2 (.inl (mem_firsts.1 hy)))
   exact h (hf _ hyl _ hx e ▸ hy)
 exact this l fun _ h => h
theorem findIdx_alike {α : Type} {p q : α → Bool} : ∀ (l : List α), (∀ a ∈ l, p a = q a) → l.findIdx p = l.findIdx q
 | [], _ => rfl
 | a :: l, h => by
  have h1 := h a (List.mem_cons_self ..)
  have h2 := findIdx_alike l fun b hb => h b (List.mem_cons_of_mem _ hb)
  rw [List.findIdx_cons, List.findIdx_cons, h1, h2]
theorem posL_map {f : Int → Int} {l : List Int} {x : Int} (hf : ∀ a ∈ l, f a = f x → a = x) : posL (l.map f) (f x) = posL l x := by
 unfold posL
 have e : ∀ l : List Int, (l.map f).findIdx (fun y => y == f x) = l.findIdx (fun y => f y == f x) := by
  intro l
  induction l with
  | nil => rfl
  | cons a l ih => rw [List.map_cons, List.findIdx_cons, List.findIdx_cons, ih]
 rw [e]
 refine findIdx_alike _ fun a ha => ?_
 rw [Bool.eq_iff_iff, beq_iff_eq, beq_iff_eq]
 exact ⟨hf a ha, fun e => by rw [e]⟩
abbrev ETx := Int × Int × Int × List OpV
def renE (f τ κ ν : Int → Int) (e : ETx) : ETx := (f e.1, τ e.2.1, τ e.2.2.1, e.2.2.2.map (renO κ ν))
def sesE (E : List ETx) : List Int := E.map (·.1)
def stE (E : List ETx) : List Int := E.flatMap fun e => [e.2.1, e.2.2.1]
def keyE (E : List ETx) : List Int := E.flatMap fun e => e.2.2.2.map (·.key)
def valA (E : List ETx) : List Int := E.flatMap fun e => e.2.2.2.map (·.val)
def valE (E : List ETx) : List Int := (valA E).filter fun v => v != 0
def noI (L : List Int) (x : Int) : Int := ((posL (firsts L) x : Nat) : Int)
def noV (L : List Int) (v : Int) : Int := if v = 0 then 0 else noI L v + 1
def rankN (L : List Int) (x : Int) : Nat := L.countP fun y => decide (y < x)
def rankI (L : List Int) (x : Int) : Int := ((rankN L x : Nat) : Int)
def canE (E : List ETx) : List ETx := E.map (renE (noI (sesE E)) (rankI (stE E)) (noI (keyE E)) (noV (valE E)))
theorem countP_alike {α : Type} {p q : α → Bool} : ∀ (l : List α), (∀ a ∈ l, p a = q a) → l.countP p = l.countP q
 | [], _ => rfl
 | a :: l, h => by
  have h1 := h a (List.mem_cons_self ..)
  have h2 := countP_alike l fun b hb => h b (List.mem_cons_of_mem _ hb)
  rw [List.countP_cons, List.countP_cons, h1, h2]
theorem noI_map {f : Int → Int} {L : List Int} (hf : ∀ a ∈ L, ∀ b ∈ L, f a = f b → a = b) {x : Int} (hx : x ∈ L) : noI (L.map f) (f x) = noI L x := by
 unfold noI
 rw [firsts_map hf, posL_map]
 exact fun a ha e => hf a (mem_firsts.1 ha) x hx e
theorem noI_inj {L : List Int} {x y : Int} (hx : x ∈ L) (hy : y ∈ L) (e : noI L x = noI L y) : x = y := by
 unfold noI at e
 exact posL_inj (mem_firsts.2 hx) (mem_firsts.2 hy) (by omega)
theorem noI_nonneg (L : List Int) (x : Int) : 0 ≤ noI L x := by unfold noI; omega
theorem noI_lt {L : List Int} {x : Int} (hx : x ∈ L) : noI L x < ((firsts L).length : Int) := by
 unfold noI; have := posL_lt (mem_firsts.2 hx); omega
theorem rnk_lt {L : List Int} {x y : Int} (hx : x ∈ L) (h : x < y) : rankI L x < rankI L y := by
 unfold rankI rankN
 have key : ∀ l : List Int, l.countP (fun z => decide (z < x)) + (if x ∈ l then 1 else 0) ≤ l.countP (fun z => decide (z < y)) := by
  intro l
  induction l with
  | nil => simp
  | cons a l ih =>
   rw [List.countP_cons, List.countP_cons]
   by_cases e : x = a
   ·subst e
    have : List.countP (fun z => decide (z < x)) l ≤ List.countP (fun z => decide (z < y)) l := by
     refine Nat.le_trans (Nat.le_add_right _ _) ih
    simp [h]; exact this
   ·have e2 : (x ∈ a :: l) ↔ x ∈ l := by rw [List.mem_cons]; exact ⟨fun q => q.elim (fun q => absurd q e) id, .inr⟩
    simp only [e2]
    have : (if decide (a < x) = true then 1 else 0) ≤ (if decide (a < y) = true then 1 else 0) := by
     by_cases h1 : a < x
     ·rw [if_pos (by simpa using h1), if_pos (by simp; omega)]; exact Nat.le_refl _
     ·rw [if_neg (by simpa using h1)]; exact Nat.zero_le _
    omega
 have := key L
 rw [if_pos hx] at this
 omega
theorem rnk_le {L : List Int} (x : Int) : rankI L x ≤ (L.length : Int) := by
 unfold rankI rankN; have := List.countP_le_length (p := fun y => decide (y < x)) (l := L); omega
theorem stE_mem {E : List ETx} {e : ETx} (he : e ∈ E) : e.2.1 ∈ stE E ∧ e.2.2.1 ∈ stE E := by
 unfold stE
 exact ⟨List.mem_flatMap.2 ⟨e, he, by simp⟩, List.mem_flatMap.2 ⟨e, he, by simp⟩⟩
theorem keyE_mem {E : List ETx} {e : ETx} (he : e ∈ E) {o : OpV} (ho : o ∈ e.2.2.2) : o.key ∈ keyE E := List.mem_flatMap.2 ⟨e, he, List.mem_map_of_mem ho⟩
theorem valA_mem {E : List ETx} {e : ETx} (he : e ∈ E) {o : OpV} (ho : o ∈ e.2.2.2) : o.val ∈ valA E := List.mem_flatMap.2 ⟨e, he, List.mem_map_of_mem ho⟩
theorem sesE_mem {E : List ETx} {e : ETx} (he : e ∈ E) : e.1 ∈ sesE E := List.mem_map_of_mem he
theorem can_ren {E : List ETx} {f τ κ ν : Int → Int} (hf : ∀ a ∈ sesE E, ∀ b ∈ sesE E, f a = f b → a = b) (hτ : ∀ a ∈ stE E, ∀ b ∈ stE E, a < b → τ a < τ b) (hκ : ∀ a ∈ keyE E, ∀ b ∈ keyE E, κ a = κ b → a = b)
  (h0 : ν 0 = 0) (hz : ∀ a ∈ valA E, ν a = 0 → a = 0) (hν : ∀ a ∈ valA E, ∀ b ∈ valA E, ν a = ν b → a = b) : canE (E.map (renE f τ κ ν)) = canE E := by
 have e1 : sesE (E.map (renE f τ κ ν)) = (sesE E).map f := by unfold sesE; rw [List.map_map, List.map_map]; rfl
 have e2 : stE (E.map (renE f τ κ ν)) = (stE E).map τ := by unfold stE; rw [List.flatMap_map, List.map_flatMap]; rfl
 have e3 : keyE (E.map (renE f τ κ ν)) = (keyE E).map κ := by
  unfold keyE; rw [List.flatMap_map, List.map_flatMap]
  congr 1; funext e; show ((e.2.2.2.map (renO κ ν)).map (·.key)) = (e.2.2.2.map (·.key)).map κ
  rw [List.map_map, List.map_map]; rfl
 have e4 : valA (E.map (renE f τ κ ν)) = (valA E).map ν := by
  unfold valA; rw [List.flatMap_map, List.map_flatMap]
  congr 1; funext e; show ((e.2.2.2.map (renO κ ν)).map (·.val)) = (e.2.2.2.map (·.val)).map ν
  rw [List.map_map, List.map_map]; rfl
 have e5 : valE (E.map (renE f τ κ ν)) = (valE E).map ν := by
  unfold valE
  rw [e4, List.filter_map]
  congr 1
  refine List.filter_congr fun a ha => ?_
  show (ν a != 0) = (a != 0)
  rw [Bool.eq_iff_iff, bne_iff_ne, bne_iff_ne]
  exact ⟨fun h e => h (by rw [e, h0]), fun h e => h (hz a ha e)⟩
 unfold canE
 rw [e1, e2, e3, e5, List.map_map]
 refine List.map_congr_left fun e he => ?_
 have hs := stE_mem he
 have hrk : ∀ x, x ∈ stE E → rankI ((stE E).map τ) (τ x) = rankI (stE E) x := by
  intro x hx
  unfold rankI rankN
  rw [List.countP_map]
  congr 1
  refine countP_alike _ fun a ha => ?_
  show decide (τ a < τ x) = decide (a < x)
  rw [Bool.eq_iff_iff, decide_eq_true_eq, decide_eq_true_eq]
  constructor
  ·intro h
   rcases Int.lt_trichotomy a x with h1 | h1 | h1
   ·exact h1
   ·rw [h1] at h; omega
   ·have := hτ x hx a ha h1; omega
  ·exact hτ a ha x hx
 show ((noI ((sesE E).map f) (f e.1), rankI ((stE E).map τ) (τ e.2.1), rankI ((stE E).map τ) (τ e.2.2.1), (e.2.2.2.map (renO κ ν)).map (renO (noI ((keyE E).map κ)) (noV ((valE E).map ν)))) : ETx) = _
 rw [noI_map hf (sesE_mem he), hrk _ hs.1, hrk _ hs.2, List.map_map]
 have : e.2.2.2.map (renO (noI ((keyE E).map κ)) (noV ((valE E).map ν)) ∘ renO κ ν) = e.2.2.2.map (renO (noI (keyE E)) (noV (valE E))) := by
  refine List.map_congr_left fun o ho => ?_
  have hv := valA_mem he ho
  show (⟨o.wr, noI ((keyE E).map κ) (κ o.key), noV ((valE E).map ν) (ν o.val)⟩ : OpV) = ⟨o.wr, noI (keyE E) o.key, noV (valE E) o.val⟩
  rw [noI_map hκ (keyE_mem he ho)]
  have : noV ((valE E).map ν) (ν o.val) = noV (valE E) o.val := by
   unfold noV
   by_cases h : o.val = 0
   ·rw [h, h0, if_pos rfl, if_pos rfl]
   ·have h2 : ν o.val ≠ 0 := fun e => h (hz _ hv e)
    rw [if_neg h, if_neg h2]
    have hm : o.val ∈ valE E := List.mem_filter.2 ⟨hv, by simpa using h⟩
    rw [noI_map (L := valE E) (fun a ha b hb => hν a (List.mem_filter.1 ha).1 b (List.mem_filter.1 hb).1) hm]
  rw [this]
 rw [this]
 rfl
end

section
open Go.RowKit
def IsSrt (h s : List TxnV) : Prop := s.Perm h ∧ s.Pairwise fun t u => t.b < u.b
theorem srt_eq {h s u : List TxnV} (h1 : IsSrt h s) (h2 : IsSrt h u) : s = u := by
 have key : ∀ s u : List TxnV, s.Pairwise (fun t u => t.b < u.b) → u.Pairwise (fun t u => t.b < u.b) → s.Perm u → s = u := by
  intro s
  induction s with
  | nil => intro u _ _ hp; exact hp.nil_eq
  | cons a s ih =>
   intro u hs hu hp
   cases u with
   | nil => exact absurd hp.length_eq (by simp)
   | cons b u =>
    obtain ⟨a1, a2⟩ := List.pairwise_cons.1 hs
    obtain ⟨b1, b2⟩ := List.pairwise_cons.1 hu
    have e : a = b := by
     rcases List.mem_cons.1 (hp.mem_iff.1 (List.mem_cons_self ..) : a ∈ b :: u) with e | e
     ·exact e
     ·rcases List.mem_cons.1 (hp.mem_iff.2 (List.mem_cons_self ..) : b ∈ a :: s) with e' | e'
      ·exact e'.symm
      ·have := b1 _ e; have := a1 _ e'; omega
    subst e
    rw [ih u a2 b2 ((List.perm_cons a).1 hp)]
 exact key s u h1.2 h2.2 (h1.1.trans h2.1.symm)
end

end Go.Proofs.YtnhkjehfmbfmmaaGreatDoor
