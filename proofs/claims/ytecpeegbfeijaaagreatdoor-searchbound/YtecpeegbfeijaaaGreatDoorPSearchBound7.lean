/- Walks and plain facts that the proof of the statement SearchBound uses, joined: OrdL PlaN SeaJ SeaK PlaP LeaI LeaJ PlaO OrdAB PlaR PlaS PlaT PlaU PlaV. Conditions: each theorem's own. -/
import Derived.Deep.RegionHeld
import Derived.Deep.CutRange
import Derived.Deep.MidRow
import Derived.Deep.RegionHeld3
import Derived.Test.YtecpeegbfeijaaaGreatDoorPSearchBound0
import Derived.Test.YtecpeegbfeijaaaGreatDoorPSearchBound2
import Derived.Test.YtecpeegbfeijaaaGreatDoorPSearchBound3
import Derived.Test.YtecpeegbfeijaaaGreatDoorPSearchBound4
import Derived.Test.YtecpeegbfeijaaaGreatDoorPSearchBound5
import Derived.Test.YtecpeegbfeijaaaGreatDoorPSearchBound6
namespace Go.Proofs.YtecpeegbfeijaaaGreatDoor
set_option maxHeartbeats 32000000
set_option maxRecDepth 100000
open Lib (hid)
section
theorem zA7 {α : Type _} (l : List α) (i : Nat) (a : α) : l.toArray.setIfInBounds i a = (l.set i a).toArray := List.setIfInBounds_toArray ..
theorem zB7 {α : Type _} {x : α} {xs : List α} {a : α} : (x :: xs).set 0 a = a :: xs := List.set_cons_zero
theorem zC7 {α : Type _} {x : α} {xs : List α} {i : Nat} {a : α} : (x :: xs).set (i + 1) a = x :: xs.set i a := List.set_cons_succ
end
section
open Go.RowKit
theorem takeQ {P : Program} {ops : Array Oper} {Q : Exit → Act → World → Prop} {md : Region.Mode} {S : World → Prop} (d : Option Tmp) {i : Nat} {oi : Oper} {v : Value} {fuel : Nat} {listed : Array Bool} {a : Act} {w : World} (hi : ops[i]? = some oi) (hd : oi.dst = d)
  (hs : Region.noSelect ops = true) (hf : Region.free md ops listed i = true) (hr : (Region.ready md ops listed).contains i = true)
  (hQ : ∀ c a w, Q (.panic c) (a.put oi.dst v) w → Q (.panic c) a w) (hy : YieldsIf P ops S oi v a) (hS : S w)
  (h : wpAnyH P md ops Q S fuel (listed.setIfInBounds i true) (a.put d v) w) : wpAnyH P md ops Q S (fuel + 1) listed a w := by
 subst hd; exact wpAnyH_take hi hs hf hr hQ hy hS h
theorem of_done (va : Value) (h : List TxnV) (w : World) (hT : Txns w va h) (hok : ∀ t ∈ h, t.ok) (hsh : Short h) (hc : checkI h = 0) :
  Calls Tryz.prog 16 #[va] w fun e w' => (∃ B, e = .returned (.tuple #[.pointer (some ⟨B, 0, none⟩), .int .i64 0]) ∧ w.heap.size ≤ B ∧ OrdIs w' B (B + 2) h) ∧ Below w.heap.size w w' := by
 obtain ⟨ao, cap, rfl, hal⟩ := hT.form
 obtain ⟨hlen, hops, hW, hks⟩ := check_zero hc
 have hb0 := box_below w (.cells #[.slice ao h.length cap] 22)
 have CH := hid (hcheck_any _ h _ (hT.below hb0) hok hsh)
 rw [hc] at CH
 have CW := hid (fun wx (hx : Below w.heap.size w wx) => hwrites_any _ h wx (hT.below hx) hok hks (by omega) (by omega))
 have HT := hid (fun wx (hx : Below w.heap.size w wx) => hT.below hx)
 have HOK := hid hok
 have HKS := hid hks
 have HW := hid hW
 have HOPS := hid hops
 obtain ⟨i1, hi1, hza1, hzb1, hzc1⟩ := info_parts infoLI
 obtain ⟨i2, hi2, hza2, hzb2, hzc2⟩ := info_parts infoLR
 have hA0 : (w.alloc (.cells #[.slice ao h.length cap] 22)).cell? ⟨w.heap.size, 0, none⟩ = some (.slice ao h.length cap) := by rw [cell_of_row _ _ _ _ _ _ (heap_alloc_new w _)]; rfl
 clear hT hok hsh hks hW hc hops
 go_enter Tryz.func16, Tryz.ntmps16
 go_wp2_with fail
 refine (CH.out).mono ?_
 rintro e w1 ⟨rfl, hb1⟩
 have hA1 := (hb1.cell (p := ⟨w.heap.size, 0, none⟩) (block_lt hA0)).trans hA0
 have hb2 := below_then hb0 hb1
 clear CH hb1 hb0 hA0
 go_wp2_with fail
 refine (CW.out _ hb2).mono ?_
 rintro e w2 ⟨hb3, ⟨hno, _⟩ | ⟨_, bm, m, rfl, hbm, hM⟩⟩
 ·exact absurd hno (by rw [HW.out]; simp)
 have hA2 := (hb3.cell (p := ⟨w.heap.size, 0, none⟩) (block_lt hA1)).trans hA1
 have hb4 := below_then hb2 hb3
 clear CW hb3 hb2 hA1
 have hlt := block_lt hA2
 simp only at hlt
 have hO3 := (OrdAt.made w2 (h.length : Int) 101 rfl rfl).alloc (.cells #[.pointer (some ⟨w2.heap.size, 0, none⟩)] 25)
 have hb3 := ((Below.refl w2.heap.size w2).alloc (Nat.le_refl _) (.cells ((Tryz.zeroCells101.setIfInBounds 0 (.int .i64 h.length)).setIfInBounds 196 (.bool true)) 101)).alloc (by simp) (.cells #[.pointer (some ⟨w2.heap.size, 0, none⟩)] 25)
 have hA3 := (hb3.cell (p := ⟨w.heap.size, 0, none⟩) hlt).trans hA2
 have hC3 : ((w2.alloc (.cells ((Tryz.zeroCells101.setIfInBounds 0 (.int .i64 h.length)).setIfInBounds 196 (.bool true)) 101)).alloc (.cells #[.pointer (some ⟨w2.heap.size, 0, none⟩)] 25)).cell? ⟨w2.heap.size + 1, 0, none⟩ = some (.pointer (some ⟨w2.heap.size, 0, none⟩)) := by
  rw [cell_of_row _ _ _ _ _ _ (heap_alloc2_new w2 _ _)]; rfl
 have hs3 : w2.heap.size + 2 ≤ ((w2.alloc (.cells ((Tryz.zeroCells101.setIfInBounds 0 (.int .i64 h.length)).setIfInBounds 196 (.bool true)) 101)).alloc (.cells #[.pointer (some ⟨w2.heap.size, 0, none⟩)] 25)).heap.size := by simp
 go_wp2_with fail
 generalize ((w2.alloc (.cells ((Tryz.zeroCells101.setIfInBounds 0 (.int .i64 h.length)).setIfInBounds 196 (.bool true)) 101)).alloc (.cells #[.pointer (some ⟨w2.heap.size, 0, none⟩)] 25)) = w3 at *
 generalize (Tryz.zeroCells101.setIfInBounds 0 (.int .i64 h.length)).setIfInBounds 196 (.bool true) = Z at *
 go_loopw [26] (fun i wr => ∃ (k : Nat) (vk vr : Value) (sd : Bool) (K : List KRow) (R : List RRow), k ≤ h.length ∧ i = .int .i64 k ∧ K.map (·.2) = keysTo h k ∧ R.map (·.2) = readsTo h k ∧ sd = soundTo h k ∧ OrdAt wr w2.heap.size h.length noR noR noR (.map none) vk vr sd ∧
   wr.cell? ⟨w2.heap.size + 1, 0, none⟩ = some (.pointer (some ⟨w2.heap.size, 0, none⟩)) ∧ OfR (w2.heap.size + 2) wr vk vr K R ∧ Below w2.heap.size w2 wr ∧ w2.heap.size + 2 ≤ wr.heap.size) (fun i _ => h.length - (intOf i).toNat)
 case atStart => exact ⟨0, _, _, _, [], [], by omega, rfl, rfl, rfl, rfl, hO3, hC3, OfR.nil _ _, hb3, hs3⟩
 case round =>
  clear hO3 hC3 hb3 hs3 hA3
  obtain ⟨k, vk, vr, sd, K, R, hk, rfl, hK, hR, hsd, hO, hC, hF, hb, hsz⟩ := hrel
  have HK := hid (And.intro hK (And.intro hR hsd))
  clear hK hR hsd
  by_cases hlk : k < h.length
  ·have hki : (k : Int) < (h.length : Int) := by omega
   have hbw := below_then hb4 hb
   obtain ⟨g, o, hao, c0, c1, c2, c3⟩ := (HT.out _ hbw).at hlk
   cases hao
   have hOps := (HT.out _ hbw).ops hlk
   have HOPF := hid (fun wx (hx : Below w2.heap.size w2 wx) => (HT.out wx (below_then hb4 hx)).ops hlk)
   generalize h[k].s = ts at *
   generalize h[k].b = tb at *
   generalize h[k].c = tc at *
   have HLK : Hid (opsAt h k = h[k].l) := hid (opsAt_eq hlk)
   have hll : h[k].l.length ≤ 1024 := by
    have h1 := opsN_take h k hlk
    have h2 := opsN_le h (k + 1)
    have h3 := HOPS.out
    omega
   have HOL := hid (HOK.out _ (List.getElem_mem hlk)).2
   have HKL := hid (HKS.out _ (List.getElem_mem hlk))
   generalize h[k].v = tv at *
   generalize h[k].l = l at *
   obtain ⟨a2, cap2, rfl, hl2⟩ := hOps.form
   obtain ⟨b0, b1, b2, b3⟩ := txnBlock wr (.int .i64 ts) (.int .i64 tb) (.int .i64 tc) (.slice a2 l.length cap2) 59
   have hbx := (Below.refl wr.heap.size wr).alloc (Nat.le_refl _) (.cells #[.int .i64 ts, .int .i64 tb, .int .i64 tc, .slice a2 l.length cap2] 59)
   have hOps1 := hOps.below hbx
   have hO1 := hO.below hbx hO.lt
   have hC1 := (hbx.cell (p := ⟨w2.heap.size + 1, 0, none⟩) (block_lt hC)).trans hC
   have hF1 := hF.below hbx
   have hb1 := hb.trans (hbx.mono hb.size)
   have hs1 : w2.heap.size + 2 ≤ (wr.alloc (.cells #[.int .i64 ts, .int .i64 tb, .int .i64 tc, .slice a2 l.length cap2] 59)).heap.size := by simp; omega
   have hgx : w2.heap.size + 2 ≤ wr.heap.size := hsz
   have hX1 := heap_alloc_new wr (.cells #[.int .i64 ts, .int .i64 tb, .int .i64 tc, .slice a2 l.length cap2] 59)
   have hX : OfS w2 wr.heap.size ts tb tc (.slice a2 l.length cap2) h.length vk vr sd K R (wr.alloc (.cells #[.int .i64 ts, .int .i64 tb, .int .i64 tc, .slice a2 l.length cap2] 59)) := ⟨hO1, ⟨hC1, b0, b1, b2, b3⟩, hF1, hb1, hs1, ⟨_, hX1⟩, hgx⟩
   have hTf := fun wx (hx : Below w2.heap.size w2 wx) => HT.out wx (below_then hb4 hx)
   go_upto_region 9 with fail
   clear hOps hO hC hF hb hbx hbw hsz c0 c1 c2 c3 hO1 hC1 hF1 hb1 hs1 hX1 b0 b1 b2 b3
   generalize wr.alloc (.cells #[.int .i64 ts, .int .i64 tb, .int .i64 tc, .slice a2 l.length cap2] 59) = w4 at *
   generalize wr.heap.size = gx at *
   clear wr
   have hKl : K.length ≤ 64 := by have := congrArg List.length HK.out.1; simp [keysTo] at this; omega
   have hRl : R.length ≤ 64 := by have := congrArg List.length HK.out.2.1; simp [readsTo] at this; omega
   obtain ⟨aK, cK, rfl⟩ := owns_form hX.r.kr
   obtain ⟨aR, cR, rfl⟩ := owns_form hX.r.rr
   go_cut [41] from 31 to 41 (fun u wx => ∃ (v5 : Value) (vx : Value), u = .pointer (some ⟨w2.heap.size, 194, none⟩) ∧ OfS w2 gx ts tb tc (.slice a2 l.length cap2) h.length v5 (.slice aR R.length cR) sd (K ++ [(vx, keysOf l)]) R wx)
   case first =>
    have kd := (Below.refl w4.heap.size w4).drew
    have CK : Hid (∀ wx, Below w4.heap.size w4 wx → Calls Tryz.prog 57 #[.agg #[.int .i64 ts, .int .i64 tb, .int .i64 tc, .slice a2 l.length cap2]] wx fun e w' => ∃ v, e = .returned v ∧ w'.ownsRow (w2.heap.size + 2) 3 1 v (keysOf l).length ((keysOf l).map (Value.int .i64)) ∧ Below wx.heap.size wx w') := hid (fun wx hx => (okeys_any ts tb tc _ l wx (hOps1.below hx) HOL.out (by omega)).mono (fun e w' ⟨v, out, he, ho, hr, _, hbb⟩ => by
     obtain rfl := hr.eq (refWrites_rise HKL.out)
     refine ⟨v, he, own_base' ?_ (show w2.heap.size + 2 ≤ wx.heap.size by have h1 := hx.size; have h2 := hX.z; omega), hbb⟩
     unfold keysOf
     rw [List.length_map, List.map_map]
     exact ho))
    have HS : Hid (∀ wx, Below w4.heap.size w4 wx → SB (w2.heap.size + 1) w2.heap.size gx ts tb tc (.slice a2 l.length cap2) wx) := hid (fun wx hx => hX.s.below hx)
    have hc0 := hX.o.cK
    have HCL : Hid (∀ wx, Below w4.heap.size w4 wx → wx.cell? ⟨w2.heap.size, 194, none⟩ = some (.slice aK K.length cK)) := hid (fun wx hx => (hx.cell (p := ⟨w2.heap.size, 194, none⟩) (block_lt hc0)).trans hc0)
    have HCA : Hid (∀ wx, Below w4.heap.size w4 wx → ∀ o, (wx.alloc o).cell? ⟨w2.heap.size, 194, none⟩ = some (.slice aK K.length cK)) := hid (fun wx hx o => HCL.out _ (hx.alloc hx.size o))
    have HRO : Hid (∀ wx, Below w4.heap.size w4 wx → wx.ownsRow (w2.heap.size + 2) 29 1 (.slice aK K.length cK) K.length (K.map (·.1))) := hid (fun wx hx => owns_below hX.r.kr hx)
    have HSZ : Hid (∀ wx (o : Obj), Below w4.heap.size w4 wx → w2.heap.size + 2 ≤ (wx.alloc o).heap.size) := hid (fun wx o hx => by have h1 := hx.size; have h2 := hX.z; simp; omega)
    have HFIN := hid (fun wx w5 v v5 hx => hX.addK (wx := wx) (w5 := w5) (v := v) (v5 := v5) (t := 29) (l := keysOf l) hx)
    have n3 : Hid (K.length + 1 ≤ maxLen) := hid (by unfold maxLen; omega)
    have n4 : Hid ((K.length + 1) * 24 ≤ 140737488355328) := hid (by omega)
    refine wp_region_held_drew (S := SB (w2.heap.size + 1) w2.heap.size gx ts tb tc (.slice a2 l.length cap2)) (by kernel_rfl) hX.s.drew (fun hS0 => ?_)
    refine takeQ (some 31) (i := 0) (v := ?v1) rfl rfl (by kernel_rfl) (by kernel_rfl) (by kernel_rfl) (fun _ _ _ h => h) (Or.inl ⟨by rfl, ?h1⟩) hS0 ?r1
    case h1 => (intro w hw; obtain ⟨q0, q1, q2, q3, q4⟩ := hw; go_simp; try (with_reducible rfl))
    try simp only [Act.put, zA7, zB7, zC7]
    refine takeQ (some 32) (i := 1) (v := ?v2) rfl rfl (by kernel_rfl) (by kernel_rfl) (by kernel_rfl) (fun _ _ _ h => h) (Or.inl ⟨by rfl, ?h2⟩) hS0 ?r2
    case h2 => (intro w hw; obtain ⟨q0, q1, q2, q3, q4⟩ := hw; go_simp; try (with_reducible rfl))
    try simp only [Act.put, zA7, zB7, zC7]
    refine takeQ (some 36) (i := 5) (v := ?v3) rfl rfl (by kernel_rfl) (by kernel_rfl) (by kernel_rfl) (fun _ _ _ h => h) (Or.inl ⟨by rfl, ?h3⟩) hS0 ?r3
    case h3 => (intro w hw; obtain ⟨q0, q1, q2, q3, q4⟩ := hw; go_simp; try (with_reducible rfl))
    try simp only [Act.put, zA7, zB7, zC7]
    refine takeQ (some 33) (i := 2) (v := ?v4) rfl rfl (by kernel_rfl) (by kernel_rfl) (by kernel_rfl) (fun _ _ _ h => h) (Or.inl ⟨by rfl, ?h4⟩) hS0 ?r4
    case h4 => (intro w hw; obtain ⟨q0, q1, q2, q3, q4⟩ := hw; go_simp; try (with_reducible rfl))
    try simp only [Act.put, zA7, zB7, zC7]
    refine takeQ (some 34) (i := 3) (v := ?v5) rfl rfl (by kernel_rfl) (by kernel_rfl) (by kernel_rfl) (fun _ _ _ h => h) (Or.inl ⟨by rfl, ?h5⟩) hS0 ?r5
    case h5 => (intro w hw; obtain ⟨q0, q1, q2, q3, q4⟩ := hw; go_simp; try (with_reducible rfl))
    try simp only [Act.put, zA7, zB7, zC7]
    refine wpAnyH_ready (rs := [4, 6]) (by kernel_rfl) (by simp) ?_
    refine AllReadyH.cons rfl ?_ (AllReadyH.cons rfl ?_ AllReadyH.nil)
    ·intro KK hKK
     go_simp
     refine hKK.out _ _ hS0 (fun _ => ?_)
     clear hKK KK
     refine wpAnyH_ready (rs := [6]) (by kernel_rfl) (by simp) ?_
     refine AllReadyH.cons rfl ?_ AllReadyH.nil
     intro KK hKK
     go_simp
     refine (CK.out _ kd).mono ?_
     rintro e wx ⟨vx, rfl, hox, hbx⟩
     obtain ⟨ax, cx, hvx⟩ := owns_form hox
     subst hvx
     show KK _ _
     have kk := below_then kd hbx
     have hS1 := HS.out _ kk
     have hcw := HCL.out _ kk
     refine hKK.out _ _ hS1 (fun _ => ?_)
     clear hKK KK
     refine wpAnyH_ready (rs := [7]) (by kernel_rfl) (by simp) ?_
     refine AllReadyH.cons rfl ?_ AllReadyH.nil
     intro KK hKK
     go_simp
     have hS2 := hS1.alloc (.cells #[.slice ax (keysOf l).length cx] 29)
     have hcw := HCA.out _ kk (.cells #[.slice ax (keysOf l).length cx] 29)
     refine hKK.out _ _ hS2 (fun _ => ?_)
     clear hKK KK
     refine wpAnyH_ready (rs := [8]) (by kernel_rfl) (by simp) ?_
     refine AllReadyH.cons rfl ?_ AllReadyH.nil
     intro KK hKK
     refine step_app _ rfl (.tmp 35) (.tmp 38) 30 rfl (w2.heap.size + 2) 29 i1 (.slice none 0 0) 1 24 Tryz.underlying30 hi1 hza1 hzb1 hzc1 rfl (by decide) (.slice aK K.length cK) K.length (K.map (·.1)) (by simp [Act.eval]) ((HRO.out _ kk).alloc _) ⟨_, 0, none⟩ 1 1 [.slice ax (keysOf l).length cx] (by rfl) rfl (cell_one_new _ _ _) (by intro u hu; simp at hu; subst hu; rfl) n3.out n4.out (HSZ.out _ _ kk) ?_
     intro v5 w5 hown5 hg5
     obtain ⟨a5, c5, hv5⟩ := owns_form hown5
     subst hv5
     obtain ⟨hfin, hS5, hfz, hcz⟩ := HFIN.out _ _ _ _ kk hox hown5 hg5
     show KK _ _
     refine hKK.out _ _ hS5 (fun _ => ?_)
     clear hKK KK
     refine takeQ (some 40) (i := 9) (v := ?v6) rfl rfl (by kernel_rfl) (by kernel_rfl) (by kernel_rfl) (fun _ _ _ h => h) (Or.inl ⟨by rfl, ?h6⟩) hS5 ?r6
     case h6 => (intro w hw; obtain ⟨q0, q1, q2, q3, q4⟩ := hw; go_simp; try (with_reducible rfl))
     try simp only [Act.put, List.setIfInBounds_toArray]
     refine takeQ (some 41) (i := 10) (v := ?v7) rfl rfl (by kernel_rfl) (by kernel_rfl) (by kernel_rfl) (fun _ _ _ h => h) (Or.inl ⟨by rfl, ?h7⟩) hS5 ?r7
     case h7 => (intro w hw; obtain ⟨q0, q1, q2, q3, q4⟩ := hw; go_simp; try (with_reducible rfl))
     try simp only [Act.put]
     refine wpAnyH_ready (rs := [11]) (by kernel_rfl) (by simp) ?_
     refine AllReadyH.cons rfl ?_ AllReadyH.nil
     intro KK hKK
     go_simp
     refine hKK.out _ _ hfin.s (fun _ => ?_)
     clear hKK KK
     refine wpAnyH_done (by kernel_rfl) ?_ _
     go_wp2_with fail
     go_meet
     exact ⟨_, _, rfl, hfin⟩
    ·intro KK hKK
     go_simp
     refine (CK.out _ kd).mono ?_
     rintro e wx ⟨vx, rfl, hox, hbx⟩
     obtain ⟨ax, cx, hvx⟩ := owns_form hox
     subst hvx
     show KK _ _
     have kk := below_then kd hbx
     have hS1 := HS.out _ kk
     have hcw := HCL.out _ kk
     refine hKK.out _ _ hS1 (fun _ => ?_)
     clear hKK KK
     refine wpAnyH_ready (rs := [4, 7]) (by kernel_rfl) (by simp) ?_
     refine AllReadyH.cons rfl ?_ (AllReadyH.cons rfl ?_ AllReadyH.nil)
     ·intro KK hKK
      go_simp
      refine hKK.out _ _ hS1 (fun _ => ?_)
      clear hKK KK
      refine wpAnyH_ready (rs := [7]) (by kernel_rfl) (by simp) ?_
      refine AllReadyH.cons rfl ?_ AllReadyH.nil
      intro KK hKK
      go_simp
      have hS2 := hS1.alloc (.cells #[.slice ax (keysOf l).length cx] 29)
      have hcw := HCA.out _ kk (.cells #[.slice ax (keysOf l).length cx] 29)
      refine hKK.out _ _ hS2 (fun _ => ?_)
      clear hKK KK
      refine wpAnyH_ready (rs := [8]) (by kernel_rfl) (by simp) ?_
      refine AllReadyH.cons rfl ?_ AllReadyH.nil
      intro KK hKK
      refine step_app _ rfl (.tmp 35) (.tmp 38) 30 rfl (w2.heap.size + 2) 29 i1 (.slice none 0 0) 1 24 Tryz.underlying30 hi1 hza1 hzb1 hzc1 rfl (by decide) (.slice aK K.length cK) K.length (K.map (·.1)) (by simp [Act.eval]) ((HRO.out _ kk).alloc _) ⟨_, 0, none⟩ 1 1 [.slice ax (keysOf l).length cx] (by rfl) rfl (cell_one_new _ _ _) (by intro u hu; simp at hu; subst hu; rfl) n3.out n4.out (HSZ.out _ _ kk) ?_
      intro v5 w5 hown5 hg5
      obtain ⟨a5, c5, hv5⟩ := owns_form hown5
      subst hv5
      obtain ⟨hfin, hS5, hfz, hcz⟩ := HFIN.out _ _ _ _ kk hox hown5 hg5
      show KK _ _
      refine hKK.out _ _ hS5 (fun _ => ?_)
      clear hKK KK
      refine takeQ (some 40) (i := 9) (v := ?v8) rfl rfl (by kernel_rfl) (by kernel_rfl) (by kernel_rfl) (fun _ _ _ h => h) (Or.inl ⟨by rfl, ?h8⟩) hS5 ?r8
      case h8 => (intro w hw; obtain ⟨q0, q1, q2, q3, q4⟩ := hw; go_simp; try (with_reducible rfl))
      try simp only [Act.put, List.setIfInBounds_toArray]
      refine takeQ (some 41) (i := 10) (v := ?v9) rfl rfl (by kernel_rfl) (by kernel_rfl) (by kernel_rfl) (fun _ _ _ h => h) (Or.inl ⟨by rfl, ?h9⟩) hS5 ?r9
      case h9 => (intro w hw; obtain ⟨q0, q1, q2, q3, q4⟩ := hw; go_simp; try (with_reducible rfl))
      try simp only [Act.put]
      refine wpAnyH_ready (rs := [11]) (by kernel_rfl) (by simp) ?_
      refine AllReadyH.cons rfl ?_ AllReadyH.nil
      intro KK hKK
      go_simp
      refine hKK.out _ _ hfin.s (fun _ => ?_)
      clear hKK KK
      refine wpAnyH_done (by kernel_rfl) ?_ _
      go_wp2_with fail
      go_meet
      exact ⟨_, _, rfl, hfin⟩
     ·intro KK hKK
      go_simp
      have hS2 := hS1.alloc (.cells #[.slice ax (keysOf l).length cx] 29)
      have hcw := HCA.out _ kk (.cells #[.slice ax (keysOf l).length cx] 29)
      refine hKK.out _ _ hS2 (fun _ => ?_)
      clear hKK KK
      refine wpAnyH_ready (rs := [4]) (by kernel_rfl) (by simp) ?_
      refine AllReadyH.cons rfl ?_ AllReadyH.nil
      intro KK hKK
      go_simp
      refine hKK.out _ _ hS2 (fun _ => ?_)
      clear hKK KK
      refine wpAnyH_ready (rs := [8]) (by kernel_rfl) (by simp) ?_
      refine AllReadyH.cons rfl ?_ AllReadyH.nil
      intro KK hKK
      refine step_app _ rfl (.tmp 35) (.tmp 38) 30 rfl (w2.heap.size + 2) 29 i1 (.slice none 0 0) 1 24 Tryz.underlying30 hi1 hza1 hzb1 hzc1 rfl (by decide) (.slice aK K.length cK) K.length (K.map (·.1)) (by simp [Act.eval]) ((HRO.out _ kk).alloc _) ⟨_, 0, none⟩ 1 1 [.slice ax (keysOf l).length cx] (by rfl) rfl (cell_one_new _ _ _) (by intro u hu; simp at hu; subst hu; rfl) n3.out n4.out (HSZ.out _ _ kk) ?_
      intro v5 w5 hown5 hg5
      obtain ⟨a5, c5, hv5⟩ := owns_form hown5
      subst hv5
      obtain ⟨hfin, hS5, hfz, hcz⟩ := HFIN.out _ _ _ _ kk hox hown5 hg5
      show KK _ _
      refine hKK.out _ _ hS5 (fun _ => ?_)
      clear hKK KK
      refine takeQ (some 40) (i := 9) (v := ?v10) rfl rfl (by kernel_rfl) (by kernel_rfl) (by kernel_rfl) (fun _ _ _ h => h) (Or.inl ⟨by rfl, ?h10⟩) hS5 ?r10
      case h10 => (intro w hw; obtain ⟨q0, q1, q2, q3, q4⟩ := hw; go_simp; try (with_reducible rfl))
      try simp only [Act.put, List.setIfInBounds_toArray]
      refine takeQ (some 41) (i := 10) (v := ?v11) rfl rfl (by kernel_rfl) (by kernel_rfl) (by kernel_rfl) (fun _ _ _ h => h) (Or.inl ⟨by rfl, ?h11⟩) hS5 ?r11
      case h11 => (intro w hw; obtain ⟨q0, q1, q2, q3, q4⟩ := hw; go_simp; try (with_reducible rfl))
      try simp only [Act.put]
      refine wpAnyH_ready (rs := [11]) (by kernel_rfl) (by simp) ?_
      refine AllReadyH.cons rfl ?_ AllReadyH.nil
      intro KK hKK
      go_simp
      refine hKK.out _ _ hfin.s (fun _ => ?_)
      clear hKK KK
      refine wpAnyH_done (by kernel_rfl) ?_ _
      go_wp2_with fail
      go_meet
      exact ⟨_, _, rfl, hfin⟩
   case rest =>
    obtain ⟨vk5, vx, rfl, hX5⟩ := hcut
    clear hX hOps1
    have hX := hX5
    clear hX5
    have HRD : Hid (∃ rd, rd = rdFr (wrTo h h.length) (k : Int) (refReads l)) := hid ⟨_, rfl⟩
    obtain ⟨rd, hrd⟩ := HRD.out
    have HRD2 := hid hrd
    clear hrd HRD
    go_upto_region 10 with fail
    go_cut [54] from 42 to 54 (fun u wx => ∃ (v5 : Value) (vy : Value), u = .pointer (some ⟨w2.heap.size, 195, none⟩) ∧ OfS w2 gx ts tb tc (.slice a2 l.length cap2) h.length vk5 v5 sd (K ++ [(vx, keysOf l)]) (R ++ [(vy, rd)]) wx)
    case first =>
     have hOps1 := HOPF.out wc hX.b
     have hMc := hM.below hX.b
     have kd := (Below.refl wc.heap.size wc).drew
     have CK : Hid (∀ wx, Below wc.heap.size wc wx → Calls Tryz.prog 58 #[.int .i64 k, .agg #[.int .i64 ts, .int .i64 tb, .int .i64 tc, .slice a2 l.length cap2], .map (some bm)] wx fun e w' => ∃ v, e = .returned v ∧ w'.ownsRow (w2.heap.size + 2) 111 2 v rd.length (frV rd) ∧ Below wx.heap.size wx w') := hid (fun wx hx => (oreads_any (k : Int) ts tb tc _ l (wrTo h h.length) bm _ _ wx (hOps1.below hx) HOL.out (by omega) (hMc.below hx)).mono (fun e w' ⟨v, out, he, ho, hr, _, hbb⟩ => by
      obtain rfl := hr.eq (refReads_rise HKL.out)
      rw [← HRD2.out] at ho
      exact ⟨v, he, own_base' ho (show w2.heap.size + 2 ≤ wx.heap.size by have h1 := hx.size; have h2 := hX.z; omega), hbb⟩))
     have HS : Hid (∀ wx, Below wc.heap.size wc wx → SB (w2.heap.size + 1) w2.heap.size gx ts tb tc (.slice a2 l.length cap2) wx) := hid (fun wx hx => hX.s.below hx)
     have hc0 := hX.o.cR
     have HCL : Hid (∀ wx, Below wc.heap.size wc wx → wx.cell? ⟨w2.heap.size, 195, none⟩ = some (.slice aR R.length cR)) := hid (fun wx hx => (hx.cell (p := ⟨w2.heap.size, 195, none⟩) (block_lt hc0)).trans hc0)
     have HCA : Hid (∀ wx, Below wc.heap.size wc wx → ∀ o, (wx.alloc o).cell? ⟨w2.heap.size, 195, none⟩ = some (.slice aR R.length cR)) := hid (fun wx hx o => HCL.out _ (hx.alloc hx.size o))
     have HRO : Hid (∀ wx, Below wc.heap.size wc wx → wx.ownsRow (w2.heap.size + 2) 103 1 (.slice aR R.length cR) R.length (R.map (·.1))) := hid (fun wx hx => owns_below hX.r.rr hx)
     have HSZ : Hid (∀ wx (o : Obj), Below wc.heap.size wc wx → w2.heap.size + 2 ≤ (wx.alloc o).heap.size) := hid (fun wx o hx => by have h1 := hx.size; have h2 := hX.z; simp; omega)
     have HFIN := hid (fun wx w5 v v5 hx => hX.addR (wx := wx) (w5 := w5) (v := v) (v5 := v5) (t := 103) (l := rd) hx)
     have n3 : Hid (R.length + 1 ≤ maxLen) := hid (by unfold maxLen; omega)
     have n4 : Hid ((R.length + 1) * 24 ≤ 140737488355328) := hid (by omega)
     refine wp_region_held_drew (S := SB (w2.heap.size + 1) w2.heap.size gx ts tb tc (.slice a2 l.length cap2)) (by kernel_rfl) hX.s.drew (fun hS0 => ?_)
     refine takeQ (some 42) (i := 0) (v := ?v101) rfl rfl (by kernel_rfl) (by kernel_rfl) (by kernel_rfl) (fun _ _ _ h => h) (Or.inl ⟨by rfl, ?h101⟩) hS0 ?r101
     case h101 => (intro w hw; obtain ⟨q0, q1, q2, q3, q4⟩ := hw; go_simp; try (with_reducible rfl))
     try simp only [Act.put, zA7, zB7, zC7]
     refine takeQ (some 43) (i := 1) (v := ?v102) rfl rfl (by kernel_rfl) (by kernel_rfl) (by kernel_rfl) (fun _ _ _ h => h) (Or.inl ⟨by rfl, ?h102⟩) hS0 ?r102
     case h102 => (intro w hw; obtain ⟨q0, q1, q2, q3, q4⟩ := hw; go_simp; try (with_reducible rfl))
     try simp only [Act.put, zA7, zB7, zC7]
     refine takeQ (some 47) (i := 5) (v := ?v103) rfl rfl (by kernel_rfl) (by kernel_rfl) (by kernel_rfl) (fun _ _ _ h => h) (Or.inl ⟨by rfl, ?h103⟩) hS0 ?r103
     case h103 => (intro w hw; obtain ⟨q0, q1, q2, q3, q4⟩ := hw; go_simp; try (with_reducible rfl))
     try simp only [Act.put, zA7, zB7, zC7]
     refine takeQ (some 48) (i := 6) (v := ?v104) rfl rfl (by kernel_rfl) (by kernel_rfl) (by kernel_rfl) (fun _ _ _ h => h) (Or.inl ⟨by rfl, ?h104⟩) hS0 ?r104
     case h104 => (intro w hw; obtain ⟨q0, q1, q2, q3, q4⟩ := hw; go_simp; try (with_reducible rfl))
     try simp only [Act.put, zA7, zB7, zC7]
     refine takeQ (some 49) (i := 7) (v := ?v105) rfl rfl (by kernel_rfl) (by kernel_rfl) (by kernel_rfl) (fun _ _ _ h => h) (Or.inl ⟨by rfl, ?h105⟩) hS0 ?r105
     case h105 => (intro w hw; obtain ⟨q0, q1, q2, q3, q4⟩ := hw; go_simp; try (with_reducible rfl))
     try simp only [Act.put, zA7, zB7, zC7]
     refine takeQ (some 44) (i := 2) (v := ?v106) rfl rfl (by kernel_rfl) (by kernel_rfl) (by kernel_rfl) (fun _ _ _ h => h) (Or.inl ⟨by rfl, ?h106⟩) hS0 ?r106
     case h106 => (intro w hw; obtain ⟨q0, q1, q2, q3, q4⟩ := hw; go_simp; try (with_reducible rfl))
     try simp only [Act.put, zA7, zB7, zC7]
     refine takeQ (some 45) (i := 3) (v := ?v107) rfl rfl (by kernel_rfl) (by kernel_rfl) (by kernel_rfl) (fun _ _ _ h => h) (Or.inl ⟨by rfl, ?h107⟩) hS0 ?r107
     case h107 => (intro w hw; obtain ⟨q0, q1, q2, q3, q4⟩ := hw; go_simp; try (with_reducible rfl))
     try simp only [Act.put, zA7, zB7, zC7]
     refine wpAnyH_ready (rs := [4, 8]) (by kernel_rfl) (by simp) ?_
     refine AllReadyH.cons rfl ?_ (AllReadyH.cons rfl ?_ AllReadyH.nil)
     ·intro KK hKK
      go_simp
      refine hKK.out _ _ hS0 (fun _ => ?_)
      clear hKK KK
      refine wpAnyH_ready (rs := [8]) (by kernel_rfl) (by simp) ?_
      refine AllReadyH.cons rfl ?_ AllReadyH.nil
      intro KK hKK
      go_simp
      refine (CK.out _ kd).mono ?_
      rintro e wx ⟨vx, rfl, hox, hbx⟩
      obtain ⟨ax, cx, hvx⟩ := owns_form hox
      subst hvx
      show KK _ _
      have kk := below_then kd hbx
      have hS1 := HS.out _ kk
      have hcw := HCL.out _ kk
      refine hKK.out _ _ hS1 (fun _ => ?_)
      clear hKK KK
      refine wpAnyH_ready (rs := [9]) (by kernel_rfl) (by simp) ?_
      refine AllReadyH.cons rfl ?_ AllReadyH.nil
      intro KK hKK
      go_simp
      have hS2 := hS1.alloc (.cells #[.slice ax rd.length cx] 103)
      have hcw := HCA.out _ kk (.cells #[.slice ax rd.length cx] 103)
      refine hKK.out _ _ hS2 (fun _ => ?_)
      clear hKK KK
      refine wpAnyH_ready (rs := [10]) (by kernel_rfl) (by simp) ?_
      refine AllReadyH.cons rfl ?_ AllReadyH.nil
      intro KK hKK
      refine step_app _ rfl (.tmp 46) (.tmp 51) 99 rfl (w2.heap.size + 2) 103 i2 (.slice none 0 0) 1 24 Tryz.underlying99 hi2 hza2 hzb2 hzc2 rfl (by decide) (.slice aR R.length cR) R.length (R.map (·.1)) (by simp [Act.eval]) ((HRO.out _ kk).alloc _) ⟨_, 0, none⟩ 1 1 [.slice ax rd.length cx] (by rfl) rfl (cell_one_new _ _ _) (by intro u hu; simp at hu; subst hu; rfl) n3.out n4.out (HSZ.out _ _ kk) ?_
      intro v5 w5 hown5 hg5
      obtain ⟨a5, c5, hv5⟩ := owns_form hown5
      subst hv5
      obtain ⟨hfin, hS5, hfz, hcz⟩ := HFIN.out _ _ _ _ kk hox hown5 hg5
      show KK _ _
      refine hKK.out _ _ hS5 (fun _ => ?_)
      clear hKK KK
      refine takeQ (some 53) (i := 11) (v := ?v108) rfl rfl (by kernel_rfl) (by kernel_rfl) (by kernel_rfl) (fun _ _ _ h => h) (Or.inl ⟨by rfl, ?h108⟩) hS5 ?r108
      case h108 => (intro w hw; obtain ⟨q0, q1, q2, q3, q4⟩ := hw; go_simp; try (with_reducible rfl))
      try simp only [Act.put, List.setIfInBounds_toArray]
      refine takeQ (some 54) (i := 12) (v := ?v109) rfl rfl (by kernel_rfl) (by kernel_rfl) (by kernel_rfl) (fun _ _ _ h => h) (Or.inl ⟨by rfl, ?h109⟩) hS5 ?r109
      case h109 => (intro w hw; obtain ⟨q0, q1, q2, q3, q4⟩ := hw; go_simp; try (with_reducible rfl))
      try simp only [Act.put]
      refine wpAnyH_ready (rs := [13]) (by kernel_rfl) (by simp) ?_
      refine AllReadyH.cons rfl ?_ AllReadyH.nil
      intro KK hKK
      go_simp
      refine hKK.out _ _ hfin.s (fun _ => ?_)
      clear hKK KK
      refine wpAnyH_done (by kernel_rfl) ?_ _
      go_wp2_with fail
      go_meet
      exact ⟨_, _, rfl, hfin⟩
     ·intro KK hKK
      go_simp
      refine (CK.out _ kd).mono ?_
      rintro e wx ⟨vx, rfl, hox, hbx⟩
      obtain ⟨ax, cx, hvx⟩ := owns_form hox
      subst hvx
      show KK _ _
      have kk := below_then kd hbx
      have hS1 := HS.out _ kk
      have hcw := HCL.out _ kk
      refine hKK.out _ _ hS1 (fun _ => ?_)
      clear hKK KK
      refine wpAnyH_ready (rs := [4, 9]) (by kernel_rfl) (by simp) ?_
      refine AllReadyH.cons rfl ?_ (AllReadyH.cons rfl ?_ AllReadyH.nil)
      ·intro KK hKK
       go_simp
       refine hKK.out _ _ hS1 (fun _ => ?_)
       clear hKK KK
       refine wpAnyH_ready (rs := [9]) (by kernel_rfl) (by simp) ?_
       refine AllReadyH.cons rfl ?_ AllReadyH.nil
       intro KK hKK
       go_simp
       have hS2 := hS1.alloc (.cells #[.slice ax rd.length cx] 103)
       have hcw := HCA.out _ kk (.cells #[.slice ax rd.length cx] 103)
       refine hKK.out _ _ hS2 (fun _ => ?_)
       clear hKK KK
       refine wpAnyH_ready (rs := [10]) (by kernel_rfl) (by simp) ?_
       refine AllReadyH.cons rfl ?_ AllReadyH.nil
       intro KK hKK
       refine step_app _ rfl (.tmp 46) (.tmp 51) 99 rfl (w2.heap.size + 2) 103 i2 (.slice none 0 0) 1 24 Tryz.underlying99 hi2 hza2 hzb2 hzc2 rfl (by decide) (.slice aR R.length cR) R.length (R.map (·.1)) (by simp [Act.eval]) ((HRO.out _ kk).alloc _) ⟨_, 0, none⟩ 1 1 [.slice ax rd.length cx] (by rfl) rfl (cell_one_new _ _ _) (by intro u hu; simp at hu; subst hu; rfl) n3.out n4.out (HSZ.out _ _ kk) ?_
       intro v5 w5 hown5 hg5
       obtain ⟨a5, c5, hv5⟩ := owns_form hown5
       subst hv5
       obtain ⟨hfin, hS5, hfz, hcz⟩ := HFIN.out _ _ _ _ kk hox hown5 hg5
       show KK _ _
       refine hKK.out _ _ hS5 (fun _ => ?_)
       clear hKK KK
       refine takeQ (some 53) (i := 11) (v := ?v110) rfl rfl (by kernel_rfl) (by kernel_rfl) (by kernel_rfl) (fun _ _ _ h => h) (Or.inl ⟨by rfl, ?h110⟩) hS5 ?r110
       case h110 => (intro w hw; obtain ⟨q0, q1, q2, q3, q4⟩ := hw; go_simp; try (with_reducible rfl))
       try simp only [Act.put, List.setIfInBounds_toArray]
       refine takeQ (some 54) (i := 12) (v := ?v111) rfl rfl (by kernel_rfl) (by kernel_rfl) (by kernel_rfl) (fun _ _ _ h => h) (Or.inl ⟨by rfl, ?h111⟩) hS5 ?r111
       case h111 => (intro w hw; obtain ⟨q0, q1, q2, q3, q4⟩ := hw; go_simp; try (with_reducible rfl))
       try simp only [Act.put]
       refine wpAnyH_ready (rs := [13]) (by kernel_rfl) (by simp) ?_
       refine AllReadyH.cons rfl ?_ AllReadyH.nil
       intro KK hKK
       go_simp
       refine hKK.out _ _ hfin.s (fun _ => ?_)
       clear hKK KK
       refine wpAnyH_done (by kernel_rfl) ?_ _
       go_wp2_with fail
       go_meet
       exact ⟨_, _, rfl, hfin⟩
      ·intro KK hKK
       go_simp
       have hS2 := hS1.alloc (.cells #[.slice ax rd.length cx] 103)
       have hcw := HCA.out _ kk (.cells #[.slice ax rd.length cx] 103)
       refine hKK.out _ _ hS2 (fun _ => ?_)
       clear hKK KK
       refine wpAnyH_ready (rs := [4]) (by kernel_rfl) (by simp) ?_
       refine AllReadyH.cons rfl ?_ AllReadyH.nil
       intro KK hKK
       go_simp
       refine hKK.out _ _ hS2 (fun _ => ?_)
       clear hKK KK
       refine wpAnyH_ready (rs := [10]) (by kernel_rfl) (by simp) ?_
       refine AllReadyH.cons rfl ?_ AllReadyH.nil
       intro KK hKK
       refine step_app _ rfl (.tmp 46) (.tmp 51) 99 rfl (w2.heap.size + 2) 103 i2 (.slice none 0 0) 1 24 Tryz.underlying99 hi2 hza2 hzb2 hzc2 rfl (by decide) (.slice aR R.length cR) R.length (R.map (·.1)) (by simp [Act.eval]) ((HRO.out _ kk).alloc _) ⟨_, 0, none⟩ 1 1 [.slice ax rd.length cx] (by rfl) rfl (cell_one_new _ _ _) (by intro u hu; simp at hu; subst hu; rfl) n3.out n4.out (HSZ.out _ _ kk) ?_
       intro v5 w5 hown5 hg5
       obtain ⟨a5, c5, hv5⟩ := owns_form hown5
       subst hv5
       obtain ⟨hfin, hS5, hfz, hcz⟩ := HFIN.out _ _ _ _ kk hox hown5 hg5
       show KK _ _
       refine hKK.out _ _ hS5 (fun _ => ?_)
       clear hKK KK
       refine takeQ (some 53) (i := 11) (v := ?v112) rfl rfl (by kernel_rfl) (by kernel_rfl) (by kernel_rfl) (fun _ _ _ h => h) (Or.inl ⟨by rfl, ?h112⟩) hS5 ?r112
       case h112 => (intro w hw; obtain ⟨q0, q1, q2, q3, q4⟩ := hw; go_simp; try (with_reducible rfl))
       try simp only [Act.put, List.setIfInBounds_toArray]
       refine takeQ (some 54) (i := 12) (v := ?v113) rfl rfl (by kernel_rfl) (by kernel_rfl) (by kernel_rfl) (fun _ _ _ h => h) (Or.inl ⟨by rfl, ?h113⟩) hS5 ?r113
       case h113 => (intro w hw; obtain ⟨q0, q1, q2, q3, q4⟩ := hw; go_simp; try (with_reducible rfl))
       try simp only [Act.put]
       refine wpAnyH_ready (rs := [13]) (by kernel_rfl) (by simp) ?_
       refine AllReadyH.cons rfl ?_ AllReadyH.nil
       intro KK hKK
       go_simp
       refine hKK.out _ _ hfin.s (fun _ => ?_)
       clear hKK KK
       refine wpAnyH_done (by kernel_rfl) ?_ _
       go_wp2_with fail
       go_meet
       exact ⟨_, _, rfl, hfin⟩
    case rest =>
     obtain ⟨vr5, vy, rfl, hX5⟩ := hcut
     clear hX
     have hX := hX5
     clear hX5
     have hOps1 := HOPF.out wc hX.b
     have hMc := hM.below hX.b
     have kd := (Below.refl wc.heap.size wc).drew
     have HSO : Hid (∃ so, so = (!(refReads l).any (badFr (wrTo h h.length) (k : Int)) && steadyL l)) := hid ⟨_, rfl⟩
     obtain ⟨so, hso⟩ := HSO.out
     have HSO2 := hid hso
     clear hso HSO
     have CK : Hid (∀ wx, Below wc.heap.size wc wx → Calls Tryz.prog 59 #[.int .i64 k, .agg #[.int .i64 ts, .int .i64 tb, .int .i64 tc, .slice a2 l.length cap2], .map (some bm)] wx fun e w' => e = .returned (.bool so) ∧ Below wx.heap.size wx w') := hid (fun wx hx => (osound_any (k : Int) ts tb tc _ l (wrTo h h.length) bm _ _ wx (hOps1.below hx) HOL.out (by omega) (hMc.below hx)).mono (fun e w' ⟨out, he, hr, _, hbb⟩ => by
      obtain rfl := hr.eq (refReads_rise HKL.out)
      rw [← HSO2.out] at he
      exact ⟨he, hbb⟩))
     have HK0 : Hid ((K ++ [(vx, keysOf l)]).map (·.2) = keysTo h (k + 1) ∧ (R ++ [(vy, rd)]).map (·.2) = readsTo h (k + 1) ∧ (sd && so) = soundTo h (k + 1)) := hid (by
      refine ⟨?_, ?_, ?_⟩
      ·rw [List.map_append, keysTo_succ, ← HK.out.1, HLK.out]; rfl
      ·rw [List.map_append, readsTo_succ, ← HK.out.2.1]
       unfold readsOf
       rw [HLK.out, ← HRD2.out]; rfl
      ·rw [soundTo_succ, ← HK.out.2.2]
       unfold soundOf
       rw [HLK.out, ← HSO2.out])
     go_upto_region 11 with fail
     cases sd
     ·have HK1 : Hid ((K ++ [(vx, keysOf l)]).map (·.2) = keysTo h (k + 1) ∧ (R ++ [(vy, rd)]).map (·.2) = readsTo h (k + 1) ∧ false = soundTo h (k + 1)) := hid HK0.out
      clear HK0
      refine wp_region_held_drew (S := SB (w2.heap.size + 1) w2.heap.size gx ts tb tc (.slice a2 l.length cap2)) (by kernel_rfl) hX.s.drew (fun hS0 => ?_)
      have hc0 := hX.o.cS
      refine takeQ (some 55) (i := 0) (v := ?v201) rfl rfl (by kernel_rfl) (by kernel_rfl) (by kernel_rfl) (fun _ _ _ h => h) (Or.inl ⟨by rfl, ?h201⟩) hS0 ?r201
      case h201 => (intro w hw; obtain ⟨q0, q1, q2, q3, q4⟩ := hw; go_simp; try (with_reducible rfl))
      try simp only [Act.put, zA7, zB7, zC7]
      refine takeQ (some 56) (i := 1) (v := ?v202) rfl rfl (by kernel_rfl) (by kernel_rfl) (by kernel_rfl) (fun _ _ _ h => h) (Or.inl ⟨by rfl, ?h202⟩) hS0 ?r202
      case h202 => (intro w hw; obtain ⟨q0, q1, q2, q3, q4⟩ := hw; go_simp; try (with_reducible rfl))
      try simp only [Act.put, zA7, zB7, zC7]
      refine takeQ (some 57) (i := 2) (v := ?v203) rfl rfl (by kernel_rfl) (by kernel_rfl) (by kernel_rfl) (fun _ _ _ h => h) (Or.inl ⟨by rfl, ?h203⟩) hS0 ?r203
      case h203 => (intro w hw; obtain ⟨q0, q1, q2, q3, q4⟩ := hw; go_simp; try (with_reducible rfl))
      try simp only [Act.put, zA7, zB7, zC7]
      refine takeQ (some 58) (i := 3) (v := ?v204) rfl rfl (by kernel_rfl) (by kernel_rfl) (by kernel_rfl) (fun _ _ _ h => h) (Or.inl ⟨by rfl, ?h204⟩) hS0 ?r204
      case h204 => (intro w hw; obtain ⟨q0, q1, q2, q3, q4⟩ := hw; go_simp; try (with_reducible rfl))
      try simp only [Act.put, zA7, zB7, zC7]
      refine wpAnyH_ready (rs := [4]) (by kernel_rfl) (by simp) ?_
      refine AllReadyH.cons rfl ?_ AllReadyH.nil
      intro KK hKK
      go_simp
      refine hKK.out _ _ hS0 (fun _ => ?_)
      clear hKK KK
      refine takeQ (some 60) (i := 5) (v := ?v205) rfl rfl (by kernel_rfl) (by kernel_rfl) (by kernel_rfl) (fun _ _ _ h => h) (Or.inl ⟨by rfl, ?h205⟩) hS0 ?r205
      case h205 => (intro w hw; obtain ⟨q0, q1, q2, q3, q4⟩ := hw; go_simp; try (with_reducible rfl))
      try simp only [Act.put, zA7, zB7, zC7]
      refine takeQ (some 61) (i := 6) (v := undef) rfl rfl (by kernel_rfl) (by kernel_rfl) (by kernel_rfl) (fun _ _ _ h => h) (Or.inr ⟨by rfl, rfl⟩) hS0 ?_
      try simp only [Act.put, zA7, zB7, zC7]
      refine takeQ (some 62) (i := 7) (v := undef) rfl rfl (by kernel_rfl) (by kernel_rfl) (by kernel_rfl) (fun _ _ _ h => h) (Or.inr ⟨by rfl, rfl⟩) hS0 ?_
      try simp only [Act.put, zA7, zB7, zC7]
      refine takeQ (some 63) (i := 8) (v := undef) rfl rfl (by kernel_rfl) (by kernel_rfl) (by kernel_rfl) (fun _ _ _ h => h) (Or.inr ⟨by rfl, rfl⟩) hS0 ?_
      try simp only [Act.put, zA7, zB7, zC7]
      refine wpAnyH_ready (rs := [9]) (by kernel_rfl) (by simp) ?_
      refine AllReadyH.cons rfl ?_ AllReadyH.nil
      intro KK hKK
      go_simp
      have hY := hX.below kd
      have hf := hY.o.free (i := 196) (by omega)
      have hc := hY.o.cS
      refine hKK.out _ _ hS0 (fun _ => ?_)
      clear hKK KK
      refine takeQ (some 65) (i := 10) (v := ?v206) rfl rfl (by kernel_rfl) (by kernel_rfl) (by kernel_rfl) (fun _ _ _ h => h) (Or.inl ⟨by rfl, ?h206⟩) hS0 ?r206
      case h206 => (intro w hw; obtain ⟨q0, q1, q2, q3, q4⟩ := hw; go_simp; try (with_reducible rfl))
      try simp only [Act.put, zA7, zB7, zC7]
      refine takeQ (some 66) (i := 11) (v := ?v207) rfl rfl (by kernel_rfl) (by kernel_rfl) (by kernel_rfl) (fun _ _ _ h => h) (Or.inl ⟨by rfl, ?h207⟩) hS0 ?r207
      case h207 => (intro w hw; obtain ⟨q0, q1, q2, q3, q4⟩ := hw; go_simp; try (with_reducible rfl))
      try simp only [Act.put, zA7, zB7, zC7]
      refine takeQ (some 67) (i := 12) (v := ?v208) rfl rfl (by kernel_rfl) (by kernel_rfl) (by kernel_rfl) (fun _ _ _ h => h) (Or.inl ⟨by rfl, ?h208⟩) hS0 ?r208
      case h208 => (intro w hw; obtain ⟨q0, q1, q2, q3, q4⟩ := hw; go_simp; try (with_reducible rfl))
      try simp only [Act.put, zA7, zB7, zC7]
      refine wpAnyH_ready (rs := [13]) (by kernel_rfl) (by simp) ?_
      refine AllReadyH.cons rfl ?_ AllReadyH.nil
      intro KK hKK
      go_simp
      have hZ := hY.setS false
      refine hKK.out _ _ hZ.s (fun _ => ?_)
      clear hKK KK
      refine wpAnyH_done (by kernel_rfl) ?_ _
      clear hX hY CK kd hc hf hS0
      go_wp2_with fail
      go_roundw
      case rel => exact ⟨k + 1, _, _, _, _, _, by omega, by go_num, HK1.out.1, HK1.out.2.1, HK1.out.2.2, hZ.o, hZ.s.1, hZ.r, hZ.b, hZ.z⟩
      case measure => simp [intOf]; omega
     ·have HK1 : Hid ((K ++ [(vx, keysOf l)]).map (·.2) = keysTo h (k + 1) ∧ (R ++ [(vy, rd)]).map (·.2) = readsTo h (k + 1) ∧ so = soundTo h (k + 1)) := hid HK0.out
      clear HK0
      refine wp_region_held_drew (S := SB (w2.heap.size + 1) w2.heap.size gx ts tb tc (.slice a2 l.length cap2)) (by kernel_rfl) hX.s.drew (fun hS0 => ?_)
      have hc0 := hX.o.cS
      refine takeQ (some 55) (i := 0) (v := ?v301) rfl rfl (by kernel_rfl) (by kernel_rfl) (by kernel_rfl) (fun _ _ _ h => h) (Or.inl ⟨by rfl, ?h301⟩) hS0 ?r301
      case h301 => (intro w hw; obtain ⟨q0, q1, q2, q3, q4⟩ := hw; go_simp; try (with_reducible rfl))
      try simp only [Act.put, zA7, zB7, zC7]
      refine takeQ (some 56) (i := 1) (v := ?v302) rfl rfl (by kernel_rfl) (by kernel_rfl) (by kernel_rfl) (fun _ _ _ h => h) (Or.inl ⟨by rfl, ?h302⟩) hS0 ?r302
      case h302 => (intro w hw; obtain ⟨q0, q1, q2, q3, q4⟩ := hw; go_simp; try (with_reducible rfl))
      try simp only [Act.put, zA7, zB7, zC7]
      refine takeQ (some 57) (i := 2) (v := ?v303) rfl rfl (by kernel_rfl) (by kernel_rfl) (by kernel_rfl) (fun _ _ _ h => h) (Or.inl ⟨by rfl, ?h303⟩) hS0 ?r303
      case h303 => (intro w hw; obtain ⟨q0, q1, q2, q3, q4⟩ := hw; go_simp; try (with_reducible rfl))
      try simp only [Act.put, zA7, zB7, zC7]
      refine takeQ (some 58) (i := 3) (v := ?v304) rfl rfl (by kernel_rfl) (by kernel_rfl) (by kernel_rfl) (fun _ _ _ h => h) (Or.inl ⟨by rfl, ?h304⟩) hS0 ?r304
      case h304 => (intro w hw; obtain ⟨q0, q1, q2, q3, q4⟩ := hw; go_simp; try (with_reducible rfl))
      try simp only [Act.put, zA7, zB7, zC7]
      refine wpAnyH_ready (rs := [4]) (by kernel_rfl) (by simp) ?_
      refine AllReadyH.cons rfl ?_ AllReadyH.nil
      intro KK hKK
      go_simp
      refine hKK.out _ _ hS0 (fun _ => ?_)
      clear hKK KK
      refine takeQ (some 60) (i := 5) (v := ?v305) rfl rfl (by kernel_rfl) (by kernel_rfl) (by kernel_rfl) (fun _ _ _ h => h) (Or.inl ⟨by rfl, ?h305⟩) hS0 ?r305
      case h305 => (intro w hw; obtain ⟨q0, q1, q2, q3, q4⟩ := hw; go_simp; try (with_reducible rfl))
      try simp only [Act.put, zA7, zB7, zC7]
      refine takeQ (some 61) (i := 6) (v := ?v306) rfl rfl (by kernel_rfl) (by kernel_rfl) (by kernel_rfl) (fun _ _ _ h => h) (Or.inl ⟨by rfl, ?h306⟩) hS0 ?r306
      case h306 => (intro w hw; obtain ⟨q0, q1, q2, q3, q4⟩ := hw; go_simp; try (with_reducible rfl))
      try simp only [Act.put, zA7, zB7, zC7]
      refine takeQ (some 62) (i := 7) (v := ?v307) rfl rfl (by kernel_rfl) (by kernel_rfl) (by kernel_rfl) (fun _ _ _ h => h) (Or.inl ⟨by rfl, ?h307⟩) hS0 ?r307
      case h307 => (intro w hw; obtain ⟨q0, q1, q2, q3, q4⟩ := hw; go_simp; try (with_reducible rfl))
      try simp only [Act.put, zA7, zB7, zC7]
      refine takeQ (some 63) (i := 8) (v := ?v308) rfl rfl (by kernel_rfl) (by kernel_rfl) (by kernel_rfl) (fun _ _ _ h => h) (Or.inl ⟨by rfl, ?h308⟩) hS0 ?r308
      case h308 => (intro w hw; obtain ⟨q0, q1, q2, q3, q4⟩ := hw; go_simp; try (with_reducible rfl))
      try simp only [Act.put, zA7, zB7, zC7]
      refine wpAnyH_ready (rs := [9]) (by kernel_rfl) (by simp) ?_
      refine AllReadyH.cons rfl ?_ AllReadyH.nil
      intro KK hKK
      go_simp
      refine (CK.out _ kd).mono ?_
      rintro e wx ⟨rfl, hbx⟩
      show KK _ _
      have kk := below_then kd hbx
      have hY := hX.below kk
      have hf := hY.o.free (i := 196) (by omega)
      have hc := hY.o.cS
      refine hKK.out _ _ hY.s (fun _ => ?_)
      clear hKK KK
      refine takeQ (some 65) (i := 10) (v := ?v309) rfl rfl (by kernel_rfl) (by kernel_rfl) (by kernel_rfl) (fun _ _ _ h => h) (Or.inl ⟨by rfl, ?h309⟩) hY.s ?r309
      case h309 => (intro w hw; obtain ⟨q0, q1, q2, q3, q4⟩ := hw; go_simp; try (with_reducible rfl))
      try simp only [Act.put, zA7, zB7, zC7]
      refine takeQ (some 66) (i := 11) (v := ?v310) rfl rfl (by kernel_rfl) (by kernel_rfl) (by kernel_rfl) (fun _ _ _ h => h) (Or.inl ⟨by rfl, ?h310⟩) hY.s ?r310
      case h310 => (intro w hw; obtain ⟨q0, q1, q2, q3, q4⟩ := hw; go_simp; try (with_reducible rfl))
      try simp only [Act.put, zA7, zB7, zC7]
      refine takeQ (some 67) (i := 12) (v := ?v311) rfl rfl (by kernel_rfl) (by kernel_rfl) (by kernel_rfl) (fun _ _ _ h => h) (Or.inl ⟨by rfl, ?h311⟩) hY.s ?r311
      case h311 => (intro w hw; obtain ⟨q0, q1, q2, q3, q4⟩ := hw; go_simp; try (with_reducible rfl))
      try simp only [Act.put, zA7, zB7, zC7]
      refine wpAnyH_ready (rs := [13]) (by kernel_rfl) (by simp) ?_
      refine AllReadyH.cons rfl ?_ AllReadyH.nil
      intro KK hKK
      go_simp
      have hZ := hY.setS so
      refine hKK.out _ _ hZ.s (fun _ => ?_)
      clear hKK KK
      refine wpAnyH_done (by kernel_rfl) ?_ _
      clear hX hY CK kd hc hf hS0 kk hbx
      go_wp2_with fail
      go_roundw
      case rel => exact ⟨k + 1, _, _, _, _, _, by omega, by go_num, HK1.out.1, HK1.out.2.1, HK1.out.2.2, hZ.o, hZ.s.1, hZ.r, hZ.b, hZ.z⟩
      case measure => simp [intOf]; omega
  ·have hkl : k = h.length := by omega
   subst hkl
   have hA4 := (hb.cell (p := ⟨w.heap.size, 0, none⟩) hlt).trans hA2
   have hbw := below_then hb4 hb
   have hX : OfT w2 w.heap.size (.slice ao h.length cap) h.length noR noR noR (.map none) vk vr sd K R wr := ⟨hO, ⟨hC, hA4⟩, hF, hb, hlt⟩
   have hKl : K.length ≤ 64 := by have := congrArg List.length HK.out.1; simp [keysTo] at this; omega
   obtain ⟨aK, cK, rfl⟩ := owns_form hX.r.kr
   obtain ⟨aR, cR, rfl⟩ := owns_form hX.r.rr
   have HKE : Hid (∀ p ∈ K, p.2.length ≤ 64 ∧ ∀ x ∈ p.2, InI x) := hid (fun p hp => by
    have hm : p.2 ∈ keysTo h h.length := by rw [← HK.out.1]; exact List.mem_map.2 ⟨p, hp, rfl⟩
    unfold keysTo at hm
    obtain ⟨i, hi, he⟩ := List.mem_map.1 hm
    have hil := List.mem_range.1 hi
    rw [← he]
    unfold keysOf
    refine ⟨by rw [List.length_map]; exact upTo_len _ 64, fun x hx => ?_⟩
    obtain ⟨q, hq, rfl⟩ := List.mem_map.1 hx
    have hq2 := lastW_key ((((refWrites_rise (by rw [opsAt_eq hil]; exact HKS.out _ (List.getElem_mem hil))).2 q).1 hq).1)
    exact inI_of (((HOK.out _ (List.getElem_mem hil)).2 q (by rw [← opsAt_eq hil]; exact hq2.2.2)).1))
   have kd := (Below.refl wr.heap.size wr).drew
   have CWR : Hid (∀ wx, Below wr.heap.size wr wx → Calls Tryz.prog 60 #[.slice aK K.length cK] wx fun e w' => ∃ b n c, e = .returned (.map (some b)) ∧ wx.heap.size ≤ b ∧ MapI eS Tryz.prog 3 w' b n (wrsTo K K.length) c ∧ AllSet (wrsTo K K.length) ∧ Below wx.heap.size wx w') := hid (fun wx hx => owriters_any _ K wx ((hX.r.below hx).rws) (by omega) (fun p hp => by have := (HKE.out p hp).1; omega) (fun p hp => (HKE.out p hp).2))
   have hmf : ∀ (fn : Fn) (first cap : Array Value) (w : World), (Instr.makeFunc fn first cap).run Tryz.prog w = .ok (.func fn first cap) w := fun _ _ _ _ => rfl
   clear hO hC hF hb hA4 hbw
   go_wp2_with fail
   refine wp_region_held_drew (S := SA (w2.heap.size + 1) w2.heap.size w.heap.size (.slice ao h.length cap)) (by kernel_rfl) hX.drew.s (fun hS0 => ?_)
   have hc0 := hX.o.cK
   refine takeQ (some 69) (i := 0) (v := ?v401) rfl rfl (by kernel_rfl) (by kernel_rfl) (by kernel_rfl) (fun _ _ _ h => h) (Or.inl ⟨by rfl, ?h401⟩) hS0 ?r401
   case h401 => (intro w hw; obtain ⟨q0, q1⟩ := hw; go_simp; try (with_reducible rfl))
   try simp only [Act.put, zA7, zB7, zC7]
   refine takeQ (some 70) (i := 1) (v := ?v402) rfl rfl (by kernel_rfl) (by kernel_rfl) (by kernel_rfl) (fun _ _ _ h => h) (Or.inl ⟨by rfl, ?h402⟩) hS0 ?r402
   case h402 => (intro w hw; obtain ⟨q0, q1⟩ := hw; go_simp; try (with_reducible rfl))
   try simp only [Act.put, zA7, zB7, zC7]
   refine takeQ (some 71) (i := 2) (v := ?v403) rfl rfl (by kernel_rfl) (by kernel_rfl) (by kernel_rfl) (fun _ _ _ h => h) (Or.inl ⟨by rfl, ?h403⟩) hS0 ?r403
   case h403 => (intro w hw; obtain ⟨q0, q1⟩ := hw; go_simp; try (with_reducible rfl))
   try simp only [Act.put, zA7, zB7, zC7]
   refine takeQ (some 72) (i := 3) (v := ?v404) rfl rfl (by kernel_rfl) (by kernel_rfl) (by kernel_rfl) (fun _ _ _ h => h) (Or.inl ⟨by rfl, ?h404⟩) hS0 ?r404
   case h404 => (intro w hw; obtain ⟨q0, q1⟩ := hw; go_simp; try (with_reducible rfl))
   try simp only [Act.put, zA7, zB7, zC7]
   refine wpAnyH_ready (rs := [4]) (by kernel_rfl) (by simp) ?_
   refine AllReadyH.cons rfl ?_ AllReadyH.nil
   intro KK hKK
   go_simp
   refine hKK.out _ _ hS0 (fun _ => ?_)
   clear hKK KK
   refine wpAnyH_ready (rs := [5]) (by kernel_rfl) (by simp) ?_
   refine AllReadyH.cons rfl ?_ AllReadyH.nil
   intro KK hKK
   go_simp
   refine (CWR.out _ kd).mono ?_
   rintro e wx ⟨bw, nw, cw, rfl, hbw, hMw, hAw, hbx⟩
   show KK _ _
   have hY := hX.below (below_then kd hbx)
   have hbB : w2.heap.size < bw := by have h1 := hX.b.size; have h2 := hX.o.lt; have h3 := kd.size; omega
   have hf := hY.o.free (i := 193) (by omega)
   have hc := hY.o.cM
   refine hKK.out _ _ hY.s (fun _ => ?_)
   clear hKK KK
   refine takeQ (some 75) (i := 6) (v := ?v405) rfl rfl (by kernel_rfl) (by kernel_rfl) (by kernel_rfl) (fun _ _ _ h => h) (Or.inl ⟨by rfl, ?h405⟩) hY.s ?r405
   case h405 => (intro w hw; obtain ⟨q0, q1⟩ := hw; go_simp; try (with_reducible rfl))
   try simp only [Act.put, zA7, zB7, zC7]
   refine takeQ (some 76) (i := 7) (v := ?v406) rfl rfl (by kernel_rfl) (by kernel_rfl) (by kernel_rfl) (fun _ _ _ h => h) (Or.inl ⟨by rfl, ?h406⟩) hY.s ?r406
   case h406 => (intro w hw; obtain ⟨q0, q1⟩ := hw; go_simp; try (with_reducible rfl))
   try simp only [Act.put, zA7, zB7, zC7]
   refine wpAnyH_ready (rs := [8]) (by kernel_rfl) (by simp) ?_
   refine AllReadyH.cons rfl ?_ AllReadyH.nil
   intro KK hKK
   go_simp
   have hX13 := hY.setM (.map (some bw))
   have hM13 := hMw.cell (a := ⟨w2.heap.size, 193, none⟩) (by simp; omega) (.map (some bw))
   refine hKK.out _ _ hX13.s (fun _ => ?_)
   clear hKK KK
   refine wpAnyH_done (by kernel_rfl) ?_ _
   clear hX hY kd CWR hc hf hc0 hS0 hMw
   generalize wx.setCell ⟨w2.heap.size, 193, none⟩ (.map (some bw)) = w3 at *
   have hX := hX13
   have hM3 := hM13
   clear hX13 hM13
   have kd := (Below.refl w3.heap.size w3).drew
   have CP : Hid (∀ wx, Below w3.heap.size w3 wx → Calls Tryz.prog 61 #[.int .i64 h.length, .func (.func 62) #[] #[.pointer (some ⟨w.heap.size, 0, none⟩)]] wx fun e w' => e = .returned (.agg (rowsA (sesM h))) ∧ Below wx.heap.size wx w') := hid (fun wx hx => pairs_any (sesP h) h.length (by omega) _ _ wx enters_ses (fun a b wy ha hb hy => ses_calls _ h _ a b wy ((hX.below (below_then hx hy)).s.2) (HT.out _ (below_then hb4 (hX.below (below_then hx hy)).b)) ha hb))
   go_wp2_with fail
   refine wp_region_held_drew (S := SA (w2.heap.size + 1) w2.heap.size w.heap.size (.slice ao h.length cap)) (by kernel_rfl) hX.drew.s (fun hS0 => ?_)
   refine takeQ (some 77) (i := 0) (v := ?v501) rfl rfl (by kernel_rfl) (by kernel_rfl) (by kernel_rfl) (fun _ _ _ h => h) (Or.inl ⟨by rfl, ?h501⟩) hS0 ?r501
   case h501 => (intro w hw; obtain ⟨q0, q1⟩ := hw; go_simp; try (with_reducible rfl))
   try simp only [Act.put, zA7, zB7, zC7]
   refine takeQ (some 78) (i := 1) (v := ?v502) rfl rfl (by kernel_rfl) (by kernel_rfl) (by kernel_rfl) (fun _ _ _ h => h) (Or.inl ⟨by rfl, ?h502⟩) hS0 ?r502
   case h502 => (intro w hw; obtain ⟨q0, q1⟩ := hw; go_simp; try (with_reducible rfl))
   try simp only [Act.put, zA7, zB7, zC7]
   refine takeQ (some 79) (i := 2) (v := ?v503) rfl rfl (by kernel_rfl) (by kernel_rfl) (by kernel_rfl) (fun _ _ _ h => h) (Or.inl ⟨by rfl, ?h503⟩) hS0 ?r503
   case h503 => (intro w hw; obtain ⟨q0, q1⟩ := hw; go_simp; try (with_reducible rfl))
   try simp only [Act.put, zA7, zB7, zC7]
   refine takeQ (some 80) (i := 3) (v := ?v504) rfl rfl (by kernel_rfl) (by kernel_rfl) (by kernel_rfl) (fun _ _ _ h => h) (Or.inl ⟨by rfl, ?h504⟩) hS0 ?r504
   case h504 => (intro w hw; obtain ⟨q0, q1⟩ := hw; go_simp; try (with_reducible rfl))
   try simp only [Act.put, zA7, zB7, zC7]
   refine wpAnyH_ready (rs := [4]) (by kernel_rfl) (by simp) ?_
   refine AllReadyH.cons rfl ?_ AllReadyH.nil
   intro KK hKK
   go_simp
   refine (CP.out _ kd).mono ?_
   rintro e wx ⟨rfl, hbx⟩
   show KK _ _
   have kk := below_then kd hbx
   have hY := hX.below kk
   have hMY := hM3.below kk
   refine hKK.out _ _ hY.s (fun _ => ?_)
   clear hKK KK
   refine takeQ (some 82) (i := 5) (v := ?v505) rfl rfl (by kernel_rfl) (by kernel_rfl) (by kernel_rfl) (fun _ _ _ h => h) (Or.inl ⟨by rfl, ?h505⟩) hY.s ?r505
   case h505 => (intro w hw; obtain ⟨q0, q1⟩ := hw; go_simp; try (with_reducible rfl))
   try simp only [Act.put, List.setIfInBounds_toArray]
   refine takeQ (some 83) (i := 6) (v := ?v506) rfl rfl (by kernel_rfl) (by kernel_rfl) (by kernel_rfl) (fun _ _ _ h => h) (Or.inl ⟨by rfl, ?h506⟩) hY.s ?r506
   case h506 => (intro w hw; obtain ⟨q0, q1⟩ := hw; go_simp; try (with_reducible rfl))
   try simp only [Act.put]
   refine wpAnyH_ready (rs := [7]) (by kernel_rfl) (by simp) ?_
   refine AllReadyH.cons rfl ?_ AllReadyH.nil
   intro KK hKK
   rw [if_pos (by rfl)]
   refine wp_store_mid 97 (.tmp 83) (.tmp 81) rfl w2.heap.size 1 (rowsA (sesM h)) rfl rfl (by rw [rowsA_size]; exact hY.o.there 1 (by omega)) (infoRel' _) (rows_one _) ?_
   have hXn := hY.setS (sesM h)
   have hMn := MapI.cells (g := w2.heap.size) (by omega) (rowsA (sesM h)).toList 1 _ hMY
   refine hKK.out _ _ hXn.s (fun _ => ?_)
   clear hKK KK
   refine wpAnyH_done (by kernel_rfl) ?_ _
   clear hX hM3 hY kd CP hS0 hMY kk hbx
   generalize wx.setCells w2.heap.size 1 (rowsA (sesM h)).toList = w3 at *
   have hX := hXn
   have hM3 := hMn
   clear hXn hMn
   have kd := (Below.refl w3.heap.size w3).drew
   have CP : Hid (∀ wx, Below w3.heap.size w3 wx → Calls Tryz.prog 61 #[.int .i64 h.length, .func (.func 63) #[] #[.pointer (some ⟨w.heap.size, 0, none⟩)]] wx fun e w' => e = .returned (.agg (rowsA (timM h))) ∧ Below wx.heap.size wx w') := hid (fun wx hx => pairs_any (timP h) h.length (by omega) _ _ wx enters_tim (fun a b wy ha hb hy => tim_calls _ h _ a b wy ((hX.below (below_then hx hy)).s.2) (HT.out _ (below_then hb4 (hX.below (below_then hx hy)).b)) ha hb))
   go_wp2_with fail
   refine wp_region_held_drew (S := SA (w2.heap.size + 1) w2.heap.size w.heap.size (.slice ao h.length cap)) (by kernel_rfl) hX.drew.s (fun hS0 => ?_)
   refine takeQ (some 84) (i := 0) (v := ?v601) rfl rfl (by kernel_rfl) (by kernel_rfl) (by kernel_rfl) (fun _ _ _ h => h) (Or.inl ⟨by rfl, ?h601⟩) hS0 ?r601
   case h601 => (intro w hw; obtain ⟨q0, q1⟩ := hw; go_simp; try (with_reducible rfl))
   try simp only [Act.put, zA7, zB7, zC7]
   refine takeQ (some 85) (i := 1) (v := ?v602) rfl rfl (by kernel_rfl) (by kernel_rfl) (by kernel_rfl) (fun _ _ _ h => h) (Or.inl ⟨by rfl, ?h602⟩) hS0 ?r602
   case h602 => (intro w hw; obtain ⟨q0, q1⟩ := hw; go_simp; try (with_reducible rfl))
   try simp only [Act.put]
   refine takeQ (some 86) (i := 2) (v := ?v603) rfl rfl (by kernel_rfl) (by kernel_rfl) (by kernel_rfl) (fun _ _ _ h => h) (Or.inl ⟨by rfl, ?h603⟩) hS0 ?r603
   case h603 => (intro w hw; obtain ⟨q0, q1⟩ := hw; go_simp; try (with_reducible rfl))
   try simp only [Act.put]
   refine takeQ (some 87) (i := 3) (v := ?v604) rfl rfl (by kernel_rfl) (by kernel_rfl) (by kernel_rfl) (fun _ _ _ h => h) (Or.inl ⟨by rfl, ?h604⟩) hS0 ?r604
   case h604 => (intro w hw; obtain ⟨q0, q1⟩ := hw; go_simp; try (with_reducible rfl))
   try simp only [Act.put]
   refine wpAnyH_ready (rs := [4]) (by kernel_rfl) (by simp) ?_
   refine AllReadyH.cons rfl ?_ AllReadyH.nil
   intro KK hKK
   go_simp
   refine (CP.out _ kd).mono ?_
   rintro e wx ⟨rfl, hbx⟩
   show KK _ _
   have kk := below_then kd hbx
   have hY := hX.below kk
   have hMY := hM3.below kk
   refine hKK.out _ _ hY.s (fun _ => ?_)
   clear hKK KK
   refine takeQ (some 89) (i := 5) (v := ?v605) rfl rfl (by kernel_rfl) (by kernel_rfl) (by kernel_rfl) (fun _ _ _ h => h) (Or.inl ⟨by rfl, ?h605⟩) hY.s ?r605
   case h605 => (intro w hw; obtain ⟨q0, q1⟩ := hw; go_simp; try (with_reducible rfl))
   try simp only [Act.put, List.setIfInBounds_toArray]
   refine takeQ (some 90) (i := 6) (v := ?v606) rfl rfl (by kernel_rfl) (by kernel_rfl) (by kernel_rfl) (fun _ _ _ h => h) (Or.inl ⟨by rfl, ?h606⟩) hY.s ?r606
   case h606 => (intro w hw; obtain ⟨q0, q1⟩ := hw; go_simp; try (with_reducible rfl))
   try simp only [Act.put]
   refine wpAnyH_ready (rs := [7]) (by kernel_rfl) (by simp) ?_
   refine AllReadyH.cons rfl ?_ AllReadyH.nil
   intro KK hKK
   rw [if_pos (by rfl)]
   refine wp_store_mid 97 (.tmp 90) (.tmp 88) rfl w2.heap.size 65 (rowsA (timM h)) rfl rfl (by rw [rowsA_size]; exact hY.o.there 65 (by omega)) (infoRel' _) (rows_one _) ?_
   have hXn := hY.setT (timM h)
   have hMn := MapI.cells (g := w2.heap.size) (by omega) (rowsA (timM h)).toList 65 _ hMY
   refine hKK.out _ _ hXn.s (fun _ => ?_)
   clear hKK KK
   refine wpAnyH_done (by kernel_rfl) ?_ _
   clear hX hM3 hY kd CP hS0 hMY kk hbx
   generalize wx.setCells w2.heap.size 65 (rowsA (timM h)).toList = w3 at *
   have hX := hXn
   have hM3 := hMn
   clear hXn hMn
   have kd := (Below.refl w3.heap.size w3).drew
   have CP : Hid (∀ wx, Below w3.heap.size w3 wx → Calls Tryz.prog 61 #[.int .i64 h.length, .func (.func 64) #[] #[.pointer (some ⟨w2.heap.size + 1, 0, none⟩)]] wx fun e w' => e = .returned (.agg (rowsA (froM h))) ∧ Below wx.heap.size wx w') := hid (fun wx hx => pairs_any (froP h) h.length (by omega) _ _ wx enters_fro (fun a b wy ha hb hy => fro_calls _ h R _ _ a b wy ((hX.below (below_then hx hy)).s.1) ((hX.below (below_then hx hy)).o.cR) ((hX.below (below_then hx hy)).r.frws) HK.out.2.1 hb))
   go_wp2_with fail
   refine wp_region_held_drew (S := SA (w2.heap.size + 1) w2.heap.size w.heap.size (.slice ao h.length cap)) (by kernel_rfl) hX.drew.s (fun hS0 => ?_)
   refine takeQ (some 91) (i := 0) (v := ?v701) rfl rfl (by kernel_rfl) (by kernel_rfl) (by kernel_rfl) (fun _ _ _ h => h) (Or.inl ⟨by rfl, ?h701⟩) hS0 ?r701
   case h701 => (intro w hw; obtain ⟨q0, q1⟩ := hw; go_simp; try (with_reducible rfl))
   try simp only [Act.put, zA7, zB7, zC7]
   refine takeQ (some 92) (i := 1) (v := ?v702) rfl rfl (by kernel_rfl) (by kernel_rfl) (by kernel_rfl) (fun _ _ _ h => h) (Or.inl ⟨by rfl, ?h702⟩) hS0 ?r702
   case h702 => (intro w hw; obtain ⟨q0, q1⟩ := hw; go_simp; try (with_reducible rfl))
   try simp only [Act.put]
   refine takeQ (some 93) (i := 2) (v := ?v703) rfl rfl (by kernel_rfl) (by kernel_rfl) (by kernel_rfl) (fun _ _ _ h => h) (Or.inl ⟨by rfl, ?h703⟩) hS0 ?r703
   case h703 => (intro w hw; obtain ⟨q0, q1⟩ := hw; go_simp; try (with_reducible rfl))
   try simp only [Act.put]
   refine takeQ (some 94) (i := 3) (v := ?v704) rfl rfl (by kernel_rfl) (by kernel_rfl) (by kernel_rfl) (fun _ _ _ h => h) (Or.inl ⟨by rfl, ?h704⟩) hS0 ?r704
   case h704 => (intro w hw; obtain ⟨q0, q1⟩ := hw; go_simp; try (with_reducible rfl))
   try simp only [Act.put]
   refine wpAnyH_ready (rs := [4]) (by kernel_rfl) (by simp) ?_
   refine AllReadyH.cons rfl ?_ AllReadyH.nil
   intro KK hKK
   go_simp
   refine (CP.out _ kd).mono ?_
   rintro e wx ⟨rfl, hbx⟩
   show KK _ _
   have kk := below_then kd hbx
   have hY := hX.below kk
   have hMY := hM3.below kk
   refine hKK.out _ _ hY.s (fun _ => ?_)
   clear hKK KK
   refine takeQ (some 96) (i := 5) (v := ?v705) rfl rfl (by kernel_rfl) (by kernel_rfl) (by kernel_rfl) (fun _ _ _ h => h) (Or.inl ⟨by rfl, ?h705⟩) hY.s ?r705
   case h705 => (intro w hw; obtain ⟨q0, q1⟩ := hw; go_simp; try (with_reducible rfl))
   try simp only [Act.put, List.setIfInBounds_toArray]
   refine takeQ (some 97) (i := 6) (v := ?v706) rfl rfl (by kernel_rfl) (by kernel_rfl) (by kernel_rfl) (fun _ _ _ h => h) (Or.inl ⟨by rfl, ?h706⟩) hY.s ?r706
   case h706 => (intro w hw; obtain ⟨q0, q1⟩ := hw; go_simp; try (with_reducible rfl))
   try simp only [Act.put]
   refine wpAnyH_ready (rs := [7]) (by kernel_rfl) (by simp) ?_
   refine AllReadyH.cons rfl ?_ AllReadyH.nil
   intro KK hKK
   rw [if_pos (by rfl)]
   refine wp_store_mid 97 (.tmp 97) (.tmp 95) rfl w2.heap.size 129 (rowsA (froM h)) rfl rfl (by rw [rowsA_size]; exact hY.o.there 129 (by omega)) (infoRel' _) (rows_one _) ?_
   have hXn := hY.setF (froM h)
   have hMn := MapI.cells (g := w2.heap.size) (by omega) (rowsA (froM h)).toList 129 _ hMY
   refine hKK.out _ _ hXn.s (fun _ => ?_)
   clear hKK KK
   refine wpAnyH_done (by kernel_rfl) ?_ _
   clear hX hM3 hY kd CP hS0 hMY kk hbx
   generalize wx.setCells w2.heap.size 129 (rowsA (froM h)).toList = w3 at *
   have hq := hXn.s.1
   go_wp2_with fail
   go_ret2
   exact ⟨⟨_, rfl, by have := hb4.size; omega, _, _, _, _, _, K, R, HK.out.2.2 ▸ hXn.o, hMn, hAw, hXn.r, HK.out.1, HK.out.2.1⟩, below_then hb4 hXn.b⟩
end

section
open Go.RowKit
def sp14 (v1 v2 : Value) : List TxnV := [⟨0, 1, 4, v1, [⟨false, 0, 1⟩]⟩, ⟨1, 2, 3, v2, [⟨true, 0, 1⟩]⟩]
theorem sp14_ok (v1 v2 : Value) : ∀ t ∈ sp14 v1 v2, t.ok := by
 intro t ht
 simp [sp14] at ht
 rcases ht with rfl | rfl <;> refine ⟨?_, fun o ho => ?_⟩
 all_goals first
  | (refine ⟨?_, ?_, ?_⟩ <;> simp [IntOk])
  | (simp at ho; subst ho; refine ⟨?_, ?_⟩ <;> simp [IntOk])
theorem sp14_short (v1 v2 : Value) : Short (sp14 v1 v2) := by
 intro t ht
 simp [sp14] at ht
 rcases ht with rfl | rfl <;> simp
theorem sp14_check (v1 v2 : Value) : checkI (sp14 v1 v2) = 0 := by rfl
end

section
open Go.RowKit
def decW (h : List TxnV) (lv : Int) : List Int × List (List Int) × Bool := match (decN h lv).1 with
 | none => ([], [], false)
 | some r => (r.reverse.map Int.ofNat, seesL (seesR h (clI ((askN lv : Nat) : Int)) r) h.length, true)
theorem lists_none (w : World) : Lists w (.slice none 0 0) [] := ⟨[], ⟨rfl, none, 0, rfl, ⟨by decide, by decide⟩, fun _ => ⟨rfl, rfl⟩, fun h => (by cases h)⟩, fun k hk => (by cases hk)⟩
theorem decW_yes (h : List TxnV) (lv : Int) : (decW h lv).2.2 = (decN h lv).1.isSome := by
 unfold decW
 cases (decN h lv).1 <;> rfl
section
variable {w0 w : World} {B b : Nat} {h : List TxnV}
theorem sdecide_ok (lv : Int) (T F U : Nat) (hO : OrdIs w0 B b h) (ht : Tab w0) (hK : Kinds w0) (hc : checkI h = 0) (hb : Below w0.heap.size w0 w) (hT : w0.heap.size ≤ T) (hm : MtAt w T F U)
  (hM : (decN h lv).2.2 + 2 ≤ 1099511627776) (hU : F = 4611686018427387904 → U + (decN h lv).2.2 ≤ 4611686018427387904) (hl : Lasts F U (decN h lv).2.2) :
  Calls Tryz.prog 24 #[.pointer (some ⟨B, 0, none⟩), .int .i64 lv, .pointer (some ⟨T, 0, none⟩)] w fun e w' =>
   ∃ vo vs, e = .returned (.tuple #[.agg #[vo, vs], .bool (decW h lv).2.2, .int .i64 0]) ∧ Ints w' vo (decW h lv).1 ∧ Lists w' vs (decW h lv).2.1 ∧ MtAt w' T F (U + (decN h lv).2.2) ∧ w.grownBy w' (some T) ∧ Below w0.heap.size w0 w' := by
 refine (sdecide_any lv T F U hO ht hK hc hb hT hm hM hU).mono ?_
 rintro e w' ⟨hg, hr⟩
 have hb' : Below w0.heap.size w0 w' := hb.grown hg hb.size (fun j hj => by cases hj; exact hT)
 rcases hr with ⟨_, hm', hr⟩ | ⟨hn, _⟩
 ·rcases hr with ⟨hd, rfl⟩ | ⟨r, vo, vs, hd, _, _, rfl, hI, hL⟩
  ·refine ⟨_, _, by rw [decW_yes, hd]; rfl, ?_, ?_, hm', hg, hb'⟩
   ·unfold decW; rw [hd]; exact ints_nil w'
   ·unfold decW; rw [hd]; exact lists_none w'
  ·refine ⟨vo, vs, by rw [decW_yes, hd]; rfl, ?_, ?_, hm', hg, hb'⟩
   ·unfold decW; rw [hd]; exact hI
   ·unfold decW; rw [hd]; exact hL
 ·exact (hn hl).elim
theorem sdecide_no (lv : Int) (T F U : Nat) (hO : OrdIs w0 B b h) (ht : Tab w0) (hK : Kinds w0) (hc : checkI h = 0) (hb : Below w0.heap.size w0 w) (hT : w0.heap.size ≤ T) (hm : MtAt w T F U)
  (hM : (decN h lv).2.2 + 2 ≤ 1099511627776) (hl : ¬ Lasts F U (decN h lv).2.2) :
  Calls Tryz.prog 24 #[.pointer (some ⟨B, 0, none⟩), .int .i64 lv, .pointer (some ⟨T, 0, none⟩)] w fun e w' =>
   e = .returned (.tuple #[.agg #[.slice none 0 0, .slice none 0 0], .bool false, .int .i64 4]) ∧ MtAt w' T F F ∧ w.grownBy w' (some T) ∧ Below w0.heap.size w0 w' := by
 refine (sdecide_any lv T F U hO ht hK hc hb hT hm hM (fun e => (hl (.inl e)).elim)).mono ?_
 rintro e w' ⟨hg, hr⟩
 have hb' : Below w0.heap.size w0 w' := hb.grown hg hb.size (fun j hj => by cases hj; exact hT)
 rcases hr with ⟨hy, _⟩ | ⟨_, hm', rfl⟩
 ·exact (hl hy).elim
 ·exact ⟨rfl, hm', hg, hb'⟩
end
theorem srch_pos {h : List TxnV} {C n k : Nat} (hn : 0 < n) : 1 ≤ (srch h C n (k + 1) [] []).2.2 := by
 rw [srch_go (by simp), srchEnd_cost.1]
 refine Nat.le_trans ?_ (srchTo_cost (i := 1) hn)
 rw [srchTo_succ, srchTo_zero]
 cases ht : tryP h C [] 0 with
 | false => rw [step_no rfl (by simp) ht]; exact Nat.le_refl _
 | true => rw [step_yes rfl (by simp) ht]; exact Nat.le_add_right _ _
theorem sp17_dec (v1 v2 : Value) : (decW (sp14 v1 v2) 11).1 = [1, 0] ∧ (decW (sp14 v1 v2) 11).2.2 = true ∧ (decN (sp14 v1 v2) 11).2.2 ≤ 4 ∧ 1 ≤ (decN (sp14 v1 v2) 11).2.2 := by
 have hf : (ordersN (sp14 v1 v2).length).find? (keptL (sp14 v1 v2) 11) = some [1, 0] := by kernel_rfl
 rw [← dec_first (sp14_check v1 v2)] at hf
 have h2 : soundTo (sp14 v1 v2) (sp14 v1 v2).length = true := by kernel_rfl
 cases hd : (decN (sp14 v1 v2) 11).1 with
 | none => rw [hd] at hf; cases hf
 | some r =>
  rw [hd, Option.map_some] at hf
  have hr : r.reverse = [1, 0] := by injection hf
  refine ⟨by unfold decW; rw [hd]; show r.reverse.map Int.ofNat = _; rw [hr]; rfl, by rw [decW_yes, hd]; rfl, ?_, ?_⟩
  ·exact Nat.le_trans (dec_tries _ _) (by show trN 2 ≤ 4; decide)
  ·unfold decN
   rw [if_pos ⟨rfl, h2⟩]
   exact srch_pos (k := 1) (by show 0 < 2; omega)
theorem speaks17_any (w : World) (ht : Tab w) (hK : Kinds w) :
  Calls Tryz.prog 22 #[] w fun e w' => e = .returned (.bool true) ∧ Below w.heap.size w w' := by
 have hg := ht.pos
 have HT : Hid (∀ wx, Below w.heap.size w wx → Tab wx ∧ Kinds wx) := hid (fun wx hb => ⟨ht.below hb hg, hK.below hb⟩)
 have C1 := fun (wx : World) => hid (read_any 0 1 wx)
 have C2 := fun (wx : World) => hid (write_op 0 1 wx)
 clear ht hK
 go_enter Tryz.func22, Tryz.ntmps22
 go_wp2_with fail
 refine ((C1 w).out).mono ?_
 rintro e w1 ⟨rfl, hb1⟩
 have hx1 := hb1.alloc hb1.size (.cells #[.bool false, .int .i64 0, .int .i64 1] 55)
 have hO1 : Ops _ (.slice (some ⟨w1.heap.size, 0, none⟩) 1 1) [⟨false, 0, 1⟩] := Row.of_owns (World.ownsRow_lit (base := 0) (e := 55) (size := 3) w1 #[.bool false, .int .i64 0, .int .i64 1] 1 (Nat.zero_le _) (by decide) rfl)
 clear hb1
 go_wp2_with fail
 refine ((C2 _).out).mono ?_
 rintro e w2 ⟨rfl, hb2⟩
 have hO1 := Row.below hO1 hb2
 have hx2 := below_then hx1 hb2
 have hO2 : Ops _ (.slice (some ⟨w2.heap.size, 0, none⟩) 1 1) [⟨true, 0, 1⟩] := Row.of_owns (World.ownsRow_lit (base := 0) (e := 55) (size := 3) w2 #[.bool true, .int .i64 0, .int .i64 1] 1 (Nat.zero_le _) (by decide) rfl)
 have hO1 := Row.below hO1 (box_below w2 (.cells #[.bool true, .int .i64 0, .int .i64 1] 55))
 have hx3 := hx2.alloc hx2.size (.cells #[.bool true, .int .i64 0, .int .i64 1] 55)
 have hR : Row _ _ 2 4 _ := Row.of_owns (World.ownsRow_lit (base := 0) (e := 59) (size := 4) (w2.alloc (.cells #[.bool true, .int .i64 0, .int .i64 1] 55)) #[.int .i64 0, .int .i64 1, .int .i64 4, .slice (some ⟨w1.heap.size, 0, none⟩) 1 1, .int .i64 1, .int .i64 2, .int .i64 3, .slice (some ⟨w2.heap.size, 0, none⟩) 1 1] 2 (Nat.zero_le _) (by decide) rfl)
 rw [show (w2.alloc (.cells #[.bool true, .int .i64 0, .int .i64 1] 55)).heap.size = w2.heap.size + 1 from by simp] at hR
 have hO1 := Row.below hO1 (box_below _ (.cells #[.int .i64 0, .int .i64 1, .int .i64 4, .slice (some ⟨w1.heap.size, 0, none⟩) 1 1, .int .i64 1, .int .i64 2, .int .i64 3, .slice (some ⟨w2.heap.size, 0, none⟩) 1 1] 59))
 have hO2 := Row.below hO2 (box_below _ (.cells #[.int .i64 0, .int .i64 1, .int .i64 4, .slice (some ⟨w1.heap.size, 0, none⟩) 1 1, .int .i64 1, .int .i64 2, .int .i64 3, .slice (some ⟨w2.heap.size, 0, none⟩) 1 1] 59))
 have hb4 := hx3.alloc hx3.size (.cells #[.int .i64 0, .int .i64 1, .int .i64 4, .slice (some ⟨w1.heap.size, 0, none⟩) 1 1, .int .i64 1, .int .i64 2, .int .i64 3, .slice (some ⟨w2.heap.size, 0, none⟩) 1 1] 59)
 clear hb2 hx1 hx2 hx3 C1 C2
 go_wp2_with fail
 generalize (w2.alloc (.cells #[.bool true, .int .i64 0, .int .i64 1] 55)).alloc (.cells #[.int .i64 0, .int .i64 1, .int .i64 4, .slice (some ⟨w1.heap.size, 0, none⟩) 1 1, .int .i64 1, .int .i64 2, .int .i64 3, .slice (some ⟨w2.heap.size, 0, none⟩) 1 1] 59) = w4 at *
 generalize w1.heap.size = a1 at *
 generalize w2.heap.size = a2 at *
 have hT : Txns w4 (.slice (some ⟨a2 + 1, 0, none⟩) 2 2) (sp14 (.slice (some ⟨a1, 0, none⟩) 1 1) (.slice (some ⟨a2, 0, none⟩) 1 1)) := ⟨hR, fun t ht => by
  simp [sp14] at ht
  rcases ht with rfl | rfl
  ·exact hO1
  ·exact hO2⟩
 have hck := sp14_check (.slice (some ⟨a1, 0, none⟩) 1 1) (.slice (some ⟨a2, 0, none⟩) 1 1)
 have CO := hid (of_done _ _ _ hT (sp14_ok _ _) (sp14_short _ _) hck)
 have HC := hid hck
 have HDC := hid (sp17_dec (.slice (some ⟨a1, 0, none⟩) 1 1) (.slice (some ⟨a2, 0, none⟩) 1 1))
 have HL : Hid ((sp14 (.slice (some ⟨a1, 0, none⟩) 1 1) (.slice (some ⟨a2, 0, none⟩) 1 1)).length = 2) := hid rfl
 clear hT hR hO1 hO2 hck
 generalize sp14 (.slice (some ⟨a1, 0, none⟩) 1 1) (.slice (some ⟨a2, 0, none⟩) 1 1) = h at *
 refine (CO.out).mono ?_
 rintro e w5 ⟨⟨B, rfl, hB, hO⟩, hb5⟩
 have hb5 := below_then hb4 hb5
 have hO5 := hO
 have HW := hid (fun wx (hx : Below w5.heap.size w5 wx) => below_then hb5 hx)
 obtain ⟨d1, d2, d3, d4⟩ := HDC.out
 have CN1 := hid (fun wx => fnew_any 6 wx)
 have CN2 := hid (fun wx => fnew_any 0 wx)
 have e6 : fuelN 6 = 6 := by decide +kernel
 have e0 : fuelN 0 = 0 := by decide +kernel
 rw [e6] at CN1
 rw [e0] at CN2
 have CD1 := hid (fun T wx (hx : Below w5.heap.size w5 wx) hT hm => sdecide_ok (w := wx) 11 T 6 0 hO (HT.out _ hb5).1 (HT.out _ hb5).2 HC.out hx hT hm (by omega) (fun e => (by cases e)) (.inr (by omega)))
 have CD2 := hid (fun T wx (hx : Below w5.heap.size w5 wx) hT hm => sdecide_no (w := wx) 11 T 0 0 hO (HT.out _ hb5).1 (HT.out _ hb5).2 HC.out hx hT hm (by omega) (fun q => by rcases q with q | q; cases q; omega))
 rw [d1, d2] at CD1
 clear CO hO hB hb4 hO5 d1 d2 d3 d4 HDC
 go_wp2_with fail
 refine (CN1.out _).mono ?_
 rintro e w6 ⟨T1, rfl, hm6, hT6, h6⟩
 have CD1 := hid (CD1.out T1 w6 h6 hT6 hm6)
 have h56 := h6
 clear hm6 h6
 go_wp2_with fail
 refine (CD1.out).mono ?_
 rintro e w7 ⟨vo, vs, rfl, hI, hL, _, _, h7⟩
 obtain ⟨oo, oc, rfl, _⟩ := hI.form
 obtain ⟨so, sc, rfl, _⟩ := hL.form
 simp only [List.length_cons, List.length_nil] at hI ⊢
 generalize hLn : (decW h 11).2.1.length = nL at *
 have W8 := WitT.made w7 (.slice oo 2 oc) (.slice so nL sc) 32
 have hx8 := box_below w7 (.cells #[.slice oo 2 oc, .slice so nL sc] 32)
 have hI := hI.below hx8
 have h8 := h7.trans (hx8.mono h7.size)
 clear CD1 h56 h7 hx8 hL hLn
 go_upto_region 5 with fail
 generalize w7.alloc (.cells #[.slice oo 2 oc, .slice so nL sc] 32) = w8 at *
 go_wp2_with fail
 refine (CN2.out _).mono ?_
 rintro e w9 ⟨T2, rfl, hm9, hT9, h9⟩
 have h89 := h8.trans (h9.mono h8.size)
 have CD2 := hid (CD2.out T2 w9 h89 (by have := h8.size; omega) hm9)
 clear hm9 h89
 go_wp2_with fail
 refine (CD2.out).mono ?_
 rintro e w10 ⟨rfl, _, hg, _⟩
 have h10 : Below w8.heap.size w8 w10 := h9.grown hg h9.size (fun j hj => by cases hj; exact hT9)
 have hx11 := box_below w10 (.cells #[.slice none 0 0, .slice none 0 0] 32)
 have h11 := h10.trans (hx11.mono h10.size)
 have W11 := W8.below h11
 have hI := hI.below h11
 have h11 := h8.trans (h11.mono h8.size)
 have hs11 : (w10.alloc (.cells #[.slice none 0 0, .slice none 0 0] 32)).heap.size = w10.heap.size + 1 := by simp
 clear h10 hx11 hg h9 W8 h8 CD2
 go_upto_region 6 with fail
 generalize w10.alloc (.cells #[.slice none 0 0, .slice none 0 0] 32) = w11 at *
 have hI1 : Ints (w11.alloc (.cells #[.int .i64 1, .int .i64 0] 3)) (.slice (some ⟨w11.heap.size, 0, none⟩) 2 2) [1, 0] := Row.of_owns (World.ownsRow_lit (base := 0) (e := 3) (size := 1) w11 #[.int .i64 1, .int .i64 0] 2 (Nat.zero_le _) (by decide) rfl)
 have CS := hid (same_any _ _ _ _ _ (hI.below (box_below w11 (.cells #[.int .i64 1, .int .i64 0] 3))) hI1)
 rw [sameL_one] at CS
 have hz := h11.alloc h11.size (.cells #[.int .i64 1, .int .i64 0] 3)
 obtain ⟨n0, n1⟩ := W11
 clear hs11 hI hI1
 go_wp2_with fail
 refine CS.out.mono ?_
 rintro e w12 ⟨rfl, h12⟩
 have hz := hz.trans (h12.mono hz.size)
 have hz := HW.out _ hz
 clear h12 n0 n1
 go_wp2_with fail
 go_ret
 exact ⟨rfl, hz⟩
end

section
open Go.RowKit
theorem tr_le : ∀ k, k ≤ 7 → trN k ≤ 20000 := by decide +kernel
end

section
open Go.RowKit
theorem tryP_in {h : List TxnV} {C : Nat} {r : List Nat} {i : Nat} (hi : i ∈ r) : tryP h C r i = false := by
 unfold tryP
 rw [decide_eq_true hi]; simp
end

section
open Go.RowKit
def mustB (h : List TxnV) (x i k : Nat) : Bool := (froR h i k || (hasT x 1 && sesP h i k)) || (hasT x 32 && timP h i k)
theorem must14_any (va : Value) (h : List TxnV) (x : Nat) (hx : x < 64) (i k : Nat) (hi : i < h.length) (hk : k < h.length) (w : World) (hT : Txns w va h) :
  Calls Tryz.prog 135 #[va, .int .i64 x, .int .i64 i, .int .i64 k] w fun e w' => e = .returned (.bool (mustB h x i k)) ∧ Below w.heap.size w w' := by
 have CF := hid (fun wx (hx : Below w.heap.size w wx) => rfrom8_any va h i k hk wx (hT.below hx))
 have CS := hid (fun wx (hx : Below w.heap.size w wx) => rsession_any va h i k wx (hT.below hx) hi hk)
 have CT := hid (fun wx (hx : Below w.heap.size w wx) => rtime_any va h i k wx (hT.below hx) hi hk)
 have C1 := hid (fun wx => rl_has x 1 hx (by omega) (by omega) wx)
 have C32 := hid (fun wx => rl_has x 32 hx (by omega) (by omega) wx)
 have HR : Hid (mustB h x i k = ((froR h i k || (hasT x 1 && sesP h i k)) || (hasT x 32 && timP h i k))) := hid rfl
 rw [show sesP h i k = (decide (i < k) && decide (h[i].s = h[k].s)) by unfold sesP; rw [sAt_eq hi, sAt_eq hk], show timP h i k = decide (h[i].c < h[k].b) by unfold timP; rw [cAt_eq hi, bAt_eq hk]] at HR
 obtain ⟨ao, cap, rfl, hal⟩ := hT.form
 clear hT
 have hb := Below.refl w.heap.size w
 generalize mustB h x i k = z at *
 generalize froR h i k = p1 at *
 generalize (decide (i < k) && decide (h[i].s = h[k].s)) = p2 at *
 generalize decide (h[i].c < h[k].b) = p3 at *
 generalize hasT x 1 = b1 at *
 generalize hasT x 32 = b2 at *
 go_enter Tryz.func135, Tryz.ntmps135
 go_wp2_with fail
 refine (CF.out _ hb).mono ?_
 rintro e w2 ⟨rfl, hn⟩
 have hb := below_then hb hn
 clear hn
 cases p1 with
 | true =>
  go_wp2_with fail
  go_ret
  exact ⟨ret_b (by rw [HR.out]; rfl), hb⟩
 | false =>
  go_wp2_with fail
  refine (C1.out _).mono ?_
  rintro e w2 ⟨rfl, rfl⟩
  cases b1 with
  | true =>
   go_wp2_with fail
   refine (CS.out _ hb).mono ?_
   rintro e w2 ⟨rfl, hn⟩
   have hb := below_then hb hn
   clear hn
   cases p2 with
   | true =>
    go_wp2_with fail
    go_ret
    exact ⟨ret_b (by rw [HR.out]; rfl), hb⟩
   | false =>
    go_wp2_with fail
    refine (C32.out _).mono ?_
    rintro e w2 ⟨rfl, rfl⟩
    cases b2 with
    | true =>
     go_wp2_with fail
     refine (CT.out _ hb).mono ?_
     rintro e w2 ⟨rfl, hn⟩
     have hb := below_then hb hn
     clear hn
     cases p3 with
     | true =>
      go_wp2_with fail
      go_ret
      exact ⟨ret_b (by rw [HR.out]; rfl), hb⟩
     | false =>
      go_wp2_with fail
      go_ret
      exact ⟨ret_b (by rw [HR.out]; rfl), hb⟩
    | false =>
     go_wp2_with fail
     go_ret
     exact ⟨ret_b (by rw [HR.out]; rfl), hb⟩
  | false =>
   go_wp2_with fail
   refine (C32.out _).mono ?_
   rintro e w2 ⟨rfl, rfl⟩
   cases b2 with
   | true =>
    go_wp2_with fail
    refine (CT.out _ hb).mono ?_
    rintro e w2 ⟨rfl, hn⟩
    have hb := below_then hb hn
    clear hn
    cases p3 with
    | true =>
     go_wp2_with fail
     go_ret
     exact ⟨ret_b (by rw [HR.out]; rfl), hb⟩
    | false =>
     go_wp2_with fail
     go_ret
     exact ⟨ret_b (by rw [HR.out]; rfl), hb⟩
   | false =>
    go_wp2_with fail
    go_ret
    exact ⟨ret_b (by rw [HR.out]; rfl), hb⟩
def seeJ (m : List Pr) (x : Nat) (l : List Int) (i k j : Int) : Bool := hasP m j k && ((hasT x 2 && hasP m i j) || (hasT x 4 && ahR l i j))
def seesB (h : List TxnV) (x : Nat) (l : List Int) (m : List Pr) (i k : Nat) : Bool := ((mustB h x i k || hasT x 16) || (hasT x 8 && rivR h i k)) || l.any (seeJ m x l (i : Int) (k : Int))
theorem sees14_any (va vr vm : Value) (h : List TxnV) (x : Nat) (hx : x < 64) (l : List Int) (m : List Pr) (i k : Nat) (hi : i < h.length) (hk : k < h.length) (hne : i ≠ k) (w : World) (hT : Txns w va h) (hl : Ints w vr l) (hm : Prs w vm m) :
  Calls Tryz.prog 139 #[va, .int .i64 x, vr, vm, .int .i64 i, .int .i64 k] w fun e w' => e = .returned (.bool (seesB h x l m i k)) ∧ Below w.heap.size w w' := by
 have CM := hid (fun wx (hb : Below w.heap.size w wx) => must14_any va h x hx i k hi hk wx (hT.below hb))
 have CR := hid (fun wx (hb : Below w.heap.size w wx) => rrivals_any va h i k hi hk hne wx (hT.below hb))
 have CA := hid (fun (a b : Int) wx (hx : Below w.heap.size w wx) => rahead_any vr l a b wx (hl.below hx))
 have CH := hid (fun (a b : Int) wx (hx : Below w.heap.size w wx) => phas_any vm m a b wx (hm.below hx))
 have HI := hid (fun wx (hx : Below w.heap.size w wx) => hl.below hx)
 have C16 := hid (fun wx => rl_has x 16 hx (by omega) (by omega) wx)
 have C8 := hid (fun wx => rl_has x 8 hx (by omega) (by omega) wx)
 have C2 := hid (fun wx => rl_has x 2 hx (by omega) (by omega) wx)
 have C4 := hid (fun wx => rl_has x 4 hx (by omega) (by omega) wx)
 have HR : Hid (seesB h x l m i k = (((mustB h x i k || hasT x 16) || (hasT x 8 && rivR h i k)) || l.any (seeJ m x l (i : Int) (k : Int)))) := hid rfl
 have HJ := hid (fun j : Int => show seeJ m x l (i : Int) (k : Int) j = (hasP m j (k : Int) && ((hasT x 2 && hasP m (i : Int) j) || (hasT x 4 && ahR l (i : Int) j))) from rfl)
 obtain ⟨ao, cap, rfl, hal⟩ := hT.form
 obtain ⟨ro, rcap, rfl, hrl⟩ := hl.form
 obtain ⟨mo, mcap, rfl, hml⟩ := hm.form
 clear hT hl hm
 have hb := Below.refl w.heap.size w
 generalize seesB h x l m i k = z at *
 generalize mustB h x i k = p1 at *
 generalize rivR h i k = p4 at *
 generalize seeJ m x l (i : Int) (k : Int) = F at *
 generalize hasT x 16 = b3 at *
 generalize hasT x 8 = b4 at *
 generalize hasT x 2 = b5 at *
 generalize hasT x 4 = b6 at *
 obtain ⟨s, hs⟩ : ∃ s, s = ((p1 || b3) || (b4 && p4)) := ⟨_, rfl⟩
 have HS := hid hs
 rw [← hs] at HR
 clear hs
 go_enter Tryz.func139, Tryz.ntmps139
 go_upto_region 1 with fail
 go_cut [32] from 14 to 32 (fun v wx => v = .bool s ∧ Below w.heap.size w wx)
 case first =>
  clear HR HJ HI CA CH C2 C4
  go_wp2_with fail
  refine (CM.out _ hb).mono ?_
  rintro e w2 ⟨rfl, hn⟩
  have hb := below_then hb hn
  clear hn
  cases p1 with
  | true =>
   go_wp2_with fail
   go_meet
   exact ⟨by rw [HS.out]; rfl, hb⟩
  | false =>
   go_wp2_with fail
   refine (C16.out _).mono ?_
   rintro e w2 ⟨rfl, rfl⟩
   cases b3 with
   | true =>
    go_wp2_with fail
    go_meet
    exact ⟨by rw [HS.out]; rfl, hb⟩
   | false =>
    go_wp2_with fail
    refine (C8.out _).mono ?_
    rintro e w2 ⟨rfl, rfl⟩
    cases b4 with
    | true =>
     go_wp2_with fail
     refine (CR.out _ hb).mono ?_
     rintro e w2 ⟨rfl, hn⟩
     have hb := below_then hb hn
     clear hn
     cases p4 with
     | true =>
      go_wp2_with fail
      go_meet
      exact ⟨by rw [HS.out]; rfl, hb⟩
     | false =>
      go_wp2_with fail
      go_meet
      exact ⟨by rw [HS.out]; rfl, hb⟩
    | false =>
     go_wp2_with fail
     go_meet
     exact ⟨by rw [HS.out]; rfl, hb⟩
 rename_i wc hcut
 obtain ⟨rfl, hb⟩ := hcut
 clear HS CM CR C16 C8
 cases s with
 | true =>
  have HT : Hid (true = z) := hid (by rw [HR.out]; rfl)
  clear HR HJ
  go_wp2_with fail
  go_ret
  exact ⟨ret_b HT.out, hb⟩
 | false =>
  rw [Bool.false_or] at HR
  go_wp2_with fail
  go_loopw [13] (fun v wr => ∃ j : Nat, j ≤ l.length ∧ v = .int .i64 j ∧ Hid (((l.take j).any F) = false) ∧ Below w.heap.size w wr) (fun v _ => l.length - (intOf v).toNat)
  case atStart => exact ⟨0, by omega, rfl, hid rfl, hb⟩
  case round =>
   clear hb
   obtain ⟨j, hj, rfl, HP, hb⟩ := hrel
   by_cases hlt : j < l.length
   ·have hji : (j : Int) < (l.length : Int) := by omega
    obtain ⟨g, o, hao, c1⟩ := (HI.out _ hb).at hlt
    cases hao
    have HS := hid (show ((l.take (j + 1)).any F) = F l[j] by rw [List.take_succ_eq_append_getElem hlt, List.any_append, HP.out]; simp)
    have HY := hid (show F l[j] = true → z = true from fun h => by rw [HR.out]; exact List.any_eq_true.2 ⟨l[j], List.getElem_mem hlt, h⟩)
    have HQ := hid (HJ.out l[j])
    have D1 := hid (CH.out l[j] (k : Int) _ hb)
    have D2 := hid (CH.out (i : Int) l[j] _ hb)
    have D3 := hid (CA.out (i : Int) l[j] _ hb)
    generalize hasP m l[j] (k : Int) = q1 at *
    generalize hasP m (i : Int) l[j] = q2 at *
    generalize ahR l (i : Int) l[j] = q3 at *
    generalize F l[j] = q at *
    generalize l[j] = y at *
    clear CH CA HJ HP HR HI
    go_wp2_with fail
    refine (D1.out).mono ?_
    rintro e w2 ⟨rfl, rfl⟩
    cases q1 with
    | true =>
     go_wp2_with fail
     refine (C2.out _).mono ?_
     rintro e w2 ⟨rfl, rfl⟩
     cases b5 with
     | true =>
      go_wp2_with fail
      refine (D2.out).mono ?_
      rintro e w2 ⟨rfl, rfl⟩
      cases q2 with
      | true =>
       have HT : Hid (true = z) := hid (HY.out (by rw [HQ.out]; rfl)).symm
       clear HS HQ HY D1 D2 D3 c1
       go_wp2_with fail
       go_ret
       exact ⟨ret_b HT.out, hb⟩
      | false =>
       go_wp2_with fail
       refine (C4.out _).mono ?_
       rintro e w2 ⟨rfl, rfl⟩
       cases b6 with
       | true =>
        go_wp2_with fail
        refine (D3.out).mono ?_
        rintro e w2 ⟨rfl, rfl⟩
        cases q3 with
        | true =>
         have HT : Hid (true = z) := hid (HY.out (by rw [HQ.out]; rfl)).symm
         clear HS HQ HY D1 D2 D3 c1
         go_wp2_with fail
         go_ret
         exact ⟨ret_b HT.out, hb⟩
        | false =>
         have HN : Hid (((l.take (j + 1)).any F) = false) := hid (by rw [HS.out, HQ.out]; rfl)
         clear HS HQ HY D1 D2 D3 c1
         go_wp2_with fail
         go_roundw
         case rel => exact ⟨j + 1, by omega, by go_num, HN, hb⟩
         case measure => simp [intOf]; omega
       | false =>
        have HN : Hid (((l.take (j + 1)).any F) = false) := hid (by rw [HS.out, HQ.out]; rfl)
        clear HS HQ HY D1 D2 D3 c1
        go_wp2_with fail
        go_roundw
        case rel => exact ⟨j + 1, by omega, by go_num, HN, hb⟩
        case measure => simp [intOf]; omega
     | false =>
      go_wp2_with fail
      refine (C4.out _).mono ?_
      rintro e w2 ⟨rfl, rfl⟩
      cases b6 with
      | true =>
       go_wp2_with fail
       refine (D3.out).mono ?_
       rintro e w2 ⟨rfl, rfl⟩
       cases q3 with
       | true =>
        have HT : Hid (true = z) := hid (HY.out (by rw [HQ.out]; rfl)).symm
        clear HS HQ HY D1 D2 D3 c1
        go_wp2_with fail
        go_ret
        exact ⟨ret_b HT.out, hb⟩
       | false =>
        have HN : Hid (((l.take (j + 1)).any F) = false) := hid (by rw [HS.out, HQ.out]; rfl)
        clear HS HQ HY D1 D2 D3 c1
        go_wp2_with fail
        go_roundw
        case rel => exact ⟨j + 1, by omega, by go_num, HN, hb⟩
        case measure => simp [intOf]; omega
      | false =>
       have HN : Hid (((l.take (j + 1)).any F) = false) := hid (by rw [HS.out, HQ.out]; rfl)
       clear HS HQ HY D1 D2 D3 c1
       go_wp2_with fail
       go_roundw
       case rel => exact ⟨j + 1, by omega, by go_num, HN, hb⟩
       case measure => simp [intOf]; omega
    | false =>
     have HN : Hid (((l.take (j + 1)).any F) = false) := hid (by rw [HS.out, HQ.out]; rfl)
     clear HS HQ HY D1 D2 D3 c1
     go_wp2_with fail
     go_roundw
     case rel => exact ⟨j + 1, by omega, by go_num, HN, hb⟩
     case measure => simp [intOf]; omega
   ·have hj2 : j = l.length := by omega
    subst hj2
    have HV : Hid (false = z) := hid (by rw [HR.out, ← HP.out, List.take_length])
    clear HP HR
    go_wp2_with fail
    go_ret
    exact ⟨ret_b HV.out, hb⟩
end

section
open Go.RowKit
theorem rep_len {V : Mat} {m : List Pr} (h : Rep V m) : m.length ≤ 4096 := by
 have := nodup_le m ((List.range 4096).map fun n => (((n / 64 : Nat) : Int), ((n % 64 : Nat) : Int))) h.1 (fun p hp => by
  obtain ⟨i, j, hi, hj, h1, h2, _⟩ := (h.2 p.1 p.2).1 hp
  exact List.mem_map.2 ⟨i * 64 + j, List.mem_range.2 (by omega), by
   obtain ⟨a, b⟩ := p
   simp only at h1 h2
   rw [h1, h2, show (i * 64 + j) / 64 = i by omega, show (i * 64 + j) % 64 = j by omega]⟩)
 simpa using this
section
variable {h : List TxnV} {x : Nat}
theorem must_base (hc : checkI h = 0) (hx : x < 64) {i k : Nat} (hi : i < h.length) (hk : k < h.length) : mustB h x i k = (baseN h x k).testBit i := by
 have h64 := (check_zero hc).1
 have hx2 : x < 9223372036854775808 := by omega
 obtain ⟨e1, _, _, _, _, e6⟩ := hasT_bits ⟨x, hx⟩
 simp only at e1 e6
 have f := froM_at hc hi hk
 have s := sesM_at hc hi hk
 have t := timM_at hc hi hk
 rw [hasR_nat _ _ _ (show i < 64 by omega) (show k < 64 by omega)] at f s t
 have hs : sesP h i k = (decide (i < k) && decide (h[i].s = h[k].s)) := by unfold sesP; rw [sAt_eq hi, sAt_eq hk]
 have ht : timP h i k = decide (h[i].c < h[k].b) := by unfold timP; rw [cAt_eq hi, bAt_eq hk]
 rw [Bool.eq_iff_iff, baseN_bit (show k < 64 by omega), baseM_iff h x hx2 i k, f, s, t, ← hs, ← ht]
 unfold mustB
 rw [e1, e6]
 simp only [Bool.or_eq_true, Bool.and_eq_true]
 have hi64 : i < 64 := by omega
 constructor
 ·rintro ((q | q) | q)
  ·exact ⟨hi64, .inl q⟩
  ·exact ⟨hi64, .inr (.inl q)⟩
  ·exact ⟨hi64, .inr (.inr q)⟩
 ·rintro ⟨_, q | q | q⟩
  ·exact .inl (.inl q)
  ·exact .inl (.inr q)
  ·exact .inr q
theorem ahR_bit {r : List Nat} (g : RowG h x r) {i j : Nat} (hi : i ∈ r) (hj : j ∈ r) : ahR (r.reverse.map Int.ofNat) (i : Int) (j : Int) = (aheadL r j).testBit i := by
 have hn : (r.reverse.map Int.ofNat).Nodup := nodup_ofNat ((List.reverse_perm r).nodup_iff.2 g.nd)
 have mem : ∀ {a : Nat}, a ∈ r → (a : Int) ∈ r.reverse.map Int.ofNat := fun {a} ha => List.mem_map.2 ⟨a, List.mem_reverse.2 ha, rfl⟩
 rw [Bool.eq_iff_iff, ahR_iff hn (mem hi) (mem hj), ← chainR_iff, ahead_chain g.nd g.lt]
def WI4 (h : List TxnV) (x : Nat) (r : List Nat) (k : Nat) (m : List Pr) : Prop := ∃ V : Mat, Rep V m ∧ (∀ j t, j < 64 → t < 64 → t ≠ k → V j t = seesR h x r j t) ∧ ∀ j, j < 64 → V j k = true → (nextN h x r k).testBit j = true
theorem wi_start {r : List Nat} {k : Nat} {m : List Pr} (hkr : k ∉ r) (hR : Rep (seesR h x r) m) : WI4 h x r k m :=
 ⟨_, hR, fun _ _ _ _ _ => rfl, fun j _ hj => by unfold seesR at hj; rw [plSee_out hkr] at hj; simp at hj⟩
variable {r : List Nat} {k : Nat}
theorem next_in (g : RowG h x r) (hb : ∀ j, (baseN h x k).testBit j = true → (plS r).testBit j = true) {j : Nat} (hj : (nextN h x r k).testBit j = true) : (plS r).testBit j = true := by
 unfold nextN at hj
 exact wld4_in hb (fun a j _ hs => ahead_in g.lt (sees_ahead g.lt g.nd g.base hs)) (fun a j _ ha => ahead_in g.lt ha) hj
theorem next_closed (g : RowG h x r) (hb : ∀ j, (baseN h x k).testBit j = true → (plS r).testBit j = true) :
  (x.testBit 1 = true → ∀ m j, (nextN h x r k).testBit m = true → (plSee h x r m).testBit j = true → (nextN h x r k).testBit j = true) ∧
  (x.testBit 2 = true → ∀ m j, (nextN h x r k).testBit m = true → (aheadL r m).testBit j = true → (nextN h x r k).testBit j = true) := by
 refine wld4_closed (fun a j ha => g.lt j (aheadL_mem g.lt ha)) (fun m hm => g.lt m (plS_mem g.lt (next_in g hb hm))) (fun a j hs => sees_ahead g.lt g.nd g.base hs) (sees_closed g).1 (fun a m j h1 h2 => aheadL_trans g.nd g.lt h1 h2)
theorem seesB_iff {m : List Pr} {i : Nat} (hx : x < 64) : seesB h x (r.reverse.map Int.ofNat) m i k = true ↔ mustB h x i k = true ∨ x.testBit 4 = true ∨ (x.testBit 3 = true ∧ rivR h i k = true) ∨ ∃ j ∈ r, hasP m (j : Int) (k : Int) = true ∧ ((x.testBit 1 = true ∧ hasP m (i : Int) (j : Int) = true) ∨ (x.testBit 2 = true ∧ ahR (r.reverse.map Int.ofNat) (i : Int) (j : Int) = true)) := by
 obtain ⟨_, e2, e3, e4, e5, _⟩ := hasT_bits ⟨x, hx⟩
 simp only at e2 e3 e4 e5
 unfold seesB seeJ
 rw [e2, e3, e4, e5]
 simp only [Bool.or_eq_true, Bool.and_eq_true, List.any_eq_true]
 constructor
 ·rintro (((q | q) | q) | ⟨y, hy, q1, q2⟩)
  ·exact .inl q
  ·exact .inr (.inl q)
  ·exact .inr (.inr (.inl q))
  ·obtain ⟨j, hj, rfl⟩ := List.mem_map.1 hy
   exact .inr (.inr (.inr ⟨j, List.mem_reverse.1 hj, q1, q2⟩))
 ·rintro (q | q | q | ⟨j, hj, q1, q2⟩)
  ·exact .inl (.inl (.inl q))
  ·exact .inl (.inl (.inr q))
  ·exact .inl (.inr q)
  ·exact .inr ⟨(j : Int), List.mem_map.2 ⟨j, List.mem_reverse.2 hj, rfl⟩, q1, q2⟩
theorem wi_put (hc : checkI h = 0) (hx : x < 64) (g : RowG h x r) (hlt : ∀ a ∈ r, a < h.length) (hk : k < h.length) (hkr : k ∉ r) (hb : ∀ j, (baseN h x k).testBit j = true → (plS r).testBit j = true) {m : List Pr} (hw : WI4 h x r k m) {i : Nat} (hi : i ∈ r)
  (hs : seesB h x (r.reverse.map Int.ofNat) m i k = true) : WI4 h x r k (putP m (i : Int) (k : Int)) := by
 obtain ⟨V, hR, h1, h2⟩ := hw
 have h64 := (check_zero hc).1
 have hi64 := g.lt i hi
 have hk64 : k < 64 := by omega
 have hne : i ≠ k := fun e => hkr (by rw [← e]; exact hi)
 obtain ⟨c1, c2⟩ := next_closed (k := k) g hb
 have hpl : (plS r).testBit i = true := by rw [plS_bit i r g.lt, decide_eq_true_eq]; exact hi
 have key : (nextN h x r k).testBit i = true := by
  rcases (seesB_iff hx).1 hs with q | q | ⟨q1, q2⟩ | ⟨j, hj, q1, q2⟩
  ·rw [must_base hc hx (hlt i hi) hk] at q
   exact wld4_base q
  ·exact wld4_all q hpl
  ·refine wld4_riv q1 (rivN_bit.2 ⟨hi64, ?_⟩) hpl
   unfold rivB
   rw [decide_eq_true hk, decide_eq_true (hlt i hi), decide_eq_true (show k ≠ i from fun e => hne e.symm), rivR_symm, q2]; rfl
  ·rw [hasP_rep hR (g.lt j hj) hk64] at q1
   have hjk : j ≠ k := fun e => hkr (by rw [← e]; exact hj)
   have n1 := h2 j (g.lt j hj) q1
   rcases q2 with ⟨p1, p2⟩ | ⟨p1, p2⟩
   ·rw [hasP_rep hR hi64 (g.lt j hj), h1 i j hi64 (g.lt j hj) hjk] at p2
    exact c1 p1 j i n1 p2
   ·rw [ahR_bit g hi hj] at p2
    exact c2 p1 j i n1 p2
 refine ⟨addM V (i : Int) (k : Int), rep_put hR ⟨by omega, by omega⟩ ⟨by omega, by omega⟩, fun j t hj ht htk => ?_, fun j hj hv => ?_⟩
 ·rw [← h1 j t hj ht htk, Bool.eq_iff_iff, addM_iff V _ _ j t hj ht]
  exact ⟨fun q => q.elim id (fun ⟨_, e⟩ => (htk (by omega)).elim), .inl⟩
 ·rcases (addM_iff V _ _ j k hj hk64).1 hv with q | ⟨e, _⟩
  ·exact h2 j hj q
  ·have : j = i := by omega
   subst this; exact key
theorem wi_done (hc : checkI h = 0) (hx : x < 64) (g : RowG h x r) (hlt : ∀ a ∈ r, a < h.length) (hk : k < h.length) (hkr : k ∉ r) (hb : ∀ j, (baseN h x k).testBit j = true → (plS r).testBit j = true) {m : List Pr} (hw : WI4 h x r k m)
  (hs : ∀ i ∈ r, hasP m (i : Int) (k : Int) = false → seesB h x (r.reverse.map Int.ofNat) m i k = false) : Rep (seesR h x (k :: r)) m := by
 obtain ⟨V, hR, h1, h2⟩ := hw
 have h64 := (check_zero hc).1
 have hk64 : k < 64 := by omega
 have hs2 : ∀ i ∈ r, seesB h x (r.reverse.map Int.ofNat) m i k = true → V i k = true := fun i hi q => by
  rw [← hasP_rep hR (g.lt i hi) hk64]
  cases e : hasP m (i : Int) (k : Int) with
  | true => rfl
  | false => rw [hs i hi e] at q; cases q
 have hin : ∀ {j}, (plS r).testBit j = true → j ∈ r := fun {j} hj => plS_mem g.lt hj
 have key : ∀ j, (nextN h x r k).testBit j = true → j ∈ r ∧ V j k = true := by
  intro j hj
  unfold nextN at hj
  refine wld4_least (Y := fun j => j ∈ r ∧ V j k = true) ?_ ?_ ?_ ?_ ?_ hj
  ·intro j hj
   have hjr := hin (hb j hj)
   refine ⟨hjr, hs2 j hjr ((seesB_iff hx).2 (.inl ?_))⟩
   rw [must_base hc hx (hlt j hjr) hk]; exact hj
  ·intro c j hj
   exact ⟨hin hj, hs2 j (hin hj) ((seesB_iff hx).2 (.inr (.inl c)))⟩
  ·intro c j hj hp
   refine ⟨hin hp, hs2 j (hin hp) ((seesB_iff hx).2 (.inr (.inr (.inl ⟨c, ?_⟩))))⟩
   have := (rivN_bit.1 hj).2
   unfold rivB at this
   simp only [Bool.and_eq_true] at this
   rw [rivR_symm]; exact this.2.2.2
  ·rintro c m' j _ ⟨hm, hv⟩ hj
   have hjr : j ∈ r := aheadL_mem g.lt (sees_ahead g.lt g.nd g.base hj)
   have hmk : m' ≠ k := fun e => hkr (by rw [← e]; exact hm)
   refine ⟨hjr, hs2 j hjr ((seesB_iff hx).2 (.inr (.inr (.inr ⟨m', hm, ?_, .inl ⟨c, ?_⟩⟩))))⟩
   ·rw [hasP_rep hR (g.lt m' hm) hk64]; exact hv
   ·rw [hasP_rep hR (g.lt j hjr) (g.lt m' hm), h1 j m' (g.lt j hjr) (g.lt m' hm) hmk]; exact hj
  ·rintro c m' j _ ⟨hm, hv⟩ hj
   have hjr : j ∈ r := aheadL_mem g.lt hj
   refine ⟨hjr, hs2 j hjr ((seesB_iff hx).2 (.inr (.inr (.inr ⟨m', hm, ?_, .inr ⟨c, ?_⟩⟩))))⟩
   ·rw [hasP_rep hR (g.lt m' hm) hk64]; exact hv
   ·rw [ahR_bit g hjr hm]; exact hj
 have e : ∀ j t, j < 64 → t < 64 → V j t = seesR h x (k :: r) j t := fun j t hj ht => by
  by_cases htk : t = k
  ·subst htk
   unfold seesR
   rw [plSee, if_pos rfl]
   rw [Bool.eq_iff_iff]
   exact ⟨fun q => h2 j hj q, fun q => (key j q).2⟩
  ·rw [h1 j t hj ht htk]
   unfold seesR
   rw [plSee_tail htk]
 refine ⟨hR.1, fun a b => ?_⟩
 rw [hR.2]
 constructor
 ·rintro ⟨i, j, hi, hj, e1, e2, hv⟩; exact ⟨i, j, hi, hj, e1, e2, by rw [← e i j hi hj]; exact hv⟩
 ·rintro ⟨i, j, hi, hj, e1, e2, hv⟩; exact ⟨i, j, hi, hj, e1, e2, by rw [e i j hi hj]; exact hv⟩
theorem putP_new {m : List Pr} {a b : Int} (hn : hasP m a b = false) : (putP m a b).length = m.length + 1 := by
 unfold putP
 rw [hn]; simp
theorem WI4.len {m : List Pr} (hw : WI4 h x r k m) : m.length ≤ 4096 := by obtain ⟨V, hR, _, _⟩ := hw; exact rep_len hR
end
end

section
open Go.RowKit
theorem put_own (v : Value) (l : List Pr) (a b : Int) (w : World) (hv : Prs w v l) (hlen : l.length ≤ 1000000000) :
  Calls Tryz.prog 140 #[v, .int .i64 a, .int .i64 b] w fun e w' => ∃ v', e = .returned v' ∧ Prs w' v' (putP l a b) ∧ ((v' = v ∧ putP l a b = l) ∨ ∀ g, v'.ownBlock = some g → w.heap.size ≤ g) ∧ Below w.heap.size w w' := by
 obtain ⟨i0, hi, hz0, hz1, hz2⟩ := info_parts infoPair
 have C := phas_any v l a b w hv
 cases hh : hasP l a b
 ·have HP : Hid (putP l a b = l ++ [(a, b)]) := hid (by unfold putP; rw [hh]; rfl)
  rw [hh] at C
  have CH := hid C
  clear C hh
  go_enter Tryz.func140, Tryz.ntmps140
  go_wp2_with fail
  refine (CH.out).mono ?_
  rintro e w' ⟨rfl, rfl⟩
  go_wp2_with (at_builtin; refine wpList_append_row rfl _ _ 124 rfl w.heap.size 216 i0 (.agg #[.int .i64 0, .int .i64 0]) 2 16 Tryz.underlying124 hi hz0 hz1 hz2 rfl (by decide) _ 0 [] rfl (World.ownsRow_lit _ _ _ (Nat.le_refl _) (by decide) rfl) _ l.length _ rfl (hv.below ((Below.refl _ _).alloc (Nat.le_refl _) _)) ?c1 ?c2 ?c3 ?c4 ?_)
  case c1 => exact prV_oneCell _
  case c2 => unfold maxLen; omega
  case c3 => omega
  case c4 => simp
  intro v5 w5 hown5 hg5
  have hb5 : Below w.heap.size w w5 := ((Below.refl w.heap.size w).alloc (Nat.le_refl _) _).grown hg5 (by simp) (by intro k hk; simp [Value.ownBlock] at hk; omega)
  clear hg5
  have hsz := hb5.size
  have hown5' : w5.ownsRow w.heap.size 216 2 v5 l.length (prV l) := by simpa using hown5
  clear hown5
  go_wp2_with (at_builtin; refine wpList_append_row rfl _ _ 124 rfl w.heap.size 216 i0 (.agg #[.int .i64 0, .int .i64 0]) 2 16 Tryz.underlying124 hi hz0 hz1 hz2 rfl (by decide) _ _ _ rfl (hown5'.alloc _) _ 1 _ rfl (Row.of_owns (Prs.lit w5 0 a b (Nat.zero_le _))) ?d1 ?d2 ?d3 ?d4 ?_)
  case d1 => exact prV_oneCell _
  case d2 => unfold maxLen; omega
  case d3 => omega
  case d4 => simp; omega
  intro v6 w6 hown6 hg6
  have hb6 := below_app hb5 (Nat.le_refl _) hown5' hg6
  clear hg6 hown5' hb5
  go_wp2
  go_ret
  refine ⟨_, rfl, ?_, .inr fun g hg => (hown6.lt g hg).1, hb6⟩
  rw [HP.out]
  rw [← prV_append] at hown6
  exact Prs.of_owns hown6
 ·have HP : Hid (putP l a b = l) := hid (by unfold putP; rw [hh]; rfl)
  rw [hh] at C
  have CH := hid C
  clear C hh
  go_enter Tryz.func140, Tryz.ntmps140
  go_wp2_with fail
  refine (CH.out).mono ?_
  rintro e w' ⟨rfl, rfl⟩
  go_wp2_with fail
  go_ret
  exact ⟨_, rfl, by rw [HP.out]; exact hv, .inl ⟨rfl, HP.out⟩, Below.refl _ _⟩
def vlenP : Value → Nat | .slice _ n _ => n | _ => 0
def vbitP : Value → Nat | .bool true => 1 | _ => 0
theorem with14_any (va vr vm : Value) (h : List TxnV) (x : Nat) (hx : x < 64) (r : List Nat) (m : List Pr) (k : Nat) (hc : checkI h = 0) (hk : k < h.length) (hkr : k ∉ r) (hlt : ∀ a ∈ r, a < h.length) (g : RowG h x r)
  (hbs : ∀ j, (baseN h x k).testBit j = true → (plS r).testBit j = true) (w : World) (hT : Txns w va h) (hl : Ints w vr (r.reverse.map Int.ofNat)) (hm : Prs w vm m) (hR : Rep (seesR h x r) m) :
  Calls Tryz.prog 82 #[va, .int .i64 x, vr, vm, .int .i64 k] w fun e w' => (∃ (v' : Value) (m' : List Pr), e = .returned v' ∧ Prs w' v' m' ∧ Rep (seesR h x (k :: r)) m' ∧ ((v' = vm ∧ m' = m) ∨ ∀ g, v'.ownBlock = some g → w.heap.size ≤ g)) ∧ Below w.heap.size w w' := by
 have CS := hid (fun (m1 : List Pr) (v1 : Value) (i : Nat) (hi : i ∈ r) wx (hb : Below w.heap.size w wx) (h1 : Prs wx v1 m1) => sees14_any va vr v1 h x hx (r.reverse.map Int.ofNat) m1 i k (hlt i hi) hk (fun e => hkr (by rw [← e]; exact hi)) wx (hT.below hb) (hl.below hb) h1)
 have CH := hid (fun (m1 : List Pr) (v1 : Value) (i : Nat) wx (h1 : Prs wx v1 m1) => phas_any v1 m1 (i : Int) (k : Int) wx h1)
 have CP := hid (fun (m1 : List Pr) (v1 : Value) (i : Nat) wx (h1 : Prs wx v1 m1) (hl : m1.length ≤ 4096) => put_own v1 m1 (i : Int) (k : Int) wx h1 (by omega))
 have HPUT := hid (fun (m1 : List Pr) (i : Nat) (hi : i ∈ r) (hw : WI4 h x r k m1) => wi_put hc hx g hlt hk hkr hbs hw hi)
 have HDONE := hid (fun (m1 : List Pr) (hw : WI4 h x r k m1) => wi_done hc hx g hlt hk hkr hbs hw)
 have HW0 := hid (wi_start (k := k) hkr hR)
 have HLEN : Hid (∀ m1, WI4 h x r k m1 → m1.length ≤ 4096) := hid (fun m1 hw => hw.len)
 obtain ⟨L, hL⟩ : ∃ L, L = r.reverse := ⟨_, rfl⟩
 have HMEM := hid (fun (i : Nat) => show i ∈ L ↔ i ∈ r by rw [hL]; exact List.mem_reverse)
 have HI := hid (fun wx (hx : Below w.heap.size w wx) => hl.below hx)
 rw [← hL] at hl CS HPUT HDONE HI
 obtain ⟨ao, cap, rfl, hal⟩ := hT.form
 obtain ⟨ro, rcap, rfl, hrl⟩ := hl.form
 rw [List.length_map] at hrl CS HI ⊢
 have hb := Below.refl w.heap.size w
 generalize WI4 h x r k = WIx at *
 generalize hse : seesB h x (L.map Int.ofNat) = SB at *
 clear hse hT hl hR hbs g hkr hlt hL hc
 go_enter Tryz.func82, Tryz.ntmps82
 go_wp2_with fail
 go_loopw [3, 11] (fun vv bv wr => ∃ (m1 : List Pr) (bo : Bool), bv = .bool bo ∧ Prs wr vv m1 ∧ Hid ((vv = vm ∧ m1 = m) ∨ ∀ g, vv.ownBlock = some g → w.heap.size ≤ g) ∧ Hid (WIx m1) ∧ Hid (m1.length ≤ 4096) ∧ Hid (bo = false → ∀ i ∈ r, hasP m1 (i : Int) (k : Int) = false → SB m1 i k = false) ∧ Below w.heap.size w wr) (fun vv bv _ => 4096 - vlenP vv + vbitP bv)
 case atStart => exact ⟨m, true, rfl, hm, hid (.inl ⟨rfl, rfl⟩), HW0, hid (HLEN.out _ HW0.out), hid (fun e => by cases e), hb⟩
 case round =>
  clear hb hm HW0
  obtain ⟨m1, bo, rfl, hm1, HO, HW, HL1, HD, hb⟩ := hrel
  obtain ⟨mo, mcap, rfl, hml⟩ := hm1.form
  cases bo with
  | false =>
   have HD2 := hid (HDONE.out m1 HW.out (HD.out rfl))
   clear HD HDONE
   go_wp2_with fail
   go_ret
   exact ⟨⟨_, m1, rfl, hm1, HD2.out, HO.out⟩, hb⟩
  | true =>
   clear HD
   go_wp2_with fail
   go_loopw [3, 11, 12] (fun v2 b2 jv wx => ∃ (j : Nat) (m2 : List Pr) (bo2 : Bool), j ≤ L.length ∧ jv = .int .i64 j ∧ b2 = .bool bo2 ∧ Prs wx v2 m2 ∧ Hid ((v2 = vm ∧ m2 = m) ∨ ∀ g, v2.ownBlock = some g → w.heap.size ≤ g) ∧ Hid (WIx m2) ∧ Hid (m2.length ≤ 4096) ∧ Hid (bo2 = false → m2 = m1 ∧ ∀ (t : Nat) (ht : t < L.length), t < j → hasP m2 (L[t] : Int) (k : Int) = false → SB m2 L[t] k = false) ∧ Hid (bo2 = true → m1.length < m2.length) ∧ Below w.heap.size w wx) (fun _ _ jv _ => L.length - (intOf jv).toNat)
   case atStart => exact ⟨0, m1, false, by omega, rfl, rfl, hm1, HO, HW, HL1, hid (fun _ => ⟨rfl, fun t _ h0 => by omega⟩), hid (fun e => by cases e), hb⟩
   case round =>
    clear hb hm1 HW HO
    obtain ⟨j, m2, bo2, hj, rfl, rfl, hm2, HO, HW, HL2, HF, HG, hb⟩ := hrel
    obtain ⟨mo2, mcap2, rfl, hml2⟩ := hm2.form
    by_cases hlt : j < L.length
    ·have hji : (j : Int) < (L.length : Int) := by omega
     obtain ⟨gb, o, hao, c1⟩ := ints_at (HI.out _ hb) hlt
     cases hao
     have D1 := hid (CH.out m2 _ L[j] _ hm2)
     have D2 := hid (CS.out m2 _ L[j] ((HMEM.out _).1 (List.getElem_mem hlt)) _ hb hm2)
     have D3 := hid (CP.out m2 (.slice mo2 m2.length mcap2) L[j])
     have HP1 : Hid (hasP m2 (L[j] : Int) (k : Int) = false → SB m2 L[j] k = true → WIx (putP m2 (L[j] : Int) (k : Int)) ∧ (putP m2 (L[j] : Int) (k : Int)).length = m2.length + 1) := hid (fun e1 e2 => ⟨HPUT.out m2 L[j] ((HMEM.out _).1 (List.getElem_mem hlt)) HW.out e2, putP_new e1⟩)
     have HN1 : Hid ((hasP m2 (L[j] : Int) (k : Int) = false → SB m2 L[j] k = false) → (bo2 = false → m2 = m1 ∧ ∀ (t : Nat) (ht : t < L.length), t < j + 1 → hasP m2 (L[t] : Int) (k : Int) = false → SB m2 L[t] k = false)) := hid (fun e1 e2 => ⟨(HF.out e2).1, fun t ht htj => by
      by_cases q : t = j
      ·subst q; exact e1
      ·exact (HF.out e2).2 t ht (by omega)⟩)
     have HG2 : Hid (m1.length ≤ m2.length) := hid (by
      cases bo2 with
      | false => rw [(HF.out rfl).1]; exact Nat.le_refl _
      | true => exact Nat.le_of_lt (HG.out rfl))
     generalize hasP m2 (L[j] : Int) (k : Int) = q1 at *
     generalize SB m2 L[j] k = q2 at *
     generalize putP m2 (L[j] : Int) (k : Int) = m3 at *
     generalize L[j] = y at *
     clear CS CH CP HPUT HDONE HMEM HF
     go_wp2_with fail
     refine (D1.out).mono ?_
     rintro e w2 ⟨rfl, rfl⟩
     cases q1 with
     | true =>
      have HN2 := hid (HN1.out (fun e => by cases e))
      clear HN1 HP1 D1 D2 D3 c1
      go_wp2_with fail
      go_roundw
      case rel => exact ⟨j + 1, m2, bo2, by omega, by go_num, rfl, hm2, HO, HW, HL2, HN2, HG, hb⟩
      case measure => simp [intOf]; omega
     | false =>
      go_wp2_with fail
      refine (D2.out).mono ?_
      rintro e w2 ⟨rfl, hn⟩
      cases q2 with
      | false =>
       have HN2 := hid (HN1.out (by first | exact fun _ => rfl | trivial))
       have hb3 := below_then hb hn
       have hm3 := hm2.below hn
       clear HN1 HP1 D1 D2 D3 c1 hn hb hm2
       go_wp2_with fail
       go_roundw
       case rel => exact ⟨j + 1, m2, bo2, by omega, by go_num, rfl, hm3, HO, HW, HL2, HN2, HG, hb3⟩
       case measure => simp [intOf]; omega
      | true =>
       obtain ⟨z1, z2⟩ := HP1.out (by first | rfl | trivial) (by first | rfl | trivial)
       have Z1 := hid z1
       have Z2 : Hid (m1.length < m3.length) := hid (by have := HG2.out; omega)
       have Z3 : Hid (m3.length ≤ 4096) := hid (HLEN.out _ z1)
       have hb3 := below_then hb hn
       have hm3 := hm2.below hn
       have D3 := hid (D3.out _ hm3 HL2.out)
       have c2 := (hn.cell (p := ⟨gb, o + j, none⟩) (block_lt c1)).trans c1
       clear HN1 HP1 D1 D2 c1 hn hb hm2 hm3 HW HL2 HG HG2
       go_wp2_with fail
       refine (D3.out).mono ?_
       rintro e w3 ⟨v3, rfl, hm4, ho, hn⟩
       have HO3 : Hid ((v3 = vm ∧ m3 = m) ∨ ∀ g, v3.ownBlock = some g → w.heap.size ≤ g) := hid (by
        rcases ho with ⟨q1, q2⟩ | q
        ·rw [q1, q2]; exact HO.out
        ·exact .inr fun g hg => Nat.le_trans hb3.size (q g hg))
       clear ho
       have hb4 := below_then hb3 hn
       clear hn hb3 D3 c2
       go_wp2_with fail
       go_roundw
       case rel => exact ⟨j + 1, m3, true, by omega, by go_num, rfl, hm4, HO3, Z1, Z3, hid (fun e => by cases e), hid (fun _ => Z2.out), hb4⟩
       case measure => simp [intOf]; omega
    ·have hj2 : j = L.length := by omega
     subst hj2
     cases bo2 with
     | false =>
      have HN2 : Hid (∀ i ∈ r, hasP m2 (i : Int) (k : Int) = false → SB m2 i k = false) := hid (fun i hi e => by
       obtain ⟨t, ht, rfl⟩ := List.getElem_of_mem ((HMEM.out i).2 hi)
       exact (HF.out rfl).2 t ht ht e)
      have HQ : Hid (m2.length = m1.length) := hid (by rw [(HF.out rfl).1])
      clear HF HG CS CH CP HPUT HDONE HMEM
      go_wp2_with fail
      go_roundw
      case rel => exact ⟨m2, false, rfl, hm2, HO, HW, HL2, hid (fun _ => HN2.out), hb⟩
      case measure => have := HQ.out; have := HL2.out; simp [vlenP, vbitP]; omega
     | true =>
      have HQ : Hid (m1.length < m2.length) := hid (HG.out rfl)
      clear HF HG CS CH CP HPUT HDONE HMEM
      go_wp2_with fail
      go_roundw
      case rel => exact ⟨m2, true, rfl, hm2, HO, HW, HL2, hid (fun e => by cases e), hb⟩
      case measure => have := HQ.out; have := HL2.out; simp [vlenP, vbitP]; omega
end

section
theorem tG7 {P : Program} {ops : Array Oper} {Q : Exit → Act → World → Prop} {md : Region.Mode} {S : World → Prop} (d : Option Tmp) (i : Nat) {oi : Oper} (v : Value) {fuel : Nat} {listed : Array Bool} {a : Act} {w : World} (hi : ops[i]? = some oi) (hd : oi.dst = d)
 (hy : YieldsIf P ops S oi v a) (hS : S w) (h : wpAnyH P md ops Q S fuel (listed.setIfInBounds i true) (a.put d v) w)
 (hs : Region.noSelect ops = true := by kernel_rfl) (hf : Region.free md ops listed i = true := by kernel_rfl) (hr : (Region.ready md ops listed).contains i = true := by kernel_rfl)
 (hQ : ∀ c a w, Q (.panic c) (a.put oi.dst v) w → Q (.panic c) a w := by exact fun _ _ _ h => h) : wpAnyH P md ops Q S (fuel + 1) listed a w := takeG d hi hd hs hf hr hQ hy hS h
theorem tA7 {P : Program} {ops : Array Oper} {Q : Exit → Act → World → Prop} {md : Region.Mode} {S : World → Prop} (d : Option Tmp) (i : Nat) {oi : Oper} {v : Value} {fuel : Nat} {listed : Array Bool} {a : Act} {w : World} (hi : ops[i]? = some oi) (hd : oi.dst = d)
 (hS : S w) (h : wpAnyH P md ops Q S fuel (listed.setIfInBounds i true) (a.put d v) w)
 (hy : YieldsIf P ops S oi v a := by exact Or.inl ⟨by rfl, by intro w _; go_simp; try (with_reducible rfl)⟩)
 (hs : Region.noSelect ops = true := by kernel_rfl) (hf : Region.free md ops listed i = true := by kernel_rfl) (hr : (Region.ready md ops listed).contains i = true := by kernel_rfl)
 (hQ : ∀ c a w, Q (.panic c) (a.put oi.dst v) w → Q (.panic c) a w := by exact fun _ _ _ h => h) : wpAnyH P md ops Q S (fuel + 1) listed a w := takeG d hi hd hs hf hr hQ hy hS h
theorem rD7 {P : Program} {ops : Array Oper} {Q : Exit → Act → World → Prop} {md : Region.Mode} {S : World → Prop} {fuel : Nat} {listed : Array Bool} {a : Act} {w : World} (i : Nat) {o : Oper} (ho : ops[i]? = some o)
 (h : ∀ K' : Act → World → Prop, Shut (∀ a w, S w → (S w → wpAnyH P md ops Q S fuel (listed.setIfInBounds i true) a w) → K' a w) → if Region.wanted o (yielded ops a.tmps) = true then Oper.wp P o a w K' Q else K' (a.put o.dst undef) w)
 (hr : Region.ready md ops listed = [i] := by kernel_rfl) : wpAnyH P md ops Q S (fuel + 1) listed a w := wpAnyH_ready hr (by simp) (AllReadyH.cons ho h AllReadyH.nil)
end
section
open Go.RowKit
section
variable {h : List TxnV} {x : Nat} {r : List Nat} {k : Nat}
theorem must_irr (hc : checkI h = 0) (hk : k < h.length) : mustB h x k k = false := by
 unfold mustB sesP timP
 rw [froR_irr, decide_eq_false (Nat.lt_irrefl k), cAt_eq hk, bAt_eq hk, decide_eq_false (show ¬ h[k].c < h[k].b by have := bc_of hc hk; omega)]
 simp
theorem try_base_no (hc : checkI h = 0) (hx : x < 64) (hlt : ∀ a ∈ r, a < 64) {i : Nat} (hi : i < h.length) (hk : k < h.length) (hm : mustB h x i k = true) (hir : i ∉ r) : tryP h x r k = false := by
 rw [must_base hc hx hi hk] at hm
 unfold tryP
 cases e : inB (baseN h x k) (plS r) with
 | false => simp
 | true => exact (hir (plS_mem hlt ((inB_bits (baseN_set h x k)).1 e i hm))).elim
theorem base_all (hc : checkI h = 0) (hx : x < 64) (hlt : ∀ a ∈ r, a < 64) (hk : k < h.length) (hm : ∀ i, i < h.length → i ≠ k → mustB h x i k = true → i ∈ r) : ∀ j, (baseN h x k).testBit j = true → (plS r).testBit j = true := by
 intro j hj
 have h64 := (check_zero hc).1
 obtain ⟨j64, hb⟩ := (baseN_bit (show k < 64 by omega)).1 hj
 have hjn := (baseM_lt (by omega) j64 (show k < 64 by omega) hb).1
 have hmu : mustB h x j k = true := by rw [must_base hc hx hjn hk]; exact hj
 have hne : j ≠ k := by rintro rfl; rw [must_irr hc hk] at hmu; cases hmu
 rw [plS_bit j r hlt, decide_eq_true_eq]
 exact hm j hjn hne hmu
theorem try_reads (hk : k < h.length) (hkr : k ∉ r) (hb : ∀ j, (baseN h x k).testBit j = true → (plS r).testBit j = true) : tryP h x r k = readsP h (aheadL r) (nextN h x r k) k := by
 unfold tryP
 rw [decide_eq_true hk, decide_eq_false hkr, (inB_bits (baseN_set h x k)).2 hb]; rfl
theorem reads_may (hc : checkI h = 0) (hx : x < 64) (g : RowG h x r) (hlt : ∀ a ∈ r, a < h.length) (hk : k < h.length) (hb : ∀ j, (baseN h x k).testBit j = true → (plS r).testBit j = true) {m : List Pr} (hR : Rep (seesR h x (k :: r)) m) :
  readsP h (aheadL r) (nextN h x r k) k = (rdR h (k : Int) (refReads h[k].l)).all (rdOkR h (r.reverse.map Int.ofNat) m k) := by
 have h64 := (check_zero hc).1
 unfold readsP
 rw [← reads_same hc hk]
 refine all_congr _ fun rd hrd => ?_
 have e := lstR_same hc hR (show k < 64 by omega) rd.1 (r.map Int.ofNat) (fun a ha => by
  obtain ⟨q, hq, rfl⟩ := List.mem_map.1 ha
  have := hlt q hq
  exact ⟨Int.natCast_nonneg q, by show (q : Int) < _; omega⟩)
 rw [← List.map_reverse, sees_col (show k < 64 by omega), show plSee h x (k :: r) k = nextN h x r k by rw [plSee, if_pos rfl]; rfl] at e
 unfold rdOkR
 rw [e]
 refine (read_last hc g.nd g.lt hk (fun j hj => plS_mem g.lt (next_in g hb hj)) hrd fun n en => ?_).symm
 unfold nextN
 refine wld4_base ?_
 rcases read_from hc hk hrd with q | ⟨m', hm, q, _, _⟩
 ·rw [en] at q; omega
 ·have : n = m' := by rw [en] at q; exact Int.ofNat.inj q
  subst this
  exact from_base (by omega) h64 hk hm hrd q
end
theorem may14_any (va vr vm : Value) (h : List TxnV) (x : Nat) (hx : x < 64) (r : List Nat) (m : List Pr) (i : Int) (hc : checkI h = 0) (hlt : ∀ a ∈ r, a < h.length) (g : RowG h x r) (w : World) (hT : Txns w va h) (hl : Ints w vr (r.reverse.map Int.ofNat)) (hm : Prs w vm m) (hR : Rep (seesR h x r) m) :
  Calls Tryz.prog 81 #[va, .int .i64 x, vr, vm, .int .i64 i] w fun e w' => e = .returned (.bool (tryI h x r i)) ∧ Below w.heap.size w w' := by
 have CPL := hid (fun (j : Int) wx (hb : Below w.heap.size w wx) => rplace_any vr (r.reverse.map Int.ofNat) j wx (hl.below hb))
 have CM := hid (fun (j k : Nat) (hj : j < h.length) (hk : k < h.length) wx (hb : Below w.heap.size w wx) => must14_any va h x hx j k hj hk wx (hT.below hb))
 have CW := hid (fun (k : Nat) (hk : k < h.length) (hkr : k ∉ r) (hbs : ∀ j, (baseN h x k).testBit j = true → (plS r).testBit j = true) wx (hb : Below w.heap.size w wx) => with14_any va vr vm h x hx r m k hc hk hkr hlt g hbs wx (hT.below hb) (hl.below hb) (hm.below hb) hR)
 have CR := hid (fun (k : Nat) (hk : k < h.length) wx (hb : Below w.heap.size w wx) => rreads8_any va h k hk wx (hT.below hb))
 have CWR := hid (fun (j : Nat) (key : Int) (hj : j < h.length) wx (hb : Below w.heap.size w wx) => rwrts8_any va h j key hj wx (hT.below hb))
 have HI := hid (fun wx (hx : Below w.heap.size w wx) => hl.below hx)
 have HPL := hid (fun j : Nat => show 0 ≤ placeI (r.reverse.map Int.ofNat) (j : Int) ↔ j ∈ r by
  rw [placeI_nn, List.mem_map]
  exact ⟨fun ⟨a, ha, e⟩ => by have : a = j := Int.ofNat.inj e; subst this; exact List.mem_reverse.1 ha, fun hj => ⟨j, List.mem_reverse.2 hj, rfl⟩⟩)
 have HNO := hid (fun (j k : Nat) (hj : j < h.length) (hk : k < h.length) => try_base_no (k := k) hc hx g.lt hj hk)
 have HALL := hid (fun (k : Nat) (hk : k < h.length) => base_all hc hx g.lt hk)
 have HTR := hid (fun (k : Nat) (hk : k < h.length) (hkr : k ∉ r) hbs => try_reads (x := x) hk hkr hbs)
 have HRM := hid (fun (k : Nat) (hk : k < h.length) hbs (m' : List Pr) (hR' : Rep (seesR h x (k :: r)) m') => reads_may hc hx g hlt hk hbs hR')
 have HLT := hid hlt
 obtain ⟨L, hL⟩ : ∃ L, L = r.reverse := ⟨_, rfl⟩
 have HMEM := hid (fun (i : Nat) => show i ∈ L ↔ i ∈ r by rw [hL]; exact List.mem_reverse)
 rw [← hL] at hl CPL HI HPL HRM
 obtain ⟨ao, cap, rfl, hal⟩ := hT.form
 obtain ⟨ro, rcap, rfl, hrl⟩ := hl.form
 obtain ⟨mo, mcap, rfl, hml⟩ := hm.form
 rw [List.length_map] at hrl CPL HI CW ⊢
 have hb := Below.refl w.heap.size w
 have HTI : Hid (∀ k : Nat, tryI h x r (k : Int) = tryP h x r k) := hid (tryI_nat h x r)
 have HT0 : Hid (i < 0 → tryI h x r i = false) := hid (fun e => by unfold tryI; rw [decide_eq_false (by omega)]; rfl)
 have HT1 : Hid (∀ k : Nat, h.length ≤ k → tryP h x r k = false) := hid (fun k e => by unfold tryP; rw [decide_eq_false (by omega)]; rfl)
 have HT2 : Hid (∀ k : Nat, k ∈ r → tryP h x r k = false) := hid (fun k e => tryP_in e)
 clear hT hl hm hR g hlt hL hc
 go_enter Tryz.func81, Tryz.ntmps81
 by_cases h0 : i < 0
 ·have HV := hid (HT0.out h0)
  have hd0 : decide (i < 0) = true := decide_eq_true h0
  go_wp2_with fail
  go_ret
  exact ⟨ret_b HV.out.symm, hb⟩
 obtain ⟨k, rfl⟩ := Int.eq_ofNat_of_zero_le (show 0 ≤ i by omega)
 rw [HTI.out k]
 have h0' : ¬ (k : Int) < 0 := by omega
 have hd0 : decide ((k : Int) < 0) = false := decide_eq_false h0'
 clear HT0 h0
 by_cases h1 : k < h.length
 rotate_left
 ·have HV := hid (HT1.out k (by omega))
  have hd1 : decide ((h.length : Int) ≤ (k : Int)) = true := decide_eq_true (by omega)
  have hd1n : decide (h.length ≤ k) = true := decide_eq_true (by omega)
  have h1' : h.length ≤ k := by omega
  clear h1
  go_wp2_with fail
  go_ret
  exact ⟨ret_b HV.out.symm, hb⟩
 have h1' : ¬ h.length ≤ k := by omega
 have hd1 : decide ((h.length : Int) ≤ (k : Int)) = false := decide_eq_false (by omega)
 have hd1n : decide (h.length ≤ k) = false := decide_eq_false (by omega)
 have D0 := hid (CPL.out (k : Int) _ hb)
 by_cases hkr : k ∈ r
 ·have HV := hid (HT2.out k hkr)
  have hp : 0 ≤ placeI (L.map Int.ofNat) (k : Int) := (HPL.out k).2 hkr
  generalize placeI (L.map Int.ofNat) (k : Int) = pk at *
  have hdp : decide (0 ≤ pk) = true := decide_eq_true hp
  go_wp2_with fail
  refine (D0.out).mono ?_
  rintro e w1 ⟨rfl, rfl⟩
  go_wp2_with fail
  go_ret
  exact ⟨ret_b HV.out.symm, hb⟩
 have HKR := hid hkr
 have hp : ¬ 0 ≤ placeI (L.map Int.ofNat) (k : Int) := fun q => hkr ((HPL.out k).1 q)
 generalize placeI (L.map Int.ofNat) (k : Int) = pk at *
 have hdp : decide (0 ≤ pk) = false := decide_eq_false hp
 clear HTI HT1 HT2 hkr
 go_wp2_with fail
 refine (D0.out).mono ?_
 rintro e w1 ⟨rfl, rfl⟩
 clear D0
 go_wp2_with fail
 go_loopw [11] (fun iv wr => ∃ j : Nat, j ≤ h.length ∧ iv = .int .i64 j ∧ Hid (∀ t, t < j → t ≠ k → mustB h x t k = true → t ∈ r) ∧ Below w.heap.size w wr) (fun iv _ => h.length - (intOf iv).toNat)
 case atStart => exact ⟨0, by omega, rfl, hid (fun t ht => by omega), hb⟩
 case round =>
  clear hb
  obtain ⟨j, hj, rfl, HA, hb⟩ := hrel
  by_cases hjl : j < h.length
  ·have hjj : (j : Int) < (h.length : Int) := by omega
   have HSTEP : Hid ((j ≠ k → mustB h x j k = true → j ∈ r) → ∀ t, t < j + 1 → t ≠ k → mustB h x t k = true → t ∈ r) := hid (fun q t ht => by
    by_cases e : t = j
    ·subst e; exact q
    ·exact HA.out t (by omega))
   have HF := hid (HNO.out j k hjl h1)
   have D1 := hid (CM.out j k hjl h1 _ hb)
   have D2 := hid (CPL.out (j : Int))
   have HQ := hid (HPL.out j)
   clear HA
   by_cases hjk : j = k
   ·have hje : (j : Int) = (k : Int) := by omega
    have hjb : ((j : Int) != (k : Int)) = false := by rw [hje]; simp
    have HS := hid (HSTEP.out (fun q => absurd hjk q))
    clear HSTEP HF D1 D2 HQ hjk
    go_wp2_with fail
    go_roundw
    case rel => exact ⟨j + 1, by omega, by go_num, HS, hb⟩
    case measure => simp [intOf]; omega
   ·have hje : ¬ (j : Int) = (k : Int) := by omega
    have hjb : ((j : Int) != (k : Int)) = true := by rw [bne_iff_ne]; exact hje
    generalize mustB h x j k = q1 at *
    generalize placeI (L.map Int.ofNat) (j : Int) = pj at *
    go_wp2_with fail
    refine (D1.out).mono ?_
    rintro e w2 ⟨rfl, hn⟩
    have hb2 := below_then hb hn
    clear hn D1 hb
    cases q1 with
    | false =>
     have HS := hid (HSTEP.out (fun _ q => by cases q))
     clear HSTEP HF D2 HQ
     go_wp2_with fail
     go_roundw
     case rel => exact ⟨j + 1, by omega, by go_num, HS, hb2⟩
     case measure => simp [intOf]; omega
    | true =>
     have D2 := hid (D2.out _ hb2)
     by_cases hpj : pj < 0
     ·have HV := hid (HF.out rfl (fun q => by have := HQ.out.2 q; omega))
      have hdj : decide (pj < 0) = true := decide_eq_true hpj
      clear HSTEP HF HQ
      go_wp2_with fail
      refine (D2.out).mono ?_
      rintro e w3 ⟨rfl, rfl⟩
      go_wp2_with fail
      go_ret
      exact ⟨ret_b HV.out.symm, hb2⟩
     ·have HS := hid (HSTEP.out (fun _ _ => HQ.out.1 (by omega)))
      have hdj : decide (pj < 0) = false := decide_eq_false hpj
      clear HSTEP HF HQ
      go_wp2_with fail
      refine (D2.out).mono ?_
      rintro e w3 ⟨rfl, rfl⟩
      go_wp2_with fail
      go_roundw
      case rel => exact ⟨j + 1, by omega, by go_num, HS, hb2⟩
      case measure => simp [intOf]; omega
  ·have hjn : j = h.length := by omega
   subst hjn
   have hbs := HALL.out k h1 HA.out
   have D3 := hid (CW.out k h1 HKR.out hbs _ hb)
   have HTR := hid (HTR.out k h1 HKR.out hbs)
   have HRM := hid (HRM.out k h1 hbs)
   clear HA HALL HNO CM CPL HPL CW hbs
   go_wp2_with fail
   refine (D3.out).mono ?_
   rintro e w2 ⟨⟨v2, m2, rfl, hm2, hR2, _⟩, hn⟩
   have hb2 := below_then hb hn
   have HTR : Hid (tryP h x r k = (rdR h (k : Int) (refReads h[k].l)).all (rdOkR h (L.map Int.ofNat) m2 k)) := hid (HTR.out.trans (HRM.out m2 hR2))
   have D4 := hid (CR.out k h1 _ hb2)
   obtain ⟨mo2, mcap2, rfl, hml2⟩ := hm2.form
   clear HRM D3 CR hn hb hR2
   generalize rdR h (k : Int) (refReads h[k].l) = RD at *
   go_wp2_with fail
   refine (D4.out).mono ?_
   rintro e w3 ⟨v3, rfl, hO3, hn⟩
   have hF3 : Frs w3 v3 RD := Row.of_owns hO3
   have hb3 := below_then hb2 hn
   have hm3 := hm2.below hn
   obtain ⟨a3, cap3, rfl, hll⟩ := hF3.form
   have HB := hid (fun wx (hx : Below w3.heap.size w3 wx) => hb3.trans (hx.mono hb3.size))
   have HFR := hid (fun wx (hx : Below w3.heap.size w3 wx) => hF3.below hx)
   have HPM := hid (fun wx (hx : Below w3.heap.size w3 wx) => hm3.below hx)
   have hb := Below.refl w3.heap.size w3
   clear D4 hn hb2 hm2 hO3 hF3 hm3
   go_wp2_with fail
   go_loopw [13] (fun kv wr => ∃ t : Nat, t ≤ RD.length ∧ kv = .int .i64 t ∧ Hid ((RD.take t).all (rdOkR h (L.map Int.ofNat) m2 k) = true) ∧ Below w3.heap.size w3 wr) (fun kv _ => RD.length - (intOf kv).toNat)
   case atStart => exact ⟨0, by omega, rfl, hid rfl, hb⟩
   case round =>
    clear hb hb3
    obtain ⟨t, ht, rfl, HA, hb⟩ := hrel
    by_cases htl : t < RD.length
    ·have htt : (t : Int) < (RD.length : Int) := by omega
     have HYY := hid (fun hp : rdOkR h (L.map Int.ofNat) m2 k RD[t] = true => all_take htl HA.out hp)
     have HNN := hid (fun hp : rdOkR h (L.map Int.ofNat) m2 k RD[t] = false => show tryP h x r k = false from HTR.out.trans (all_no htl hp))
     have HQ : Hid (rdOkR h (L.map Int.ofNat) m2 k RD[t] = decide (lstR h m2 (k : Int) RD[t].1 (L.map Int.ofNat) = RD[t].2)) := hid rfl
     have HRD := hid (fun wx (hx : Below w3.heap.size w3 wx) => (HFR.out wx hx).at htl)
     obtain ⟨key, hkey⟩ : ∃ y, y = RD[t].1 := ⟨_, rfl⟩
     obtain ⟨frm, hfrm⟩ : ∃ y, y = RD[t].2 := ⟨_, rfl⟩
     rw [← hkey, ← hfrm] at HQ HRD
     clear hkey hfrm HA
     go_wp2_with fail
     go_loopw [14, 15] (fun ov jv wx => ∃ j : Nat, j ≤ L.length ∧ jv = .int .i64 j ∧ ov = .int .i64 (lstR h m2 (k : Int) key ((L.map Int.ofNat).take j)) ∧ Below w3.heap.size w3 wx) (fun _ jv _ => L.length - (intOf jv).toNat)
     case atStart => exact ⟨0, by omega, rfl, rfl, hb⟩
     case round =>
      clear hb
      obtain ⟨j, hj, rfl, rfl, hb⟩ := hrel
      by_cases hjl : j < L.length
      ·have hjj : (j : Int) < (L.length : Int) := by omega
       obtain ⟨gb, o, hao, c1⟩ := ints_at (HI.out _ (HB.out _ hb)) hjl
       cases hao
       obtain ⟨gk, ok, hao, d1, d2⟩ := HRD.out _ hb
       cases hao
       have HS := hid (lstR_take h m2 (k : Int) key (L.map Int.ofNat) j (by rw [List.length_map]; exact hjl))
       rw [List.getElem_map] at HS
       have hyn := HLT.out _ ((HMEM.out _).1 (List.getElem_mem hjl))
       have HS : Hid (lstR h m2 (k : Int) key ((L.map Int.ofNat).take (j + 1)) = if (hasP m2 (L[j] : Int) (k : Int) && wrsR h L[j] key) = true then (L[j] : Int) else lstR h m2 (k : Int) key ((L.map Int.ofNat).take j)) := hid (by rw [HS.out]; simp)
       have D1 := hid (fun wx (hx : Below w3.heap.size w3 wx) => phas_any _ m2 (L[j] : Int) (k : Int) wx (HPM.out wx hx))
       have D2 := hid (fun wx (hx : Below w3.heap.size w3 wx) => CWR.out L[j] key hyn wx (HB.out wx hx))
       have hlo1 := block_lt c1
       have hlo2 := block_lt d1
       simp only at hlo1 hlo2
       generalize hasP m2 (L[j] : Int) (k : Int) = q1 at *
       generalize wrsR h L[j] key = q2 at *
       generalize L[j] = y at *
       generalize lstR h m2 (k : Int) key ((L.map Int.ofNat).take j) = f0 at *
       clear HYY HNN HQ HTR
       have CC1 := hid (fun wx (hx : Below wr.heap.size wr wx) => (hx.cell (p := ⟨gb, o + j, none⟩) hlo1).trans c1)
       have CC2 := hid (fun wx (hx : Below wr.heap.size wr wx) => (hx.cell (p := ⟨gk, ok + t * 2, none⟩) hlo2).trans d1)
       cases q1 with
       | true =>
        go_upto_region 17 with fail
        have kd := (Below.refl wr.heap.size wr).drew
        refine wp_region_held_drew (S := Below wr.heap.size wr) (by kernel_rfl) kd (fun hS0 => ?_)
        refine tA7 (some 73) 0 rfl rfl hS0 ?_
        try simp only [Act.put, zA7, zB7, zC7]
        refine tA7 (some 74) 1 rfl rfl hS0 ?_
        try simp only [Act.put, zA7, zB7, zC7]
        refine tA7 (some 75) 2 rfl rfl hS0 ?_
        try simp only [Act.put, zA7, zB7, zC7]
        refine tA7 (some 76) 3 rfl rfl hS0 ?_
        try simp only [Act.put, zA7, zB7, zC7]
        refine tG7 (some 77) 4 ?vpv4x5 rfl rfl (Or.inl ⟨by rfl, ?hpv4x5⟩) hS0 ?rpv4x5
        case hpv4x5 => (intro w hz; have c1 := CC1.out w hz; go_simp; try (with_reducible rfl))
        try simp only [Act.put, zA7, zB7, zC7]
        refine tA7 (some 78) 5 rfl rfl hS0 ?_
        try simp only [Act.put, zA7, zB7, zC7]
        refine rD7 6 rfl (fun K hK => ?_)
        go_simp
        refine (D1.out _ (below_then hb hS0)).mono ?_
        rintro e yq ⟨rfl, rfl⟩
        show K _ _
        refine hK.out _ _ hS0 (fun _ => ?_)
        clear hK K
        refine tA7 (some 80) 7 rfl rfl hS0 ?_
        try simp only [Act.put, zA7, zB7, zC7]
        refine tA7 (some 81) 8 rfl rfl hS0 ?_
        try simp only [Act.put, zA7, zB7, zC7]
        refine tA7 (some 82) 9 rfl rfl hS0 ?_
        try simp only [Act.put, zA7, zB7, zC7]
        refine tA7 (some 83) 10 rfl rfl hS0 ?_
        try simp only [Act.put, zA7, zB7, zC7]
        refine tA7 (some 84) 11 rfl rfl hS0 ?_
        try simp only [Act.put, zA7, zB7, zC7]
        refine tG7 (some 85) 12 ?vpv12x13 rfl rfl (Or.inl ⟨by rfl, ?hpv12x13⟩) hS0 ?rpv12x13
        case hpv12x13 => (intro w hz; have c1 := CC1.out w hz; go_simp; try (with_reducible rfl))
        try simp only [Act.put, zA7, zB7, zC7]
        refine tA7 (some 86) 13 rfl rfl hS0 ?_
        try simp only [Act.put, zA7, zB7, zC7]
        refine tA7 (some 87) 14 rfl rfl hS0 ?_
        try simp only [Act.put, zA7, zB7, zC7]
        refine tA7 (some 88) 15 rfl rfl hS0 ?_
        try simp only [Act.put, zA7, zB7, zC7]
        refine tA7 (some 89) 16 rfl rfl hS0 ?_
        try simp only [Act.put, zA7, zB7, zC7]
        refine tG7 (some 90) 17 ?vpv17x18 rfl rfl (Or.inl ⟨by rfl, ?hpv17x18⟩) hS0 ?rpv17x18
        case hpv17x18 => (intro w hz; have d1 := CC2.out w hz; go_simp; try (with_reducible rfl))
        try simp only [Act.put, zA7, zB7, zC7]
        refine rD7 18 rfl (fun K hK => ?_)
        go_simp
        refine (D2.out _ (below_then hb hS0)).mono ?_
        rintro e y19 ⟨rfl, j19⟩
        show K _ _
        have s19 := below_then hS0 j19
        refine hK.out _ _ s19 (fun _ => ?_)
        clear hK K
        refine tA7 (some 92) 19 rfl rfl s19 ?_
        try simp only [Act.put, zA7, zB7, zC7]
        refine wpAnyH_done (by kernel_rfl) ?_ _
        have hb2 := below_then hb s19
        have c1 := CC1.out _ s19
        clear CC1 CC2 D1 D2 HRD
        cases q2 with
        | true =>
         have HN : Hid (lstR h m2 (k : Int) key ((L.map Int.ofNat).take (j + 1)) = (y : Int)) := hid (by rw [HS.out]; rfl)
         go_wp2_with fail
         go_roundw
         case rel => exact ⟨j + 1, by omega, by go_num, by rw [HN.out], hb2⟩
         case measure => simp [intOf]; omega
        | false =>
         have HN : Hid (lstR h m2 (k : Int) key ((L.map Int.ofNat).take (j + 1)) = f0) := hid (by rw [HS.out]; rfl)
         go_wp2_with fail
         go_roundw
         case rel => exact ⟨j + 1, by omega, by go_num, by rw [HN.out], hb2⟩
         case measure => simp [intOf]; omega
       | false =>
        go_upto_region 17 with fail
        have kd := (Below.refl wr.heap.size wr).drew
        refine wp_region_held_drew (S := Below wr.heap.size wr) (by kernel_rfl) kd (fun hS0 => ?_)
        refine tA7 (some 73) 0 rfl rfl hS0 ?_
        try simp only [Act.put, zA7, zB7, zC7]
        refine tA7 (some 74) 1 rfl rfl hS0 ?_
        try simp only [Act.put, zA7, zB7, zC7]
        refine tA7 (some 75) 2 rfl rfl hS0 ?_
        try simp only [Act.put, zA7, zB7, zC7]
        refine tA7 (some 76) 3 rfl rfl hS0 ?_
        try simp only [Act.put, zA7, zB7, zC7]
        refine tG7 (some 77) 4 ?vpw4x5 rfl rfl (Or.inl ⟨by rfl, ?hpw4x5⟩) hS0 ?rpw4x5
        case hpw4x5 => (intro w hz; have c1 := CC1.out w hz; go_simp; try (with_reducible rfl))
        try simp only [Act.put, zA7, zB7, zC7]
        refine tA7 (some 78) 5 rfl rfl hS0 ?_
        try simp only [Act.put, zA7, zB7, zC7]
        refine rD7 6 rfl (fun K hK => ?_)
        go_simp
        refine (D1.out _ (below_then hb hS0)).mono ?_
        rintro e yq ⟨rfl, rfl⟩
        show K _ _
        refine hK.out _ _ hS0 (fun _ => ?_)
        clear hK K
        refine tA7 (some 80) 7 rfl rfl hS0 ?_
        try simp only [Act.put, zA7, zB7, zC7]
        refine tG7 (some 81) 8 undef rfl rfl (Or.inr ⟨by rfl, rfl⟩) hS0 ?_
        try simp only [Act.put, zA7, zB7, zC7]
        refine tG7 (some 82) 9 undef rfl rfl (Or.inr ⟨by rfl, rfl⟩) hS0 ?_
        try simp only [Act.put, zA7, zB7, zC7]
        refine tG7 (some 83) 10 undef rfl rfl (Or.inr ⟨by rfl, rfl⟩) hS0 ?_
        try simp only [Act.put, zA7, zB7, zC7]
        refine tG7 (some 84) 11 undef rfl rfl (Or.inr ⟨by rfl, rfl⟩) hS0 ?_
        try simp only [Act.put, zA7, zB7, zC7]
        refine tG7 (some 85) 12 undef rfl rfl (Or.inr ⟨by rfl, rfl⟩) hS0 ?_
        try simp only [Act.put, zA7, zB7, zC7]
        refine tG7 (some 86) 13 undef rfl rfl (Or.inr ⟨by rfl, rfl⟩) hS0 ?_
        try simp only [Act.put, zA7, zB7, zC7]
        refine tG7 (some 87) 14 undef rfl rfl (Or.inr ⟨by rfl, rfl⟩) hS0 ?_
        try simp only [Act.put, zA7, zB7, zC7]
        refine tG7 (some 88) 15 undef rfl rfl (Or.inr ⟨by rfl, rfl⟩) hS0 ?_
        try simp only [Act.put, zA7, zB7, zC7]
        refine tG7 (some 89) 16 undef rfl rfl (Or.inr ⟨by rfl, rfl⟩) hS0 ?_
        try simp only [Act.put, zA7, zB7, zC7]
        refine tG7 (some 90) 17 undef rfl rfl (Or.inr ⟨by rfl, rfl⟩) hS0 ?_
        try simp only [Act.put, zA7, zB7, zC7]
        refine tG7 (some 91) 18 undef rfl rfl (Or.inr ⟨by rfl, rfl⟩) hS0 ?_
        try simp only [Act.put, zA7, zB7, zC7]
        refine tA7 (some 92) 19 rfl rfl hS0 ?_
        try simp only [Act.put, zA7, zB7, zC7]
        refine wpAnyH_done (by kernel_rfl) ?_ _
        have hb2 := below_then hb hS0
        clear CC1 CC2 D1 D2 HRD
        have HN : Hid (lstR h m2 (k : Int) key ((L.map Int.ofNat).take (j + 1)) = f0) := hid (by rw [HS.out]; rfl)
        go_wp2_with fail
        go_roundw
        case rel => exact ⟨j + 1, by omega, by go_num, by rw [HN.out], hb2⟩
        case measure => simp [intOf]; omega
      ·have hjn : j = L.length := by omega
       subst hjn
       obtain ⟨gk, ok, hao, d1, d2⟩ := HRD.out _ hb
       cases hao
       have HQ2 := HQ.out
       rw [show lstR h m2 (k : Int) key ((L.map Int.ofNat).take L.length) = lstR h m2 (k : Int) key (L.map Int.ofNat) by rw [← List.length_map (f := Int.ofNat), List.take_length]]
       generalize lstR h m2 (k : Int) key (L.map Int.ofNat) = f0 at *
       by_cases hf : f0 = frm
       ·have HV := hid (HYY.out (by rw [HQ2, decide_eq_true hf]))
        have hfb : (f0 != frm) = false := by rw [hf]; simp
        clear HYY HNN HQ HQ2 hf
        go_wp2_with fail
        go_roundw
        case rel => exact ⟨t + 1, by omega, by go_num, HV, hb⟩
        case measure => simp [intOf]; omega
       ·have HV : Hid (false = tryP h x r k) := hid (HNN.out (by rw [HQ2, decide_eq_false hf])).symm
        have hfb : (f0 != frm) = true := by rw [bne_iff_ne]; exact hf
        have hz := HB.out _ hb
        clear HYY HNN HQ HQ2
        go_wp2_with fail
        go_ret
        exact ⟨ret_b HV.out, hz⟩
    ·have htn : t = RD.length := by omega
     subst htn
     have HV : Hid (true = tryP h x r k) := hid (by rw [HTR.out]; have := HA.out; rw [List.take_length] at this; exact this.symm)
     have hz := HB.out _ hb
     clear HA HTR
     go_wp2_with fail
     go_ret
     exact ⟨ret_b HV.out, hz⟩
end

end Go.Proofs.YtecpeegbfeijaaaGreatDoor
