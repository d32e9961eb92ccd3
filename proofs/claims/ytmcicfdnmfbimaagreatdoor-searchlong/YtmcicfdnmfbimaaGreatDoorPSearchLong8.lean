/- Walks and plain facts that the proof of the statement SearchLong uses, joined: OrdL PlaN SeaJ SeaK LesC OrdAB AxhB AxhC BruJ BruP BruQ BruR BruU BruF BruG BruH BruI PlaP ArgZ ArgT ArgC LeaI LeaJ TopA BruK BruV BruZ BrcA BrcC BruW BruX AxhN BruY BrcB SeaL LngA LngB HisT HisU HisV HisW HisY OrdAG BruL BruN LngC. Conditions: each theorem's own. -/
import Derived.Deep.RegionHeld
import Derived.Deep.CutRange
import Derived.Deep.MidRow
import Derived.Deep.RegionHeld3
import Derived.Deep.Slices
import Derived.Deep.Strs
import Derived.Lib.SmallJoins
import Derived.Deep.Upon
import Derived.BigQuiet
import Derived.Sort.Row
import Derived.Test.YtmcicfdnmfbimaaGreatDoorPSearchLong0
import Derived.Test.YtmcicfdnmfbimaaGreatDoorPSearchLong1
import Derived.Test.YtmcicfdnmfbimaaGreatDoorPSearchLong2
import Derived.Test.YtmcicfdnmfbimaaGreatDoorPSearchLong3
import Derived.Test.YtmcicfdnmfbimaaGreatDoorPSearchLong4
import Derived.Test.YtmcicfdnmfbimaaGreatDoorPSearchLong5
import Derived.Test.YtmcicfdnmfbimaaGreatDoorPSearchLong6
import Derived.Test.YtmcicfdnmfbimaaGreatDoorPSearchLong7
namespace Go.Proofs.YtmcicfdnmfbimaaGreatDoor
set_option maxHeartbeats 32000000
set_option maxRecDepth 100000
open Lib (hid)
section
theorem zA8 {α : Type _} (l : List α) (i : Nat) (a : α) : l.toArray.setIfInBounds i a = (l.set i a).toArray := List.setIfInBounds_toArray ..
theorem zB8 {α : Type _} {x : α} {xs : List α} {a : α} : (x :: xs).set 0 a = a :: xs := List.set_cons_zero
theorem zC8 {α : Type _} {x : α} {xs : List α} {i : Nat} {a : α} : (x :: xs).set (i + 1) a = x :: xs.set i a := List.set_cons_succ
end
section
open Go.RowKit
theorem takeQ {P : Program} {ops : Array Oper} {Q : Exit → Act → World → Prop} {md : Region.Mode} {S : World → Prop} (d : Option Tmp) {i : Nat} {oi : Oper} {v : Value} {fuel : Nat} {listed : Array Bool} {a : Act} {w : World} (hi : ops[i]? = some oi) (hd : oi.dst = d)
  (hs : Region.noSelect ops = true) (hf : Region.free md ops listed i = true) (hr : (Region.ready md ops listed).contains i = true)
  (hQ : ∀ c a w, Q (.panic c) (a.put oi.dst v) w → Q (.panic c) a w) (hy : YieldsIf P ops S oi v a) (hS : S w)
  (h : wpAnyH P md ops Q S fuel (listed.setIfInBounds i true) (a.put d v) w) : wpAnyH P md ops Q S (fuel + 1) listed a w := by
 subst hd; exact wpAnyH_take hi hs hf hr hQ hy hS h
theorem of_done (va : Value) (h : List TxnV) (w : World) (hT : Txns w va h) (hok : ∀ t ∈ h, t.ok) (hsh : Short h) (hc : checkI h = 0) :
  Calls Tryz.prog 16 #[va] w fun e w' => (∃ B, e = .returned (.tuple #[.pointer (some ⟨B, 0, none⟩), .int .i64 0]) ∧ w.heap.size ≤ B ∧ OrdIs w' B (B + 2) h) ∧ Below w.heap.size w w' := by
 obtain ⟨ao, cap, rfl, hal⟩ := hT.form
 obtain ⟨hlen, hops, hW, hks⟩ := check_zero hc
 have hb0 := box_below w (.cells #[.slice ao h.length cap] 24)
 have CH := hid (hcheck_any _ h _ (hT.below hb0) hok hsh)
 rw [hc] at CH
 have CW := hid (fun wx (hx : Below w.heap.size w wx) => hwrites_any _ h wx (hT.below hx) hok hks (by omega) (by omega))
 have HT := hid (fun wx (hx : Below w.heap.size w wx) => hT.below hx)
 have HOK := hid hok
 have HKS := hid hks
 have HW := hid hW
 have HOPS := hid hops
 obtain ⟨i1, hi1, hza1, hzb1, hzc1⟩ := info_parts infoLI
 obtain ⟨i2, hi2, hza2, hzb2, hzc2⟩ := info_parts infoLR
 have hA0 : (w.alloc (.cells #[.slice ao h.length cap] 24)).cell? ⟨w.heap.size, 0, none⟩ = some (.slice ao h.length cap) := by rw [cell_of_row _ _ _ _ _ _ (heap_alloc_new w _)]; rfl
 clear hT hok hsh hks hW hc hops
 go_enter Tryz.func16, Tryz.ntmps16
 go_wp2_with fail
 refine (CH.out).mono ?_
 rintro e w1 ⟨rfl, hb1⟩
 have hA1 := (hb1.cell (p := ⟨w.heap.size, 0, none⟩) (block_lt hA0)).trans hA0
 have hb2 := below_then hb0 hb1
 clear CH hb1 hb0 hA0
 go_wp2_with fail
 refine (CW.out _ hb2).mono ?_
 rintro e w2 ⟨hb3, ⟨hno, _⟩ | ⟨_, bm, m, rfl, hbm, hM⟩⟩
 ·exact absurd hno (by rw [HW.out]; simp)
 have hA2 := (hb3.cell (p := ⟨w.heap.size, 0, none⟩) (block_lt hA1)).trans hA1
 have hb4 := below_then hb2 hb3
 clear CW hb3 hb2 hA1
 have hlt := block_lt hA2
 simp only at hlt
 have hO3 := (OrdAt.made w2 (h.length : Int) 102 rfl rfl).alloc (.cells #[.pointer (some ⟨w2.heap.size, 0, none⟩)] 31)
 have hb3 := ((Below.refl w2.heap.size w2).alloc (Nat.le_refl _) (.cells ((Tryz.zeroCells102.setIfInBounds 0 (.int .i64 h.length)).setIfInBounds 196 (.bool true)) 102)).alloc (by simp) (.cells #[.pointer (some ⟨w2.heap.size, 0, none⟩)] 31)
 have hA3 := (hb3.cell (p := ⟨w.heap.size, 0, none⟩) hlt).trans hA2
 have hC3 : ((w2.alloc (.cells ((Tryz.zeroCells102.setIfInBounds 0 (.int .i64 h.length)).setIfInBounds 196 (.bool true)) 102)).alloc (.cells #[.pointer (some ⟨w2.heap.size, 0, none⟩)] 31)).cell? ⟨w2.heap.size + 1, 0, none⟩ = some (.pointer (some ⟨w2.heap.size, 0, none⟩)) := by
  rw [cell_of_row _ _ _ _ _ _ (heap_alloc2_new w2 _ _)]; rfl
 have hs3 : w2.heap.size + 2 ≤ ((w2.alloc (.cells ((Tryz.zeroCells102.setIfInBounds 0 (.int .i64 h.length)).setIfInBounds 196 (.bool true)) 102)).alloc (.cells #[.pointer (some ⟨w2.heap.size, 0, none⟩)] 31)).heap.size := by simp
 go_wp2_with fail
 generalize ((w2.alloc (.cells ((Tryz.zeroCells102.setIfInBounds 0 (.int .i64 h.length)).setIfInBounds 196 (.bool true)) 102)).alloc (.cells #[.pointer (some ⟨w2.heap.size, 0, none⟩)] 31)) = w3 at *
 generalize (Tryz.zeroCells102.setIfInBounds 0 (.int .i64 h.length)).setIfInBounds 196 (.bool true) = Z at *
 go_loopw [26] (fun i wr => ∃ (k : Nat) (vk vr : Value) (sd : Bool) (K : List KRow) (R : List RRow), k ≤ h.length ∧ i = .int .i64 k ∧ K.map (·.2) = keysTo h k ∧ R.map (·.2) = readsTo h k ∧ sd = soundTo h k ∧ OrdAt wr w2.heap.size h.length noR noR noR (.map none) vk vr sd ∧
   wr.cell? ⟨w2.heap.size + 1, 0, none⟩ = some (.pointer (some ⟨w2.heap.size, 0, none⟩)) ∧ OfR (w2.heap.size + 2) wr vk vr K R ∧ Below w2.heap.size w2 wr ∧ w2.heap.size + 2 ≤ wr.heap.size) (fun i _ => h.length - (intOf i).toNat)
 case atStart => exact ⟨0, _, _, _, [], [], by omega, rfl, rfl, rfl, rfl, hO3, hC3, OfR.nil _ _, hb3, hs3⟩
 case round =>
  clear hO3 hC3 hb3 hs3 hA3
  obtain ⟨k, vk, vr, sd, K, R, hk, rfl, hK, hR, hsd, hO, hC, hF, hb, hsz⟩ := hrel
  have HK := hid (And.intro hK (And.intro hR hsd))
  clear hK hR hsd
  by_cases hlk : k < h.length
  ·have hki : (k : Int) < (h.length : Int) := by omega
   have hbw := below_then hb4 hb
   obtain ⟨g, o, hao, c0, c1, c2, c3⟩ := (HT.out _ hbw).at hlk
   cases hao
   have hOps := (HT.out _ hbw).ops hlk
   have HOPF := hid (fun wx (hx : Below w2.heap.size w2 wx) => (HT.out wx (below_then hb4 hx)).ops hlk)
   generalize h[k].s = ts at *
   generalize h[k].b = tb at *
   generalize h[k].c = tc at *
   have HLK : Hid (opsAt h k = h[k].l) := hid (opsAt_eq hlk)
   have hll : h[k].l.length ≤ 1024 := by
    have h1 := opsN_take h k hlk
    have h2 := opsN_le h (k + 1)
    have h3 := HOPS.out
    omega
   have HOL := hid (HOK.out _ (List.getElem_mem hlk)).2
   have HKL := hid (HKS.out _ (List.getElem_mem hlk))
   generalize h[k].v = tv at *
   generalize h[k].l = l at *
   obtain ⟨a2, cap2, rfl, hl2⟩ := hOps.form
   obtain ⟨b0, b1, b2, b3⟩ := txnBlock wr (.int .i64 ts) (.int .i64 tb) (.int .i64 tc) (.slice a2 l.length cap2) 30
   have hbx := (Below.refl wr.heap.size wr).alloc (Nat.le_refl _) (.cells #[.int .i64 ts, .int .i64 tb, .int .i64 tc, .slice a2 l.length cap2] 30)
   have hOps1 := hOps.below hbx
   have hO1 := hO.below hbx hO.lt
   have hC1 := (hbx.cell (p := ⟨w2.heap.size + 1, 0, none⟩) (block_lt hC)).trans hC
   have hF1 := hF.below hbx
   have hb1 := hb.trans (hbx.mono hb.size)
   have hs1 : w2.heap.size + 2 ≤ (wr.alloc (.cells #[.int .i64 ts, .int .i64 tb, .int .i64 tc, .slice a2 l.length cap2] 30)).heap.size := by simp; omega
   have hgx : w2.heap.size + 2 ≤ wr.heap.size := hsz
   have hX1 := heap_alloc_new wr (.cells #[.int .i64 ts, .int .i64 tb, .int .i64 tc, .slice a2 l.length cap2] 30)
   have hX : OfS w2 wr.heap.size ts tb tc (.slice a2 l.length cap2) h.length vk vr sd K R (wr.alloc (.cells #[.int .i64 ts, .int .i64 tb, .int .i64 tc, .slice a2 l.length cap2] 30)) := ⟨hO1, ⟨hC1, b0, b1, b2, b3⟩, hF1, hb1, hs1, ⟨_, hX1⟩, hgx⟩
   have hTf := fun wx (hx : Below w2.heap.size w2 wx) => HT.out wx (below_then hb4 hx)
   go_upto_region 9 with fail
   clear hOps hO hC hF hb hbx hbw hsz c0 c1 c2 c3 hO1 hC1 hF1 hb1 hs1 hX1 b0 b1 b2 b3
   generalize wr.alloc (.cells #[.int .i64 ts, .int .i64 tb, .int .i64 tc, .slice a2 l.length cap2] 30) = w4 at *
   generalize wr.heap.size = gx at *
   clear wr
   have hKl : K.length ≤ 64 := by have := congrArg List.length HK.out.1; simp [keysTo] at this; omega
   have hRl : R.length ≤ 64 := by have := congrArg List.length HK.out.2.1; simp [readsTo] at this; omega
   obtain ⟨aK, cK, rfl⟩ := owns_form hX.r.kr
   obtain ⟨aR, cR, rfl⟩ := owns_form hX.r.rr
   go_cut [41] from 31 to 41 (fun u wx => ∃ (v5 : Value) (vx : Value), u = .pointer (some ⟨w2.heap.size, 194, none⟩) ∧ OfS w2 gx ts tb tc (.slice a2 l.length cap2) h.length v5 (.slice aR R.length cR) sd (K ++ [(vx, keysOf l)]) R wx)
   case first =>
    have kd := (Below.refl w4.heap.size w4).drew
    have CK : Hid (∀ wx, Below w4.heap.size w4 wx → Calls Tryz.prog 53 #[.agg #[.int .i64 ts, .int .i64 tb, .int .i64 tc, .slice a2 l.length cap2]] wx fun e w' => ∃ v, e = .returned v ∧ w'.ownsRow (w2.heap.size + 2) 3 1 v (keysOf l).length ((keysOf l).map (Value.int .i64)) ∧ Below wx.heap.size wx w') := hid (fun wx hx => (okeys_any ts tb tc _ l wx (hOps1.below hx) HOL.out (by omega)).mono (fun e w' ⟨v, out, he, ho, hr, _, hbb⟩ => by
     obtain rfl := hr.eq (refWrites_rise HKL.out)
     refine ⟨v, he, own_base' ?_ (show w2.heap.size + 2 ≤ wx.heap.size by have h1 := hx.size; have h2 := hX.z; omega), hbb⟩
     unfold keysOf
     rw [List.length_map, List.map_map]
     exact ho))
    have HS : Hid (∀ wx, Below w4.heap.size w4 wx → SB (w2.heap.size + 1) w2.heap.size gx ts tb tc (.slice a2 l.length cap2) wx) := hid (fun wx hx => hX.s.below hx)
    have hc0 := hX.o.cK
    have HCL : Hid (∀ wx, Below w4.heap.size w4 wx → wx.cell? ⟨w2.heap.size, 194, none⟩ = some (.slice aK K.length cK)) := hid (fun wx hx => (hx.cell (p := ⟨w2.heap.size, 194, none⟩) (block_lt hc0)).trans hc0)
    have HCA : Hid (∀ wx, Below w4.heap.size w4 wx → ∀ o, (wx.alloc o).cell? ⟨w2.heap.size, 194, none⟩ = some (.slice aK K.length cK)) := hid (fun wx hx o => HCL.out _ (hx.alloc hx.size o))
    have HRO : Hid (∀ wx, Below w4.heap.size w4 wx → wx.ownsRow (w2.heap.size + 2) 36 1 (.slice aK K.length cK) K.length (K.map (·.1))) := hid (fun wx hx => owns_below hX.r.kr hx)
    have HSZ : Hid (∀ wx (o : Obj), Below w4.heap.size w4 wx → w2.heap.size + 2 ≤ (wx.alloc o).heap.size) := hid (fun wx o hx => by have h1 := hx.size; have h2 := hX.z; simp; omega)
    have HFIN := hid (fun wx w5 v v5 hx => hX.addK (wx := wx) (w5 := w5) (v := v) (v5 := v5) (t := 36) (l := keysOf l) hx)
    have n3 : Hid (K.length + 1 ≤ maxLen) := hid (by unfold maxLen; omega)
    have n4 : Hid ((K.length + 1) * 24 ≤ 140737488355328) := hid (by omega)
    refine wp_region_held_drew (S := SB (w2.heap.size + 1) w2.heap.size gx ts tb tc (.slice a2 l.length cap2)) (by kernel_rfl) hX.s.drew (fun hS0 => ?_)
    refine takeQ (some 31) (i := 0) (v := ?v1) rfl rfl (by kernel_rfl) (by kernel_rfl) (by kernel_rfl) (fun _ _ _ h => h) (Or.inl ⟨by rfl, ?h1⟩) hS0 ?r1
    case h1 => (intro w hw; obtain ⟨q0, q1, q2, q3, q4⟩ := hw; go_simp; try (with_reducible rfl))
    try simp only [Act.put, zA8, zB8, zC8]
    refine takeQ (some 32) (i := 1) (v := ?v2) rfl rfl (by kernel_rfl) (by kernel_rfl) (by kernel_rfl) (fun _ _ _ h => h) (Or.inl ⟨by rfl, ?h2⟩) hS0 ?r2
    case h2 => (intro w hw; obtain ⟨q0, q1, q2, q3, q4⟩ := hw; go_simp; try (with_reducible rfl))
    try simp only [Act.put, zA8, zB8, zC8]
    refine takeQ (some 36) (i := 5) (v := ?v3) rfl rfl (by kernel_rfl) (by kernel_rfl) (by kernel_rfl) (fun _ _ _ h => h) (Or.inl ⟨by rfl, ?h3⟩) hS0 ?r3
    case h3 => (intro w hw; obtain ⟨q0, q1, q2, q3, q4⟩ := hw; go_simp; try (with_reducible rfl))
    try simp only [Act.put, zA8, zB8, zC8]
    refine takeQ (some 33) (i := 2) (v := ?v4) rfl rfl (by kernel_rfl) (by kernel_rfl) (by kernel_rfl) (fun _ _ _ h => h) (Or.inl ⟨by rfl, ?h4⟩) hS0 ?r4
    case h4 => (intro w hw; obtain ⟨q0, q1, q2, q3, q4⟩ := hw; go_simp; try (with_reducible rfl))
    try simp only [Act.put, zA8, zB8, zC8]
    refine takeQ (some 34) (i := 3) (v := ?v5) rfl rfl (by kernel_rfl) (by kernel_rfl) (by kernel_rfl) (fun _ _ _ h => h) (Or.inl ⟨by rfl, ?h5⟩) hS0 ?r5
    case h5 => (intro w hw; obtain ⟨q0, q1, q2, q3, q4⟩ := hw; go_simp; try (with_reducible rfl))
    try simp only [Act.put, zA8, zB8, zC8]
    refine wpAnyH_ready (rs := [4, 6]) (by kernel_rfl) (by simp) ?_
    refine AllReadyH.cons rfl ?_ (AllReadyH.cons rfl ?_ AllReadyH.nil)
    ·intro KK hKK
     go_simp
     refine hKK.out _ _ hS0 (fun _ => ?_)
     clear hKK KK
     refine wpAnyH_ready (rs := [6]) (by kernel_rfl) (by simp) ?_
     refine AllReadyH.cons rfl ?_ AllReadyH.nil
     intro KK hKK
     go_simp
     refine (CK.out _ kd).mono ?_
     rintro e wx ⟨vx, rfl, hox, hbx⟩
     obtain ⟨ax, cx, hvx⟩ := owns_form hox
     subst hvx
     show KK _ _
     have kk := below_then kd hbx
     have hS1 := HS.out _ kk
     have hcw := HCL.out _ kk
     refine hKK.out _ _ hS1 (fun _ => ?_)
     clear hKK KK
     refine wpAnyH_ready (rs := [7]) (by kernel_rfl) (by simp) ?_
     refine AllReadyH.cons rfl ?_ AllReadyH.nil
     intro KK hKK
     go_simp
     have hS2 := hS1.alloc (.cells #[.slice ax (keysOf l).length cx] 36)
     have hcw := HCA.out _ kk (.cells #[.slice ax (keysOf l).length cx] 36)
     refine hKK.out _ _ hS2 (fun _ => ?_)
     clear hKK KK
     refine wpAnyH_ready (rs := [8]) (by kernel_rfl) (by simp) ?_
     refine AllReadyH.cons rfl ?_ AllReadyH.nil
     intro KK hKK
     refine step_app _ rfl (.tmp 35) (.tmp 38) 37 rfl (w2.heap.size + 2) 36 i1 (.slice none 0 0) 1 24 Tryz.underlying37 hi1 hza1 hzb1 hzc1 rfl (by decide) (.slice aK K.length cK) K.length (K.map (·.1)) (by simp [Act.eval]) ((HRO.out _ kk).alloc _) ⟨_, 0, none⟩ 1 1 [.slice ax (keysOf l).length cx] (by rfl) rfl (cell_one_new _ _ _) (by intro u hu; simp at hu; subst hu; rfl) n3.out n4.out (HSZ.out _ _ kk) ?_
     intro v5 w5 hown5 hg5
     obtain ⟨a5, c5, hv5⟩ := owns_form hown5
     subst hv5
     obtain ⟨hfin, hS5, hfz, hcz⟩ := HFIN.out _ _ _ _ kk hox hown5 hg5
     show KK _ _
     refine hKK.out _ _ hS5 (fun _ => ?_)
     clear hKK KK
     refine takeQ (some 40) (i := 9) (v := ?v6) rfl rfl (by kernel_rfl) (by kernel_rfl) (by kernel_rfl) (fun _ _ _ h => h) (Or.inl ⟨by rfl, ?h6⟩) hS5 ?r6
     case h6 => (intro w hw; obtain ⟨q0, q1, q2, q3, q4⟩ := hw; go_simp; try (with_reducible rfl))
     try simp only [Act.put, List.setIfInBounds_toArray]
     refine takeQ (some 41) (i := 10) (v := ?v7) rfl rfl (by kernel_rfl) (by kernel_rfl) (by kernel_rfl) (fun _ _ _ h => h) (Or.inl ⟨by rfl, ?h7⟩) hS5 ?r7
     case h7 => (intro w hw; obtain ⟨q0, q1, q2, q3, q4⟩ := hw; go_simp; try (with_reducible rfl))
     try simp only [Act.put]
     refine wpAnyH_ready (rs := [11]) (by kernel_rfl) (by simp) ?_
     refine AllReadyH.cons rfl ?_ AllReadyH.nil
     intro KK hKK
     go_simp
     refine hKK.out _ _ hfin.s (fun _ => ?_)
     clear hKK KK
     refine wpAnyH_done (by kernel_rfl) ?_ _
     go_wp2_with fail
     go_meet
     exact ⟨_, _, rfl, hfin⟩
    ·intro KK hKK
     go_simp
     refine (CK.out _ kd).mono ?_
     rintro e wx ⟨vx, rfl, hox, hbx⟩
     obtain ⟨ax, cx, hvx⟩ := owns_form hox
     subst hvx
     show KK _ _
     have kk := below_then kd hbx
     have hS1 := HS.out _ kk
     have hcw := HCL.out _ kk
     refine hKK.out _ _ hS1 (fun _ => ?_)
     clear hKK KK
     refine wpAnyH_ready (rs := [4, 7]) (by kernel_rfl) (by simp) ?_
     refine AllReadyH.cons rfl ?_ (AllReadyH.cons rfl ?_ AllReadyH.nil)
     ·intro KK hKK
      go_simp
      refine hKK.out _ _ hS1 (fun _ => ?_)
      clear hKK KK
      refine wpAnyH_ready (rs := [7]) (by kernel_rfl) (by simp) ?_
      refine AllReadyH.cons rfl ?_ AllReadyH.nil
      intro KK hKK
      go_simp
      have hS2 := hS1.alloc (.cells #[.slice ax (keysOf l).length cx] 36)
      have hcw := HCA.out _ kk (.cells #[.slice ax (keysOf l).length cx] 36)
      refine hKK.out _ _ hS2 (fun _ => ?_)
      clear hKK KK
      refine wpAnyH_ready (rs := [8]) (by kernel_rfl) (by simp) ?_
      refine AllReadyH.cons rfl ?_ AllReadyH.nil
      intro KK hKK
      refine step_app _ rfl (.tmp 35) (.tmp 38) 37 rfl (w2.heap.size + 2) 36 i1 (.slice none 0 0) 1 24 Tryz.underlying37 hi1 hza1 hzb1 hzc1 rfl (by decide) (.slice aK K.length cK) K.length (K.map (·.1)) (by simp [Act.eval]) ((HRO.out _ kk).alloc _) ⟨_, 0, none⟩ 1 1 [.slice ax (keysOf l).length cx] (by rfl) rfl (cell_one_new _ _ _) (by intro u hu; simp at hu; subst hu; rfl) n3.out n4.out (HSZ.out _ _ kk) ?_
      intro v5 w5 hown5 hg5
      obtain ⟨a5, c5, hv5⟩ := owns_form hown5
      subst hv5
      obtain ⟨hfin, hS5, hfz, hcz⟩ := HFIN.out _ _ _ _ kk hox hown5 hg5
      show KK _ _
      refine hKK.out _ _ hS5 (fun _ => ?_)
      clear hKK KK
      refine takeQ (some 40) (i := 9) (v := ?v8) rfl rfl (by kernel_rfl) (by kernel_rfl) (by kernel_rfl) (fun _ _ _ h => h) (Or.inl ⟨by rfl, ?h8⟩) hS5 ?r8
      case h8 => (intro w hw; obtain ⟨q0, q1, q2, q3, q4⟩ := hw; go_simp; try (with_reducible rfl))
      try simp only [Act.put, List.setIfInBounds_toArray]
      refine takeQ (some 41) (i := 10) (v := ?v9) rfl rfl (by kernel_rfl) (by kernel_rfl) (by kernel_rfl) (fun _ _ _ h => h) (Or.inl ⟨by rfl, ?h9⟩) hS5 ?r9
      case h9 => (intro w hw; obtain ⟨q0, q1, q2, q3, q4⟩ := hw; go_simp; try (with_reducible rfl))
      try simp only [Act.put]
      refine wpAnyH_ready (rs := [11]) (by kernel_rfl) (by simp) ?_
      refine AllReadyH.cons rfl ?_ AllReadyH.nil
      intro KK hKK
      go_simp
      refine hKK.out _ _ hfin.s (fun _ => ?_)
      clear hKK KK
      refine wpAnyH_done (by kernel_rfl) ?_ _
      go_wp2_with fail
      go_meet
      exact ⟨_, _, rfl, hfin⟩
     ·intro KK hKK
      go_simp
      have hS2 := hS1.alloc (.cells #[.slice ax (keysOf l).length cx] 36)
      have hcw := HCA.out _ kk (.cells #[.slice ax (keysOf l).length cx] 36)
      refine hKK.out _ _ hS2 (fun _ => ?_)
      clear hKK KK
      refine wpAnyH_ready (rs := [4]) (by kernel_rfl) (by simp) ?_
      refine AllReadyH.cons rfl ?_ AllReadyH.nil
      intro KK hKK
      go_simp
      refine hKK.out _ _ hS2 (fun _ => ?_)
      clear hKK KK
      refine wpAnyH_ready (rs := [8]) (by kernel_rfl) (by simp) ?_
      refine AllReadyH.cons rfl ?_ AllReadyH.nil
      intro KK hKK
      refine step_app _ rfl (.tmp 35) (.tmp 38) 37 rfl (w2.heap.size + 2) 36 i1 (.slice none 0 0) 1 24 Tryz.underlying37 hi1 hza1 hzb1 hzc1 rfl (by decide) (.slice aK K.length cK) K.length (K.map (·.1)) (by simp [Act.eval]) ((HRO.out _ kk).alloc _) ⟨_, 0, none⟩ 1 1 [.slice ax (keysOf l).length cx] (by rfl) rfl (cell_one_new _ _ _) (by intro u hu; simp at hu; subst hu; rfl) n3.out n4.out (HSZ.out _ _ kk) ?_
      intro v5 w5 hown5 hg5
      obtain ⟨a5, c5, hv5⟩ := owns_form hown5
      subst hv5
      obtain ⟨hfin, hS5, hfz, hcz⟩ := HFIN.out _ _ _ _ kk hox hown5 hg5
      show KK _ _
      refine hKK.out _ _ hS5 (fun _ => ?_)
      clear hKK KK
      refine takeQ (some 40) (i := 9) (v := ?v10) rfl rfl (by kernel_rfl) (by kernel_rfl) (by kernel_rfl) (fun _ _ _ h => h) (Or.inl ⟨by rfl, ?h10⟩) hS5 ?r10
      case h10 => (intro w hw; obtain ⟨q0, q1, q2, q3, q4⟩ := hw; go_simp; try (with_reducible rfl))
      try simp only [Act.put, List.setIfInBounds_toArray]
      refine takeQ (some 41) (i := 10) (v := ?v11) rfl rfl (by kernel_rfl) (by kernel_rfl) (by kernel_rfl) (fun _ _ _ h => h) (Or.inl ⟨by rfl, ?h11⟩) hS5 ?r11
      case h11 => (intro w hw; obtain ⟨q0, q1, q2, q3, q4⟩ := hw; go_simp; try (with_reducible rfl))
      try simp only [Act.put]
      refine wpAnyH_ready (rs := [11]) (by kernel_rfl) (by simp) ?_
      refine AllReadyH.cons rfl ?_ AllReadyH.nil
      intro KK hKK
      go_simp
      refine hKK.out _ _ hfin.s (fun _ => ?_)
      clear hKK KK
      refine wpAnyH_done (by kernel_rfl) ?_ _
      go_wp2_with fail
      go_meet
      exact ⟨_, _, rfl, hfin⟩
   case rest =>
    obtain ⟨vk5, vx, rfl, hX5⟩ := hcut
    clear hX hOps1
    have hX := hX5
    clear hX5
    have HRD : Hid (∃ rd, rd = rdFr (wrTo h h.length) (k : Int) (refReads l)) := hid ⟨_, rfl⟩
    obtain ⟨rd, hrd⟩ := HRD.out
    have HRD2 := hid hrd
    clear hrd HRD
    go_upto_region 10 with fail
    go_cut [54] from 42 to 54 (fun u wx => ∃ (v5 : Value) (vy : Value), u = .pointer (some ⟨w2.heap.size, 195, none⟩) ∧ OfS w2 gx ts tb tc (.slice a2 l.length cap2) h.length vk5 v5 sd (K ++ [(vx, keysOf l)]) (R ++ [(vy, rd)]) wx)
    case first =>
     have hOps1 := HOPF.out wc hX.b
     have hMc := hM.below hX.b
     have kd := (Below.refl wc.heap.size wc).drew
     have CK : Hid (∀ wx, Below wc.heap.size wc wx → Calls Tryz.prog 54 #[.int .i64 k, .agg #[.int .i64 ts, .int .i64 tb, .int .i64 tc, .slice a2 l.length cap2], .map (some bm)] wx fun e w' => ∃ v, e = .returned v ∧ w'.ownsRow (w2.heap.size + 2) 111 2 v rd.length (frV rd) ∧ Below wx.heap.size wx w') := hid (fun wx hx => (oreads_any (k : Int) ts tb tc _ l (wrTo h h.length) bm _ _ wx (hOps1.below hx) HOL.out (by omega) (hMc.below hx)).mono (fun e w' ⟨v, out, he, ho, hr, _, hbb⟩ => by
      obtain rfl := hr.eq (refReads_rise HKL.out)
      rw [← HRD2.out] at ho
      exact ⟨v, he, own_base' ho (show w2.heap.size + 2 ≤ wx.heap.size by have h1 := hx.size; have h2 := hX.z; omega), hbb⟩))
     have HS : Hid (∀ wx, Below wc.heap.size wc wx → SB (w2.heap.size + 1) w2.heap.size gx ts tb tc (.slice a2 l.length cap2) wx) := hid (fun wx hx => hX.s.below hx)
     have hc0 := hX.o.cR
     have HCL : Hid (∀ wx, Below wc.heap.size wc wx → wx.cell? ⟨w2.heap.size, 195, none⟩ = some (.slice aR R.length cR)) := hid (fun wx hx => (hx.cell (p := ⟨w2.heap.size, 195, none⟩) (block_lt hc0)).trans hc0)
     have HCA : Hid (∀ wx, Below wc.heap.size wc wx → ∀ o, (wx.alloc o).cell? ⟨w2.heap.size, 195, none⟩ = some (.slice aR R.length cR)) := hid (fun wx hx o => HCL.out _ (hx.alloc hx.size o))
     have HRO : Hid (∀ wx, Below wc.heap.size wc wx → wx.ownsRow (w2.heap.size + 2) 104 1 (.slice aR R.length cR) R.length (R.map (·.1))) := hid (fun wx hx => owns_below hX.r.rr hx)
     have HSZ : Hid (∀ wx (o : Obj), Below wc.heap.size wc wx → w2.heap.size + 2 ≤ (wx.alloc o).heap.size) := hid (fun wx o hx => by have h1 := hx.size; have h2 := hX.z; simp; omega)
     have HFIN := hid (fun wx w5 v v5 hx => hX.addR (wx := wx) (w5 := w5) (v := v) (v5 := v5) (t := 104) (l := rd) hx)
     have n3 : Hid (R.length + 1 ≤ maxLen) := hid (by unfold maxLen; omega)
     have n4 : Hid ((R.length + 1) * 24 ≤ 140737488355328) := hid (by omega)
     refine wp_region_held_drew (S := SB (w2.heap.size + 1) w2.heap.size gx ts tb tc (.slice a2 l.length cap2)) (by kernel_rfl) hX.s.drew (fun hS0 => ?_)
     refine takeQ (some 42) (i := 0) (v := ?v101) rfl rfl (by kernel_rfl) (by kernel_rfl) (by kernel_rfl) (fun _ _ _ h => h) (Or.inl ⟨by rfl, ?h101⟩) hS0 ?r101
     case h101 => (intro w hw; obtain ⟨q0, q1, q2, q3, q4⟩ := hw; go_simp; try (with_reducible rfl))
     try simp only [Act.put, zA8, zB8, zC8]
     refine takeQ (some 43) (i := 1) (v := ?v102) rfl rfl (by kernel_rfl) (by kernel_rfl) (by kernel_rfl) (fun _ _ _ h => h) (Or.inl ⟨by rfl, ?h102⟩) hS0 ?r102
     case h102 => (intro w hw; obtain ⟨q0, q1, q2, q3, q4⟩ := hw; go_simp; try (with_reducible rfl))
     try simp only [Act.put, zA8, zB8, zC8]
     refine takeQ (some 47) (i := 5) (v := ?v103) rfl rfl (by kernel_rfl) (by kernel_rfl) (by kernel_rfl) (fun _ _ _ h => h) (Or.inl ⟨by rfl, ?h103⟩) hS0 ?r103
     case h103 => (intro w hw; obtain ⟨q0, q1, q2, q3, q4⟩ := hw; go_simp; try (with_reducible rfl))
     try simp only [Act.put, zA8, zB8, zC8]
     refine takeQ (some 48) (i := 6) (v := ?v104) rfl rfl (by kernel_rfl) (by kernel_rfl) (by kernel_rfl) (fun _ _ _ h => h) (Or.inl ⟨by rfl, ?h104⟩) hS0 ?r104
     case h104 => (intro w hw; obtain ⟨q0, q1, q2, q3, q4⟩ := hw; go_simp; try (with_reducible rfl))
     try simp only [Act.put, zA8, zB8, zC8]
     refine takeQ (some 49) (i := 7) (v := ?v105) rfl rfl (by kernel_rfl) (by kernel_rfl) (by kernel_rfl) (fun _ _ _ h => h) (Or.inl ⟨by rfl, ?h105⟩) hS0 ?r105
     case h105 => (intro w hw; obtain ⟨q0, q1, q2, q3, q4⟩ := hw; go_simp; try (with_reducible rfl))
     try simp only [Act.put, zA8, zB8, zC8]
     refine takeQ (some 44) (i := 2) (v := ?v106) rfl rfl (by kernel_rfl) (by kernel_rfl) (by kernel_rfl) (fun _ _ _ h => h) (Or.inl ⟨by rfl, ?h106⟩) hS0 ?r106
     case h106 => (intro w hw; obtain ⟨q0, q1, q2, q3, q4⟩ := hw; go_simp; try (with_reducible rfl))
     try simp only [Act.put, zA8, zB8, zC8]
     refine takeQ (some 45) (i := 3) (v := ?v107) rfl rfl (by kernel_rfl) (by kernel_rfl) (by kernel_rfl) (fun _ _ _ h => h) (Or.inl ⟨by rfl, ?h107⟩) hS0 ?r107
     case h107 => (intro w hw; obtain ⟨q0, q1, q2, q3, q4⟩ := hw; go_simp; try (with_reducible rfl))
     try simp only [Act.put, zA8, zB8, zC8]
     refine wpAnyH_ready (rs := [4, 8]) (by kernel_rfl) (by simp) ?_
     refine AllReadyH.cons rfl ?_ (AllReadyH.cons rfl ?_ AllReadyH.nil)
     ·intro KK hKK
      go_simp
      refine hKK.out _ _ hS0 (fun _ => ?_)
      clear hKK KK
      refine wpAnyH_ready (rs := [8]) (by kernel_rfl) (by simp) ?_
      refine AllReadyH.cons rfl ?_ AllReadyH.nil
      intro KK hKK
      go_simp
      refine (CK.out _ kd).mono ?_
      rintro e wx ⟨vx, rfl, hox, hbx⟩
      obtain ⟨ax, cx, hvx⟩ := owns_form hox
      subst hvx
      show KK _ _
      have kk := below_then kd hbx
      have hS1 := HS.out _ kk
      have hcw := HCL.out _ kk
      refine hKK.out _ _ hS1 (fun _ => ?_)
      clear hKK KK
      refine wpAnyH_ready (rs := [9]) (by kernel_rfl) (by simp) ?_
      refine AllReadyH.cons rfl ?_ AllReadyH.nil
      intro KK hKK
      go_simp
      have hS2 := hS1.alloc (.cells #[.slice ax rd.length cx] 104)
      have hcw := HCA.out _ kk (.cells #[.slice ax rd.length cx] 104)
      refine hKK.out _ _ hS2 (fun _ => ?_)
      clear hKK KK
      refine wpAnyH_ready (rs := [10]) (by kernel_rfl) (by simp) ?_
      refine AllReadyH.cons rfl ?_ AllReadyH.nil
      intro KK hKK
      refine step_app _ rfl (.tmp 46) (.tmp 51) 100 rfl (w2.heap.size + 2) 104 i2 (.slice none 0 0) 1 24 Tryz.underlying100 hi2 hza2 hzb2 hzc2 rfl (by decide) (.slice aR R.length cR) R.length (R.map (·.1)) (by simp [Act.eval]) ((HRO.out _ kk).alloc _) ⟨_, 0, none⟩ 1 1 [.slice ax rd.length cx] (by rfl) rfl (cell_one_new _ _ _) (by intro u hu; simp at hu; subst hu; rfl) n3.out n4.out (HSZ.out _ _ kk) ?_
      intro v5 w5 hown5 hg5
      obtain ⟨a5, c5, hv5⟩ := owns_form hown5
      subst hv5
      obtain ⟨hfin, hS5, hfz, hcz⟩ := HFIN.out _ _ _ _ kk hox hown5 hg5
      show KK _ _
      refine hKK.out _ _ hS5 (fun _ => ?_)
      clear hKK KK
      refine takeQ (some 53) (i := 11) (v := ?v108) rfl rfl (by kernel_rfl) (by kernel_rfl) (by kernel_rfl) (fun _ _ _ h => h) (Or.inl ⟨by rfl, ?h108⟩) hS5 ?r108
      case h108 => (intro w hw; obtain ⟨q0, q1, q2, q3, q4⟩ := hw; go_simp; try (with_reducible rfl))
      try simp only [Act.put, List.setIfInBounds_toArray]
      refine takeQ (some 54) (i := 12) (v := ?v109) rfl rfl (by kernel_rfl) (by kernel_rfl) (by kernel_rfl) (fun _ _ _ h => h) (Or.inl ⟨by rfl, ?h109⟩) hS5 ?r109
      case h109 => (intro w hw; obtain ⟨q0, q1, q2, q3, q4⟩ := hw; go_simp; try (with_reducible rfl))
      try simp only [Act.put]
      refine wpAnyH_ready (rs := [13]) (by kernel_rfl) (by simp) ?_
      refine AllReadyH.cons rfl ?_ AllReadyH.nil
      intro KK hKK
      go_simp
      refine hKK.out _ _ hfin.s (fun _ => ?_)
      clear hKK KK
      refine wpAnyH_done (by kernel_rfl) ?_ _
      go_wp2_with fail
      go_meet
      exact ⟨_, _, rfl, hfin⟩
     ·intro KK hKK
      go_simp
      refine (CK.out _ kd).mono ?_
      rintro e wx ⟨vx, rfl, hox, hbx⟩
      obtain ⟨ax, cx, hvx⟩ := owns_form hox
      subst hvx
      show KK _ _
      have kk := below_then kd hbx
      have hS1 := HS.out _ kk
      have hcw := HCL.out _ kk
      refine hKK.out _ _ hS1 (fun _ => ?_)
      clear hKK KK
      refine wpAnyH_ready (rs := [4, 9]) (by kernel_rfl) (by simp) ?_
      refine AllReadyH.cons rfl ?_ (AllReadyH.cons rfl ?_ AllReadyH.nil)
      ·intro KK hKK
       go_simp
       refine hKK.out _ _ hS1 (fun _ => ?_)
       clear hKK KK
       refine wpAnyH_ready (rs := [9]) (by kernel_rfl) (by simp) ?_
       refine AllReadyH.cons rfl ?_ AllReadyH.nil
       intro KK hKK
       go_simp
       have hS2 := hS1.alloc (.cells #[.slice ax rd.length cx] 104)
       have hcw := HCA.out _ kk (.cells #[.slice ax rd.length cx] 104)
       refine hKK.out _ _ hS2 (fun _ => ?_)
       clear hKK KK
       refine wpAnyH_ready (rs := [10]) (by kernel_rfl) (by simp) ?_
       refine AllReadyH.cons rfl ?_ AllReadyH.nil
       intro KK hKK
       refine step_app _ rfl (.tmp 46) (.tmp 51) 100 rfl (w2.heap.size + 2) 104 i2 (.slice none 0 0) 1 24 Tryz.underlying100 hi2 hza2 hzb2 hzc2 rfl (by decide) (.slice aR R.length cR) R.length (R.map (·.1)) (by simp [Act.eval]) ((HRO.out _ kk).alloc _) ⟨_, 0, none⟩ 1 1 [.slice ax rd.length cx] (by rfl) rfl (cell_one_new _ _ _) (by intro u hu; simp at hu; subst hu; rfl) n3.out n4.out (HSZ.out _ _ kk) ?_
       intro v5 w5 hown5 hg5
       obtain ⟨a5, c5, hv5⟩ := owns_form hown5
       subst hv5
       obtain ⟨hfin, hS5, hfz, hcz⟩ := HFIN.out _ _ _ _ kk hox hown5 hg5
       show KK _ _
       refine hKK.out _ _ hS5 (fun _ => ?_)
       clear hKK KK
       refine takeQ (some 53) (i := 11) (v := ?v110) rfl rfl (by kernel_rfl) (by kernel_rfl) (by kernel_rfl) (fun _ _ _ h => h) (Or.inl ⟨by rfl, ?h110⟩) hS5 ?r110
       case h110 => (intro w hw; obtain ⟨q0, q1, q2, q3, q4⟩ := hw; go_simp; try (with_reducible rfl))
       try simp only [Act.put, List.setIfInBounds_toArray]
       refine takeQ (some 54) (i := 12) (v := ?v111) rfl rfl (by kernel_rfl) (by kernel_rfl) (by kernel_rfl) (fun _ _ _ h => h) (Or.inl ⟨by rfl, ?h111⟩) hS5 ?r111
       case h111 => (intro w hw; obtain ⟨q0, q1, q2, q3, q4⟩ := hw; go_simp; try (with_reducible rfl))
       try simp only [Act.put]
       refine wpAnyH_ready (rs := [13]) (by kernel_rfl) (by simp) ?_
       refine AllReadyH.cons rfl ?_ AllReadyH.nil
       intro KK hKK
       go_simp
       refine hKK.out _ _ hfin.s (fun _ => ?_)
       clear hKK KK
       refine wpAnyH_done (by kernel_rfl) ?_ _
       go_wp2_with fail
       go_meet
       exact ⟨_, _, rfl, hfin⟩
      ·intro KK hKK
       go_simp
       have hS2 := hS1.alloc (.cells #[.slice ax rd.length cx] 104)
       have hcw := HCA.out _ kk (.cells #[.slice ax rd.length cx] 104)
       refine hKK.out _ _ hS2 (fun _ => ?_)
       clear hKK KK
       refine wpAnyH_ready (rs := [4]) (by kernel_rfl) (by simp) ?_
       refine AllReadyH.cons rfl ?_ AllReadyH.nil
       intro KK hKK
       go_simp
       refine hKK.out _ _ hS2 (fun _ => ?_)
       clear hKK KK
       refine wpAnyH_ready (rs := [10]) (by kernel_rfl) (by simp) ?_
       refine AllReadyH.cons rfl ?_ AllReadyH.nil
       intro KK hKK
       refine step_app _ rfl (.tmp 46) (.tmp 51) 100 rfl (w2.heap.size + 2) 104 i2 (.slice none 0 0) 1 24 Tryz.underlying100 hi2 hza2 hzb2 hzc2 rfl (by decide) (.slice aR R.length cR) R.length (R.map (·.1)) (by simp [Act.eval]) ((HRO.out _ kk).alloc _) ⟨_, 0, none⟩ 1 1 [.slice ax rd.length cx] (by rfl) rfl (cell_one_new _ _ _) (by intro u hu; simp at hu; subst hu; rfl) n3.out n4.out (HSZ.out _ _ kk) ?_
       intro v5 w5 hown5 hg5
       obtain ⟨a5, c5, hv5⟩ := owns_form hown5
       subst hv5
       obtain ⟨hfin, hS5, hfz, hcz⟩ := HFIN.out _ _ _ _ kk hox hown5 hg5
       show KK _ _
       refine hKK.out _ _ hS5 (fun _ => ?_)
       clear hKK KK
       refine takeQ (some 53) (i := 11) (v := ?v112) rfl rfl (by kernel_rfl) (by kernel_rfl) (by kernel_rfl) (fun _ _ _ h => h) (Or.inl ⟨by rfl, ?h112⟩) hS5 ?r112
       case h112 => (intro w hw; obtain ⟨q0, q1, q2, q3, q4⟩ := hw; go_simp; try (with_reducible rfl))
       try simp only [Act.put, List.setIfInBounds_toArray]
       refine takeQ (some 54) (i := 12) (v := ?v113) rfl rfl (by kernel_rfl) (by kernel_rfl) (by kernel_rfl) (fun _ _ _ h => h) (Or.inl ⟨by rfl, ?h113⟩) hS5 ?r113
       case h113 => (intro w hw; obtain ⟨q0, q1, q2, q3, q4⟩ := hw; go_simp; try (with_reducible rfl))
       try simp only [Act.put]
       refine wpAnyH_ready (rs := [13]) (by kernel_rfl) (by simp) ?_
       refine AllReadyH.cons rfl ?_ AllReadyH.nil
       intro KK hKK
       go_simp
       refine hKK.out _ _ hfin.s (fun _ => ?_)
       clear hKK KK
       refine wpAnyH_done (by kernel_rfl) ?_ _
       go_wp2_with fail
       go_meet
       exact ⟨_, _, rfl, hfin⟩
    case rest =>
     obtain ⟨vr5, vy, rfl, hX5⟩ := hcut
     clear hX
     have hX := hX5
     clear hX5
     have hOps1 := HOPF.out wc hX.b
     have hMc := hM.below hX.b
     have kd := (Below.refl wc.heap.size wc).drew
     have HSO : Hid (∃ so, so = (!(refReads l).any (badFr (wrTo h h.length) (k : Int)) && steadyL l)) := hid ⟨_, rfl⟩
     obtain ⟨so, hso⟩ := HSO.out
     have HSO2 := hid hso
     clear hso HSO
     have CK : Hid (∀ wx, Below wc.heap.size wc wx → Calls Tryz.prog 55 #[.int .i64 k, .agg #[.int .i64 ts, .int .i64 tb, .int .i64 tc, .slice a2 l.length cap2], .map (some bm)] wx fun e w' => e = .returned (.bool so) ∧ Below wx.heap.size wx w') := hid (fun wx hx => (osound_any (k : Int) ts tb tc _ l (wrTo h h.length) bm _ _ wx (hOps1.below hx) HOL.out (by omega) (hMc.below hx)).mono (fun e w' ⟨out, he, hr, _, hbb⟩ => by
      obtain rfl := hr.eq (refReads_rise HKL.out)
      rw [← HSO2.out] at he
      exact ⟨he, hbb⟩))
     have HK0 : Hid ((K ++ [(vx, keysOf l)]).map (·.2) = keysTo h (k + 1) ∧ (R ++ [(vy, rd)]).map (·.2) = readsTo h (k + 1) ∧ (sd && so) = soundTo h (k + 1)) := hid (by
      refine ⟨?_, ?_, ?_⟩
      ·rw [List.map_append, keysTo_succ, ← HK.out.1, HLK.out]; rfl
      ·rw [List.map_append, readsTo_succ, ← HK.out.2.1]
       unfold readsOf
       rw [HLK.out, ← HRD2.out]; rfl
      ·rw [soundTo_succ, ← HK.out.2.2]
       unfold soundOf
       rw [HLK.out, ← HSO2.out])
     go_upto_region 11 with fail
     cases sd
     ·have HK1 : Hid ((K ++ [(vx, keysOf l)]).map (·.2) = keysTo h (k + 1) ∧ (R ++ [(vy, rd)]).map (·.2) = readsTo h (k + 1) ∧ false = soundTo h (k + 1)) := hid HK0.out
      clear HK0
      refine wp_region_held_drew (S := SB (w2.heap.size + 1) w2.heap.size gx ts tb tc (.slice a2 l.length cap2)) (by kernel_rfl) hX.s.drew (fun hS0 => ?_)
      have hc0 := hX.o.cS
      refine takeQ (some 55) (i := 0) (v := ?v201) rfl rfl (by kernel_rfl) (by kernel_rfl) (by kernel_rfl) (fun _ _ _ h => h) (Or.inl ⟨by rfl, ?h201⟩) hS0 ?r201
      case h201 => (intro w hw; obtain ⟨q0, q1, q2, q3, q4⟩ := hw; go_simp; try (with_reducible rfl))
      try simp only [Act.put, zA8, zB8, zC8]
      refine takeQ (some 56) (i := 1) (v := ?v202) rfl rfl (by kernel_rfl) (by kernel_rfl) (by kernel_rfl) (fun _ _ _ h => h) (Or.inl ⟨by rfl, ?h202⟩) hS0 ?r202
      case h202 => (intro w hw; obtain ⟨q0, q1, q2, q3, q4⟩ := hw; go_simp; try (with_reducible rfl))
      try simp only [Act.put, zA8, zB8, zC8]
      refine takeQ (some 57) (i := 2) (v := ?v203) rfl rfl (by kernel_rfl) (by kernel_rfl) (by kernel_rfl) (fun _ _ _ h => h) (Or.inl ⟨by rfl, ?h203⟩) hS0 ?r203
      case h203 => (intro w hw; obtain ⟨q0, q1, q2, q3, q4⟩ := hw; go_simp; try (with_reducible rfl))
      try simp only [Act.put, zA8, zB8, zC8]
      refine takeQ (some 58) (i := 3) (v := ?v204) rfl rfl (by kernel_rfl) (by kernel_rfl) (by kernel_rfl) (fun _ _ _ h => h) (Or.inl ⟨by rfl, ?h204⟩) hS0 ?r204
      case h204 => (intro w hw; obtain ⟨q0, q1, q2, q3, q4⟩ := hw; go_simp; try (with_reducible rfl))
      try simp only [Act.put, zA8, zB8, zC8]
      refine wpAnyH_ready (rs := [4]) (by kernel_rfl) (by simp) ?_
      refine AllReadyH.cons rfl ?_ AllReadyH.nil
      intro KK hKK
      go_simp
      refine hKK.out _ _ hS0 (fun _ => ?_)
      clear hKK KK
      refine takeQ (some 60) (i := 5) (v := ?v205) rfl rfl (by kernel_rfl) (by kernel_rfl) (by kernel_rfl) (fun _ _ _ h => h) (Or.inl ⟨by rfl, ?h205⟩) hS0 ?r205
      case h205 => (intro w hw; obtain ⟨q0, q1, q2, q3, q4⟩ := hw; go_simp; try (with_reducible rfl))
      try simp only [Act.put, zA8, zB8, zC8]
      refine takeQ (some 61) (i := 6) (v := undef) rfl rfl (by kernel_rfl) (by kernel_rfl) (by kernel_rfl) (fun _ _ _ h => h) (Or.inr ⟨by rfl, rfl⟩) hS0 ?_
      try simp only [Act.put, zA8, zB8, zC8]
      refine takeQ (some 62) (i := 7) (v := undef) rfl rfl (by kernel_rfl) (by kernel_rfl) (by kernel_rfl) (fun _ _ _ h => h) (Or.inr ⟨by rfl, rfl⟩) hS0 ?_
      try simp only [Act.put, zA8, zB8, zC8]
      refine takeQ (some 63) (i := 8) (v := undef) rfl rfl (by kernel_rfl) (by kernel_rfl) (by kernel_rfl) (fun _ _ _ h => h) (Or.inr ⟨by rfl, rfl⟩) hS0 ?_
      try simp only [Act.put, zA8, zB8, zC8]
      refine wpAnyH_ready (rs := [9]) (by kernel_rfl) (by simp) ?_
      refine AllReadyH.cons rfl ?_ AllReadyH.nil
      intro KK hKK
      go_simp
      have hY := hX.below kd
      have hf := hY.o.free (i := 196) (by omega)
      have hc := hY.o.cS
      refine hKK.out _ _ hS0 (fun _ => ?_)
      clear hKK KK
      refine takeQ (some 65) (i := 10) (v := ?v206) rfl rfl (by kernel_rfl) (by kernel_rfl) (by kernel_rfl) (fun _ _ _ h => h) (Or.inl ⟨by rfl, ?h206⟩) hS0 ?r206
      case h206 => (intro w hw; obtain ⟨q0, q1, q2, q3, q4⟩ := hw; go_simp; try (with_reducible rfl))
      try simp only [Act.put, zA8, zB8, zC8]
      refine takeQ (some 66) (i := 11) (v := ?v207) rfl rfl (by kernel_rfl) (by kernel_rfl) (by kernel_rfl) (fun _ _ _ h => h) (Or.inl ⟨by rfl, ?h207⟩) hS0 ?r207
      case h207 => (intro w hw; obtain ⟨q0, q1, q2, q3, q4⟩ := hw; go_simp; try (with_reducible rfl))
      try simp only [Act.put, zA8, zB8, zC8]
      refine takeQ (some 67) (i := 12) (v := ?v208) rfl rfl (by kernel_rfl) (by kernel_rfl) (by kernel_rfl) (fun _ _ _ h => h) (Or.inl ⟨by rfl, ?h208⟩) hS0 ?r208
      case h208 => (intro w hw; obtain ⟨q0, q1, q2, q3, q4⟩ := hw; go_simp; try (with_reducible rfl))
      try simp only [Act.put, zA8, zB8, zC8]
      refine wpAnyH_ready (rs := [13]) (by kernel_rfl) (by simp) ?_
      refine AllReadyH.cons rfl ?_ AllReadyH.nil
      intro KK hKK
      go_simp
      have hZ := hY.setS false
      refine hKK.out _ _ hZ.s (fun _ => ?_)
      clear hKK KK
      refine wpAnyH_done (by kernel_rfl) ?_ _
      clear hX hY CK kd hc hf hS0
      go_wp2_with fail
      go_roundw
      case rel => exact ⟨k + 1, _, _, _, _, _, by omega, by go_num, HK1.out.1, HK1.out.2.1, HK1.out.2.2, hZ.o, hZ.s.1, hZ.r, hZ.b, hZ.z⟩
      case measure => simp [intOf]; omega
     ·have HK1 : Hid ((K ++ [(vx, keysOf l)]).map (·.2) = keysTo h (k + 1) ∧ (R ++ [(vy, rd)]).map (·.2) = readsTo h (k + 1) ∧ so = soundTo h (k + 1)) := hid HK0.out
      clear HK0
      refine wp_region_held_drew (S := SB (w2.heap.size + 1) w2.heap.size gx ts tb tc (.slice a2 l.length cap2)) (by kernel_rfl) hX.s.drew (fun hS0 => ?_)
      have hc0 := hX.o.cS
      refine takeQ (some 55) (i := 0) (v := ?v301) rfl rfl (by kernel_rfl) (by kernel_rfl) (by kernel_rfl) (fun _ _ _ h => h) (Or.inl ⟨by rfl, ?h301⟩) hS0 ?r301
      case h301 => (intro w hw; obtain ⟨q0, q1, q2, q3, q4⟩ := hw; go_simp; try (with_reducible rfl))
      try simp only [Act.put, zA8, zB8, zC8]
      refine takeQ (some 56) (i := 1) (v := ?v302) rfl rfl (by kernel_rfl) (by kernel_rfl) (by kernel_rfl) (fun _ _ _ h => h) (Or.inl ⟨by rfl, ?h302⟩) hS0 ?r302
      case h302 => (intro w hw; obtain ⟨q0, q1, q2, q3, q4⟩ := hw; go_simp; try (with_reducible rfl))
      try simp only [Act.put, zA8, zB8, zC8]
      refine takeQ (some 57) (i := 2) (v := ?v303) rfl rfl (by kernel_rfl) (by kernel_rfl) (by kernel_rfl) (fun _ _ _ h => h) (Or.inl ⟨by rfl, ?h303⟩) hS0 ?r303
      case h303 => (intro w hw; obtain ⟨q0, q1, q2, q3, q4⟩ := hw; go_simp; try (with_reducible rfl))
      try simp only [Act.put, zA8, zB8, zC8]
      refine takeQ (some 58) (i := 3) (v := ?v304) rfl rfl (by kernel_rfl) (by kernel_rfl) (by kernel_rfl) (fun _ _ _ h => h) (Or.inl ⟨by rfl, ?h304⟩) hS0 ?r304
      case h304 => (intro w hw; obtain ⟨q0, q1, q2, q3, q4⟩ := hw; go_simp; try (with_reducible rfl))
      try simp only [Act.put, zA8, zB8, zC8]
      refine wpAnyH_ready (rs := [4]) (by kernel_rfl) (by simp) ?_
      refine AllReadyH.cons rfl ?_ AllReadyH.nil
      intro KK hKK
      go_simp
      refine hKK.out _ _ hS0 (fun _ => ?_)
      clear hKK KK
      refine takeQ (some 60) (i := 5) (v := ?v305) rfl rfl (by kernel_rfl) (by kernel_rfl) (by kernel_rfl) (fun _ _ _ h => h) (Or.inl ⟨by rfl, ?h305⟩) hS0 ?r305
      case h305 => (intro w hw; obtain ⟨q0, q1, q2, q3, q4⟩ := hw; go_simp; try (with_reducible rfl))
      try simp only [Act.put, zA8, zB8, zC8]
      refine takeQ (some 61) (i := 6) (v := ?v306) rfl rfl (by kernel_rfl) (by kernel_rfl) (by kernel_rfl) (fun _ _ _ h => h) (Or.inl ⟨by rfl, ?h306⟩) hS0 ?r306
      case h306 => (intro w hw; obtain ⟨q0, q1, q2, q3, q4⟩ := hw; go_simp; try (with_reducible rfl))
      try simp only [Act.put, zA8, zB8, zC8]
      refine takeQ (some 62) (i := 7) (v := ?v307) rfl rfl (by kernel_rfl) (by kernel_rfl) (by kernel_rfl) (fun _ _ _ h => h) (Or.inl ⟨by rfl, ?h307⟩) hS0 ?r307
      case h307 => (intro w hw; obtain ⟨q0, q1, q2, q3, q4⟩ := hw; go_simp; try (with_reducible rfl))
      try simp only [Act.put, zA8, zB8, zC8]
      refine takeQ (some 63) (i := 8) (v := ?v308) rfl rfl (by kernel_rfl) (by kernel_rfl) (by kernel_rfl) (fun _ _ _ h => h) (Or.inl ⟨by rfl, ?h308⟩) hS0 ?r308
      case h308 => (intro w hw; obtain ⟨q0, q1, q2, q3, q4⟩ := hw; go_simp; try (with_reducible rfl))
      try simp only [Act.put, zA8, zB8, zC8]
      refine wpAnyH_ready (rs := [9]) (by kernel_rfl) (by simp) ?_
      refine AllReadyH.cons rfl ?_ AllReadyH.nil
      intro KK hKK
      go_simp
      refine (CK.out _ kd).mono ?_
      rintro e wx ⟨rfl, hbx⟩
      show KK _ _
      have kk := below_then kd hbx
      have hY := hX.below kk
      have hf := hY.o.free (i := 196) (by omega)
      have hc := hY.o.cS
      refine hKK.out _ _ hY.s (fun _ => ?_)
      clear hKK KK
      refine takeQ (some 65) (i := 10) (v := ?v309) rfl rfl (by kernel_rfl) (by kernel_rfl) (by kernel_rfl) (fun _ _ _ h => h) (Or.inl ⟨by rfl, ?h309⟩) hY.s ?r309
      case h309 => (intro w hw; obtain ⟨q0, q1, q2, q3, q4⟩ := hw; go_simp; try (with_reducible rfl))
      try simp only [Act.put, zA8, zB8, zC8]
      refine takeQ (some 66) (i := 11) (v := ?v310) rfl rfl (by kernel_rfl) (by kernel_rfl) (by kernel_rfl) (fun _ _ _ h => h) (Or.inl ⟨by rfl, ?h310⟩) hY.s ?r310
      case h310 => (intro w hw; obtain ⟨q0, q1, q2, q3, q4⟩ := hw; go_simp; try (with_reducible rfl))
      try simp only [Act.put, zA8, zB8, zC8]
      refine takeQ (some 67) (i := 12) (v := ?v311) rfl rfl (by kernel_rfl) (by kernel_rfl) (by kernel_rfl) (fun _ _ _ h => h) (Or.inl ⟨by rfl, ?h311⟩) hY.s ?r311
      case h311 => (intro w hw; obtain ⟨q0, q1, q2, q3, q4⟩ := hw; go_simp; try (with_reducible rfl))
      try simp only [Act.put, zA8, zB8, zC8]
      refine wpAnyH_ready (rs := [13]) (by kernel_rfl) (by simp) ?_
      refine AllReadyH.cons rfl ?_ AllReadyH.nil
      intro KK hKK
      go_simp
      have hZ := hY.setS so
      refine hKK.out _ _ hZ.s (fun _ => ?_)
      clear hKK KK
      refine wpAnyH_done (by kernel_rfl) ?_ _
      clear hX hY CK kd hc hf hS0 kk hbx
      go_wp2_with fail
      go_roundw
      case rel => exact ⟨k + 1, _, _, _, _, _, by omega, by go_num, HK1.out.1, HK1.out.2.1, HK1.out.2.2, hZ.o, hZ.s.1, hZ.r, hZ.b, hZ.z⟩
      case measure => simp [intOf]; omega
  ·have hkl : k = h.length := by omega
   subst hkl
   have hA4 := (hb.cell (p := ⟨w.heap.size, 0, none⟩) hlt).trans hA2
   have hbw := below_then hb4 hb
   have hX : OfT w2 w.heap.size (.slice ao h.length cap) h.length noR noR noR (.map none) vk vr sd K R wr := ⟨hO, ⟨hC, hA4⟩, hF, hb, hlt⟩
   have hKl : K.length ≤ 64 := by have := congrArg List.length HK.out.1; simp [keysTo] at this; omega
   obtain ⟨aK, cK, rfl⟩ := owns_form hX.r.kr
   obtain ⟨aR, cR, rfl⟩ := owns_form hX.r.rr
   have HKE : Hid (∀ p ∈ K, p.2.length ≤ 64 ∧ ∀ x ∈ p.2, InI x) := hid (fun p hp => by
    have hm : p.2 ∈ keysTo h h.length := by rw [← HK.out.1]; exact List.mem_map.2 ⟨p, hp, rfl⟩
    unfold keysTo at hm
    obtain ⟨i, hi, he⟩ := List.mem_map.1 hm
    have hil := List.mem_range.1 hi
    rw [← he]
    unfold keysOf
    refine ⟨by rw [List.length_map]; exact upTo_len _ 64, fun x hx => ?_⟩
    obtain ⟨q, hq, rfl⟩ := List.mem_map.1 hx
    have hq2 := lastW_key ((((refWrites_rise (by rw [opsAt_eq hil]; exact HKS.out _ (List.getElem_mem hil))).2 q).1 hq).1)
    exact inI_of (((HOK.out _ (List.getElem_mem hil)).2 q (by rw [← opsAt_eq hil]; exact hq2.2.2)).1))
   have kd := (Below.refl wr.heap.size wr).drew
   have CWR : Hid (∀ wx, Below wr.heap.size wr wx → Calls Tryz.prog 56 #[.slice aK K.length cK] wx fun e w' => ∃ b n c, e = .returned (.map (some b)) ∧ wx.heap.size ≤ b ∧ MapI eS Tryz.prog 3 w' b n (wrsTo K K.length) c ∧ AllSet (wrsTo K K.length) ∧ Below wx.heap.size wx w') := hid (fun wx hx => owriters_any _ K wx ((hX.r.below hx).rws) (by omega) (fun p hp => by have := (HKE.out p hp).1; omega) (fun p hp => (HKE.out p hp).2))
   have hmf : ∀ (fn : Fn) (first cap : Array Value) (w : World), (Instr.makeFunc fn first cap).run Tryz.prog w = .ok (.func fn first cap) w := fun _ _ _ _ => rfl
   clear hO hC hF hb hA4 hbw
   go_wp2_with fail
   refine wp_region_held_drew (S := SA (w2.heap.size + 1) w2.heap.size w.heap.size (.slice ao h.length cap)) (by kernel_rfl) hX.drew.s (fun hS0 => ?_)
   have hc0 := hX.o.cK
   refine takeQ (some 69) (i := 0) (v := ?v401) rfl rfl (by kernel_rfl) (by kernel_rfl) (by kernel_rfl) (fun _ _ _ h => h) (Or.inl ⟨by rfl, ?h401⟩) hS0 ?r401
   case h401 => (intro w hw; obtain ⟨q0, q1⟩ := hw; go_simp; try (with_reducible rfl))
   try simp only [Act.put, zA8, zB8, zC8]
   refine takeQ (some 70) (i := 1) (v := ?v402) rfl rfl (by kernel_rfl) (by kernel_rfl) (by kernel_rfl) (fun _ _ _ h => h) (Or.inl ⟨by rfl, ?h402⟩) hS0 ?r402
   case h402 => (intro w hw; obtain ⟨q0, q1⟩ := hw; go_simp; try (with_reducible rfl))
   try simp only [Act.put, zA8, zB8, zC8]
   refine takeQ (some 71) (i := 2) (v := ?v403) rfl rfl (by kernel_rfl) (by kernel_rfl) (by kernel_rfl) (fun _ _ _ h => h) (Or.inl ⟨by rfl, ?h403⟩) hS0 ?r403
   case h403 => (intro w hw; obtain ⟨q0, q1⟩ := hw; go_simp; try (with_reducible rfl))
   try simp only [Act.put, zA8, zB8, zC8]
   refine takeQ (some 72) (i := 3) (v := ?v404) rfl rfl (by kernel_rfl) (by kernel_rfl) (by kernel_rfl) (fun _ _ _ h => h) (Or.inl ⟨by rfl, ?h404⟩) hS0 ?r404
   case h404 => (intro w hw; obtain ⟨q0, q1⟩ := hw; go_simp; try (with_reducible rfl))
   try simp only [Act.put, zA8, zB8, zC8]
   refine wpAnyH_ready (rs := [4]) (by kernel_rfl) (by simp) ?_
   refine AllReadyH.cons rfl ?_ AllReadyH.nil
   intro KK hKK
   go_simp
   refine hKK.out _ _ hS0 (fun _ => ?_)
   clear hKK KK
   refine wpAnyH_ready (rs := [5]) (by kernel_rfl) (by simp) ?_
   refine AllReadyH.cons rfl ?_ AllReadyH.nil
   intro KK hKK
   go_simp
   refine (CWR.out _ kd).mono ?_
   rintro e wx ⟨bw, nw, cw, rfl, hbw, hMw, hAw, hbx⟩
   show KK _ _
   have hY := hX.below (below_then kd hbx)
   have hbB : w2.heap.size < bw := by have h1 := hX.b.size; have h2 := hX.o.lt; have h3 := kd.size; omega
   have hf := hY.o.free (i := 193) (by omega)
   have hc := hY.o.cM
   refine hKK.out _ _ hY.s (fun _ => ?_)
   clear hKK KK
   refine takeQ (some 75) (i := 6) (v := ?v405) rfl rfl (by kernel_rfl) (by kernel_rfl) (by kernel_rfl) (fun _ _ _ h => h) (Or.inl ⟨by rfl, ?h405⟩) hY.s ?r405
   case h405 => (intro w hw; obtain ⟨q0, q1⟩ := hw; go_simp; try (with_reducible rfl))
   try simp only [Act.put, zA8, zB8, zC8]
   refine takeQ (some 76) (i := 7) (v := ?v406) rfl rfl (by kernel_rfl) (by kernel_rfl) (by kernel_rfl) (fun _ _ _ h => h) (Or.inl ⟨by rfl, ?h406⟩) hY.s ?r406
   case h406 => (intro w hw; obtain ⟨q0, q1⟩ := hw; go_simp; try (with_reducible rfl))
   try simp only [Act.put, zA8, zB8, zC8]
   refine wpAnyH_ready (rs := [8]) (by kernel_rfl) (by simp) ?_
   refine AllReadyH.cons rfl ?_ AllReadyH.nil
   intro KK hKK
   go_simp
   have hX13 := hY.setM (.map (some bw))
   have hM13 := hMw.cell (a := ⟨w2.heap.size, 193, none⟩) (by simp; omega) (.map (some bw))
   refine hKK.out _ _ hX13.s (fun _ => ?_)
   clear hKK KK
   refine wpAnyH_done (by kernel_rfl) ?_ _
   clear hX hY kd CWR hc hf hc0 hS0 hMw
   generalize wx.setCell ⟨w2.heap.size, 193, none⟩ (.map (some bw)) = w3 at *
   have hX := hX13
   have hM3 := hM13
   clear hX13 hM13
   have kd := (Below.refl w3.heap.size w3).drew
   have CP : Hid (∀ wx, Below w3.heap.size w3 wx → Calls Tryz.prog 57 #[.int .i64 h.length, .func (.func 58) #[] #[.pointer (some ⟨w.heap.size, 0, none⟩)]] wx fun e w' => e = .returned (.agg (rowsA (sesM h))) ∧ Below wx.heap.size wx w') := hid (fun wx hx => pairs_any (sesP h) h.length (by omega) _ _ wx enters_ses (fun a b wy ha hb hy => ses_calls _ h _ a b wy ((hX.below (below_then hx hy)).s.2) (HT.out _ (below_then hb4 (hX.below (below_then hx hy)).b)) ha hb))
   go_wp2_with fail
   refine wp_region_held_drew (S := SA (w2.heap.size + 1) w2.heap.size w.heap.size (.slice ao h.length cap)) (by kernel_rfl) hX.drew.s (fun hS0 => ?_)
   refine takeQ (some 77) (i := 0) (v := ?v501) rfl rfl (by kernel_rfl) (by kernel_rfl) (by kernel_rfl) (fun _ _ _ h => h) (Or.inl ⟨by rfl, ?h501⟩) hS0 ?r501
   case h501 => (intro w hw; obtain ⟨q0, q1⟩ := hw; go_simp; try (with_reducible rfl))
   try simp only [Act.put, zA8, zB8, zC8]
   refine takeQ (some 78) (i := 1) (v := ?v502) rfl rfl (by kernel_rfl) (by kernel_rfl) (by kernel_rfl) (fun _ _ _ h => h) (Or.inl ⟨by rfl, ?h502⟩) hS0 ?r502
   case h502 => (intro w hw; obtain ⟨q0, q1⟩ := hw; go_simp; try (with_reducible rfl))
   try simp only [Act.put, zA8, zB8, zC8]
   refine takeQ (some 79) (i := 2) (v := ?v503) rfl rfl (by kernel_rfl) (by kernel_rfl) (by kernel_rfl) (fun _ _ _ h => h) (Or.inl ⟨by rfl, ?h503⟩) hS0 ?r503
   case h503 => (intro w hw; obtain ⟨q0, q1⟩ := hw; go_simp; try (with_reducible rfl))
   try simp only [Act.put, zA8, zB8, zC8]
   refine takeQ (some 80) (i := 3) (v := ?v504) rfl rfl (by kernel_rfl) (by kernel_rfl) (by kernel_rfl) (fun _ _ _ h => h) (Or.inl ⟨by rfl, ?h504⟩) hS0 ?r504
   case h504 => (intro w hw; obtain ⟨q0, q1⟩ := hw; go_simp; try (with_reducible rfl))
   try simp only [Act.put, zA8, zB8, zC8]
   refine wpAnyH_ready (rs := [4]) (by kernel_rfl) (by simp) ?_
   refine AllReadyH.cons rfl ?_ AllReadyH.nil
   intro KK hKK
   go_simp
   refine (CP.out _ kd).mono ?_
   rintro e wx ⟨rfl, hbx⟩
   show KK _ _
   have kk := below_then kd hbx
   have hY := hX.below kk
   have hMY := hM3.below kk
   refine hKK.out _ _ hY.s (fun _ => ?_)
   clear hKK KK
   refine takeQ (some 82) (i := 5) (v := ?v505) rfl rfl (by kernel_rfl) (by kernel_rfl) (by kernel_rfl) (fun _ _ _ h => h) (Or.inl ⟨by rfl, ?h505⟩) hY.s ?r505
   case h505 => (intro w hw; obtain ⟨q0, q1⟩ := hw; go_simp; try (with_reducible rfl))
   try simp only [Act.put, List.setIfInBounds_toArray]
   refine takeQ (some 83) (i := 6) (v := ?v506) rfl rfl (by kernel_rfl) (by kernel_rfl) (by kernel_rfl) (fun _ _ _ h => h) (Or.inl ⟨by rfl, ?h506⟩) hY.s ?r506
   case h506 => (intro w hw; obtain ⟨q0, q1⟩ := hw; go_simp; try (with_reducible rfl))
   try simp only [Act.put]
   refine wpAnyH_ready (rs := [7]) (by kernel_rfl) (by simp) ?_
   refine AllReadyH.cons rfl ?_ AllReadyH.nil
   intro KK hKK
   rw [if_pos (by rfl)]
   refine wp_store_mid 98 (.tmp 83) (.tmp 81) rfl w2.heap.size 1 (rowsA (sesM h)) rfl rfl (by rw [rowsA_size]; exact hY.o.there 1 (by omega)) (infoRel' _) (rows_one _) ?_
   have hXn := hY.setS (sesM h)
   have hMn := MapI.cells (g := w2.heap.size) (by omega) (rowsA (sesM h)).toList 1 _ hMY
   refine hKK.out _ _ hXn.s (fun _ => ?_)
   clear hKK KK
   refine wpAnyH_done (by kernel_rfl) ?_ _
   clear hX hM3 hY kd CP hS0 hMY kk hbx
   generalize wx.setCells w2.heap.size 1 (rowsA (sesM h)).toList = w3 at *
   have hX := hXn
   have hM3 := hMn
   clear hXn hMn
   have kd := (Below.refl w3.heap.size w3).drew
   have CP : Hid (∀ wx, Below w3.heap.size w3 wx → Calls Tryz.prog 57 #[.int .i64 h.length, .func (.func 59) #[] #[.pointer (some ⟨w.heap.size, 0, none⟩)]] wx fun e w' => e = .returned (.agg (rowsA (timM h))) ∧ Below wx.heap.size wx w') := hid (fun wx hx => pairs_any (timP h) h.length (by omega) _ _ wx enters_tim (fun a b wy ha hb hy => tim_calls _ h _ a b wy ((hX.below (below_then hx hy)).s.2) (HT.out _ (below_then hb4 (hX.below (below_then hx hy)).b)) ha hb))
   go_wp2_with fail
   refine wp_region_held_drew (S := SA (w2.heap.size + 1) w2.heap.size w.heap.size (.slice ao h.length cap)) (by kernel_rfl) hX.drew.s (fun hS0 => ?_)
   refine takeQ (some 84) (i := 0) (v := ?v601) rfl rfl (by kernel_rfl) (by kernel_rfl) (by kernel_rfl) (fun _ _ _ h => h) (Or.inl ⟨by rfl, ?h601⟩) hS0 ?r601
   case h601 => (intro w hw; obtain ⟨q0, q1⟩ := hw; go_simp; try (with_reducible rfl))
   try simp only [Act.put, zA8, zB8, zC8]
   refine takeQ (some 85) (i := 1) (v := ?v602) rfl rfl (by kernel_rfl) (by kernel_rfl) (by kernel_rfl) (fun _ _ _ h => h) (Or.inl ⟨by rfl, ?h602⟩) hS0 ?r602
   case h602 => (intro w hw; obtain ⟨q0, q1⟩ := hw; go_simp; try (with_reducible rfl))
   try simp only [Act.put]
   refine takeQ (some 86) (i := 2) (v := ?v603) rfl rfl (by kernel_rfl) (by kernel_rfl) (by kernel_rfl) (fun _ _ _ h => h) (Or.inl ⟨by rfl, ?h603⟩) hS0 ?r603
   case h603 => (intro w hw; obtain ⟨q0, q1⟩ := hw; go_simp; try (with_reducible rfl))
   try simp only [Act.put]
   refine takeQ (some 87) (i := 3) (v := ?v604) rfl rfl (by kernel_rfl) (by kernel_rfl) (by kernel_rfl) (fun _ _ _ h => h) (Or.inl ⟨by rfl, ?h604⟩) hS0 ?r604
   case h604 => (intro w hw; obtain ⟨q0, q1⟩ := hw; go_simp; try (with_reducible rfl))
   try simp only [Act.put]
   refine wpAnyH_ready (rs := [4]) (by kernel_rfl) (by simp) ?_
   refine AllReadyH.cons rfl ?_ AllReadyH.nil
   intro KK hKK
   go_simp
   refine (CP.out _ kd).mono ?_
   rintro e wx ⟨rfl, hbx⟩
   show KK _ _
   have kk := below_then kd hbx
   have hY := hX.below kk
   have hMY := hM3.below kk
   refine hKK.out _ _ hY.s (fun _ => ?_)
   clear hKK KK
   refine takeQ (some 89) (i := 5) (v := ?v605) rfl rfl (by kernel_rfl) (by kernel_rfl) (by kernel_rfl) (fun _ _ _ h => h) (Or.inl ⟨by rfl, ?h605⟩) hY.s ?r605
   case h605 => (intro w hw; obtain ⟨q0, q1⟩ := hw; go_simp; try (with_reducible rfl))
   try simp only [Act.put, List.setIfInBounds_toArray]
   refine takeQ (some 90) (i := 6) (v := ?v606) rfl rfl (by kernel_rfl) (by kernel_rfl) (by kernel_rfl) (fun _ _ _ h => h) (Or.inl ⟨by rfl, ?h606⟩) hY.s ?r606
   case h606 => (intro w hw; obtain ⟨q0, q1⟩ := hw; go_simp; try (with_reducible rfl))
   try simp only [Act.put]
   refine wpAnyH_ready (rs := [7]) (by kernel_rfl) (by simp) ?_
   refine AllReadyH.cons rfl ?_ AllReadyH.nil
   intro KK hKK
   rw [if_pos (by rfl)]
   refine wp_store_mid 98 (.tmp 90) (.tmp 88) rfl w2.heap.size 65 (rowsA (timM h)) rfl rfl (by rw [rowsA_size]; exact hY.o.there 65 (by omega)) (infoRel' _) (rows_one _) ?_
   have hXn := hY.setT (timM h)
   have hMn := MapI.cells (g := w2.heap.size) (by omega) (rowsA (timM h)).toList 65 _ hMY
   refine hKK.out _ _ hXn.s (fun _ => ?_)
   clear hKK KK
   refine wpAnyH_done (by kernel_rfl) ?_ _
   clear hX hM3 hY kd CP hS0 hMY kk hbx
   generalize wx.setCells w2.heap.size 65 (rowsA (timM h)).toList = w3 at *
   have hX := hXn
   have hM3 := hMn
   clear hXn hMn
   have kd := (Below.refl w3.heap.size w3).drew
   have CP : Hid (∀ wx, Below w3.heap.size w3 wx → Calls Tryz.prog 57 #[.int .i64 h.length, .func (.func 60) #[] #[.pointer (some ⟨w2.heap.size + 1, 0, none⟩)]] wx fun e w' => e = .returned (.agg (rowsA (froM h))) ∧ Below wx.heap.size wx w') := hid (fun wx hx => pairs_any (froP h) h.length (by omega) _ _ wx enters_fro (fun a b wy ha hb hy => fro_calls _ h R _ _ a b wy ((hX.below (below_then hx hy)).s.1) ((hX.below (below_then hx hy)).o.cR) ((hX.below (below_then hx hy)).r.frws) HK.out.2.1 hb))
   go_wp2_with fail
   refine wp_region_held_drew (S := SA (w2.heap.size + 1) w2.heap.size w.heap.size (.slice ao h.length cap)) (by kernel_rfl) hX.drew.s (fun hS0 => ?_)
   refine takeQ (some 91) (i := 0) (v := ?v701) rfl rfl (by kernel_rfl) (by kernel_rfl) (by kernel_rfl) (fun _ _ _ h => h) (Or.inl ⟨by rfl, ?h701⟩) hS0 ?r701
   case h701 => (intro w hw; obtain ⟨q0, q1⟩ := hw; go_simp; try (with_reducible rfl))
   try simp only [Act.put, zA8, zB8, zC8]
   refine takeQ (some 92) (i := 1) (v := ?v702) rfl rfl (by kernel_rfl) (by kernel_rfl) (by kernel_rfl) (fun _ _ _ h => h) (Or.inl ⟨by rfl, ?h702⟩) hS0 ?r702
   case h702 => (intro w hw; obtain ⟨q0, q1⟩ := hw; go_simp; try (with_reducible rfl))
   try simp only [Act.put]
   refine takeQ (some 93) (i := 2) (v := ?v703) rfl rfl (by kernel_rfl) (by kernel_rfl) (by kernel_rfl) (fun _ _ _ h => h) (Or.inl ⟨by rfl, ?h703⟩) hS0 ?r703
   case h703 => (intro w hw; obtain ⟨q0, q1⟩ := hw; go_simp; try (with_reducible rfl))
   try simp only [Act.put]
   refine takeQ (some 94) (i := 3) (v := ?v704) rfl rfl (by kernel_rfl) (by kernel_rfl) (by kernel_rfl) (fun _ _ _ h => h) (Or.inl ⟨by rfl, ?h704⟩) hS0 ?r704
   case h704 => (intro w hw; obtain ⟨q0, q1⟩ := hw; go_simp; try (with_reducible rfl))
   try simp only [Act.put]
   refine wpAnyH_ready (rs := [4]) (by kernel_rfl) (by simp) ?_
   refine AllReadyH.cons rfl ?_ AllReadyH.nil
   intro KK hKK
   go_simp
   refine (CP.out _ kd).mono ?_
   rintro e wx ⟨rfl, hbx⟩
   show KK _ _
   have kk := below_then kd hbx
   have hY := hX.below kk
   have hMY := hM3.below kk
   refine hKK.out _ _ hY.s (fun _ => ?_)
   clear hKK KK
   refine takeQ (some 96) (i := 5) (v := ?v705) rfl rfl (by kernel_rfl) (by kernel_rfl) (by kernel_rfl) (fun _ _ _ h => h) (Or.inl ⟨by rfl, ?h705⟩) hY.s ?r705
   case h705 => (intro w hw; obtain ⟨q0, q1⟩ := hw; go_simp; try (with_reducible rfl))
   try simp only [Act.put, List.setIfInBounds_toArray]
   refine takeQ (some 97) (i := 6) (v := ?v706) rfl rfl (by kernel_rfl) (by kernel_rfl) (by kernel_rfl) (fun _ _ _ h => h) (Or.inl ⟨by rfl, ?h706⟩) hY.s ?r706
   case h706 => (intro w hw; obtain ⟨q0, q1⟩ := hw; go_simp; try (with_reducible rfl))
   try simp only [Act.put]
   refine wpAnyH_ready (rs := [7]) (by kernel_rfl) (by simp) ?_
   refine AllReadyH.cons rfl ?_ AllReadyH.nil
   intro KK hKK
   rw [if_pos (by rfl)]
   refine wp_store_mid 98 (.tmp 97) (.tmp 95) rfl w2.heap.size 129 (rowsA (froM h)) rfl rfl (by rw [rowsA_size]; exact hY.o.there 129 (by omega)) (infoRel' _) (rows_one _) ?_
   have hXn := hY.setF (froM h)
   have hMn := MapI.cells (g := w2.heap.size) (by omega) (rowsA (froM h)).toList 129 _ hMY
   refine hKK.out _ _ hXn.s (fun _ => ?_)
   clear hKK KK
   refine wpAnyH_done (by kernel_rfl) ?_ _
   clear hX hM3 hY kd CP hS0 hMY kk hbx
   generalize wx.setCells w2.heap.size 129 (rowsA (froM h)).toList = w3 at *
   have hq := hXn.s.1
   go_wp2_with fail
   go_ret2
   exact ⟨⟨_, rfl, by have := hb4.size; omega, _, _, _, _, _, K, R, HK.out.2.2 ▸ hXn.o, hMn, hAw, hXn.r, HK.out.1, HK.out.2.1⟩, below_then hb4 hXn.b⟩
end

section
open Go.RowKit
def sp14 (v1 v2 : Value) : List TxnV := [⟨0, 1, 4, v1, [⟨false, 0, 1⟩]⟩, ⟨1, 2, 3, v2, [⟨true, 0, 1⟩]⟩]
theorem sp14_ok (v1 v2 : Value) : ∀ t ∈ sp14 v1 v2, t.ok := by
 intro t ht
 simp [sp14] at ht
 rcases ht with rfl | rfl <;> refine ⟨?_, fun o ho => ?_⟩
 all_goals first
  | (refine ⟨?_, ?_, ?_⟩ <;> simp [IntOk])
  | (simp at ho; subst ho; refine ⟨?_, ?_⟩ <;> simp [IntOk])
theorem sp14_short (v1 v2 : Value) : Short (sp14 v1 v2) := by
 intro t ht
 simp [sp14] at ht
 rcases ht with rfl | rfl <;> simp
theorem sp14_check (v1 v2 : Value) : checkI (sp14 v1 v2) = 0 := by rfl
end

section
open Go.RowKit
def decW (h : List TxnV) (lv : Int) : List Int × List (List Int) × Bool := match (decN h lv).1 with
 | none => ([], [], false)
 | some r => (r.reverse.map Int.ofNat, seesL (seesR h (clI ((askN lv : Nat) : Int)) r) h.length, true)
theorem lists_none (w : World) : Lists w (.slice none 0 0) [] := ⟨[], ⟨rfl, none, 0, rfl, ⟨by decide, by decide⟩, fun _ => ⟨rfl, rfl⟩, fun h => (by cases h)⟩, fun k hk => (by cases hk)⟩
theorem decW_yes (h : List TxnV) (lv : Int) : (decW h lv).2.2 = (decN h lv).1.isSome := by
 unfold decW
 cases (decN h lv).1 <;> rfl
section
variable {w0 w : World} {B b : Nat} {h : List TxnV}
theorem sdecide_ok (lv : Int) (T F U : Nat) (hO : OrdIs w0 B b h) (ht : Tab w0) (hK : Kinds w0) (hc : checkI h = 0) (hb : Below w0.heap.size w0 w) (hT : w0.heap.size ≤ T) (hm : MtAt w T F U)
  (hM : (decN h lv).2.2 + 2 ≤ 1099511627776) (hU : F = 4611686018427387904 → U + (decN h lv).2.2 ≤ 4611686018427387904) (hl : Lasts F U (decN h lv).2.2) :
  Calls Tryz.prog 18 #[.pointer (some ⟨B, 0, none⟩), .int .i64 lv, .pointer (some ⟨T, 0, none⟩)] w fun e w' =>
   ∃ vo vs, e = .returned (.tuple #[.agg #[vo, vs], .bool (decW h lv).2.2, .int .i64 0]) ∧ Ints w' vo (decW h lv).1 ∧ Lists w' vs (decW h lv).2.1 ∧ MtAt w' T F (U + (decN h lv).2.2) ∧ w.grownBy w' (some T) ∧ Below w0.heap.size w0 w' := by
 refine (sdecide_any lv T F U hO ht hK hc hb hT hm hM hU).mono ?_
 rintro e w' ⟨hg, hr⟩
 have hb' : Below w0.heap.size w0 w' := hb.grown hg hb.size (fun j hj => by cases hj; exact hT)
 rcases hr with ⟨_, hm', hr⟩ | ⟨hn, _⟩
 ·rcases hr with ⟨hd, rfl⟩ | ⟨r, vo, vs, hd, _, _, rfl, hI, hL, hO'⟩
  ·refine ⟨_, _, by rw [decW_yes, hd]; rfl, ?_, ?_, hm', hg, hb'⟩
   ·unfold decW; rw [hd]; exact ints_nil w'
   ·unfold decW; rw [hd]; exact lists_none w'
  ·refine ⟨vo, vs, by rw [decW_yes, hd]; rfl, ?_, ?_, hm', hg, hb'⟩
   ·unfold decW; rw [hd]; exact hI
   ·unfold decW; rw [hd]; exact hL
 ·exact (hn hl).elim
theorem sdecide_no (lv : Int) (T F U : Nat) (hO : OrdIs w0 B b h) (ht : Tab w0) (hK : Kinds w0) (hc : checkI h = 0) (hb : Below w0.heap.size w0 w) (hT : w0.heap.size ≤ T) (hm : MtAt w T F U)
  (hM : (decN h lv).2.2 + 2 ≤ 1099511627776) (hl : ¬ Lasts F U (decN h lv).2.2) :
  Calls Tryz.prog 18 #[.pointer (some ⟨B, 0, none⟩), .int .i64 lv, .pointer (some ⟨T, 0, none⟩)] w fun e w' =>
   e = .returned (.tuple #[.agg #[.slice none 0 0, .slice none 0 0], .bool false, .int .i64 4]) ∧ MtAt w' T F F ∧ w.grownBy w' (some T) ∧ Below w0.heap.size w0 w' := by
 refine (sdecide_any lv T F U hO ht hK hc hb hT hm hM (fun e => (hl (.inl e)).elim)).mono ?_
 rintro e w' ⟨hg, hr⟩
 have hb' : Below w0.heap.size w0 w' := hb.grown hg hb.size (fun j hj => by cases hj; exact hT)
 rcases hr with ⟨hy, _⟩ | ⟨_, hm', rfl⟩
 ·exact (hl hy).elim
 ·exact ⟨rfl, hm', hg, hb'⟩
end
theorem srch_pos {h : List TxnV} {C n k : Nat} (hn : 0 < n) : 1 ≤ (srch h C n (k + 1) [] []).2.2 := by
 rw [srch_go (by simp), srchEnd_cost.1]
 refine Nat.le_trans ?_ (srchTo_cost (i := 1) hn)
 rw [srchTo_succ, srchTo_zero]
 cases ht : tryP h C [] 0 with
 | false => rw [step_no rfl (by simp) ht]; exact Nat.le_refl _
 | true => rw [step_yes rfl (by simp) ht]; exact Nat.le_add_right _ _
theorem sp17_dec (v1 v2 : Value) : (decW (sp14 v1 v2) 11).1 = [1, 0] ∧ (decW (sp14 v1 v2) 11).2.2 = true ∧ (decN (sp14 v1 v2) 11).2.2 ≤ 4 ∧ 1 ≤ (decN (sp14 v1 v2) 11).2.2 := by
 have hf : (ordersN (sp14 v1 v2).length).find? (keptL (sp14 v1 v2) 11) = some [1, 0] := by kernel_rfl
 rw [← dec_first (sp14_check v1 v2)] at hf
 have h2 : soundTo (sp14 v1 v2) (sp14 v1 v2).length = true := by kernel_rfl
 cases hd : (decN (sp14 v1 v2) 11).1 with
 | none => rw [hd] at hf; cases hf
 | some r =>
  rw [hd, Option.map_some] at hf
  have hr : r.reverse = [1, 0] := by injection hf
  refine ⟨by unfold decW; rw [hd]; show r.reverse.map Int.ofNat = _; rw [hr]; rfl, by rw [decW_yes, hd]; rfl, ?_, ?_⟩
  ·exact Nat.le_trans (dec_tries _ _) (by show trN 2 ≤ 4; decide)
  ·unfold decN
   rw [if_pos ⟨rfl, h2⟩]
   exact srch_pos (k := 1) (by show 0 < 2; omega)
theorem speaks17_any (w : World) (ht : Tab w) (hK : Kinds w) :
  Calls Tryz.prog 13 #[] w fun e w' => e = .returned (.bool true) ∧ Below w.heap.size w w' := by
 have hg := ht.pos
 have HT : Hid (∀ wx, Below w.heap.size w wx → Tab wx ∧ Kinds wx) := hid (fun wx hb => ⟨ht.below hb hg, hK.below hb⟩)
 have C1 := fun (wx : World) => hid (read_any 0 1 wx)
 have C2 := fun (wx : World) => hid (write_op 0 1 wx)
 clear ht hK
 go_enter Tryz.func13, Tryz.ntmps13
 go_wp2_with fail
 refine ((C1 w).out).mono ?_
 rintro e w1 ⟨rfl, hb1⟩
 have hx1 := hb1.alloc hb1.size (.cells #[.bool false, .int .i64 0, .int .i64 1] 26)
 have hO1 : Ops _ (.slice (some ⟨w1.heap.size, 0, none⟩) 1 1) [⟨false, 0, 1⟩] := Row.of_owns (World.ownsRow_lit (base := 0) (e := 26) (size := 3) w1 #[.bool false, .int .i64 0, .int .i64 1] 1 (Nat.zero_le _) (by decide) rfl)
 clear hb1
 go_wp2_with fail
 refine ((C2 _).out).mono ?_
 rintro e w2 ⟨rfl, hb2⟩
 have hO1 := Row.below hO1 hb2
 have hx2 := below_then hx1 hb2
 have hO2 : Ops _ (.slice (some ⟨w2.heap.size, 0, none⟩) 1 1) [⟨true, 0, 1⟩] := Row.of_owns (World.ownsRow_lit (base := 0) (e := 26) (size := 3) w2 #[.bool true, .int .i64 0, .int .i64 1] 1 (Nat.zero_le _) (by decide) rfl)
 have hO1 := Row.below hO1 (box_below w2 (.cells #[.bool true, .int .i64 0, .int .i64 1] 26))
 have hx3 := hx2.alloc hx2.size (.cells #[.bool true, .int .i64 0, .int .i64 1] 26)
 have hR : Row _ _ 2 4 _ := Row.of_owns (World.ownsRow_lit (base := 0) (e := 30) (size := 4) (w2.alloc (.cells #[.bool true, .int .i64 0, .int .i64 1] 26)) #[.int .i64 0, .int .i64 1, .int .i64 4, .slice (some ⟨w1.heap.size, 0, none⟩) 1 1, .int .i64 1, .int .i64 2, .int .i64 3, .slice (some ⟨w2.heap.size, 0, none⟩) 1 1] 2 (Nat.zero_le _) (by decide) rfl)
 rw [show (w2.alloc (.cells #[.bool true, .int .i64 0, .int .i64 1] 26)).heap.size = w2.heap.size + 1 from by simp] at hR
 have hO1 := Row.below hO1 (box_below _ (.cells #[.int .i64 0, .int .i64 1, .int .i64 4, .slice (some ⟨w1.heap.size, 0, none⟩) 1 1, .int .i64 1, .int .i64 2, .int .i64 3, .slice (some ⟨w2.heap.size, 0, none⟩) 1 1] 30))
 have hO2 := Row.below hO2 (box_below _ (.cells #[.int .i64 0, .int .i64 1, .int .i64 4, .slice (some ⟨w1.heap.size, 0, none⟩) 1 1, .int .i64 1, .int .i64 2, .int .i64 3, .slice (some ⟨w2.heap.size, 0, none⟩) 1 1] 30))
 have hb4 := hx3.alloc hx3.size (.cells #[.int .i64 0, .int .i64 1, .int .i64 4, .slice (some ⟨w1.heap.size, 0, none⟩) 1 1, .int .i64 1, .int .i64 2, .int .i64 3, .slice (some ⟨w2.heap.size, 0, none⟩) 1 1] 30)
 clear hb2 hx1 hx2 hx3 C1 C2
 go_wp2_with fail
 generalize (w2.alloc (.cells #[.bool true, .int .i64 0, .int .i64 1] 26)).alloc (.cells #[.int .i64 0, .int .i64 1, .int .i64 4, .slice (some ⟨w1.heap.size, 0, none⟩) 1 1, .int .i64 1, .int .i64 2, .int .i64 3, .slice (some ⟨w2.heap.size, 0, none⟩) 1 1] 30) = w4 at *
 generalize w1.heap.size = a1 at *
 generalize w2.heap.size = a2 at *
 have hT : Txns w4 (.slice (some ⟨a2 + 1, 0, none⟩) 2 2) (sp14 (.slice (some ⟨a1, 0, none⟩) 1 1) (.slice (some ⟨a2, 0, none⟩) 1 1)) := ⟨hR, fun t ht => by
  simp [sp14] at ht
  rcases ht with rfl | rfl
  ·exact hO1
  ·exact hO2⟩
 have hck := sp14_check (.slice (some ⟨a1, 0, none⟩) 1 1) (.slice (some ⟨a2, 0, none⟩) 1 1)
 have CO := hid (of_done _ _ _ hT (sp14_ok _ _) (sp14_short _ _) hck)
 have HC := hid hck
 have HDC := hid (sp17_dec (.slice (some ⟨a1, 0, none⟩) 1 1) (.slice (some ⟨a2, 0, none⟩) 1 1))
 have HL : Hid ((sp14 (.slice (some ⟨a1, 0, none⟩) 1 1) (.slice (some ⟨a2, 0, none⟩) 1 1)).length = 2) := hid rfl
 clear hT hR hO1 hO2 hck
 generalize sp14 (.slice (some ⟨a1, 0, none⟩) 1 1) (.slice (some ⟨a2, 0, none⟩) 1 1) = h at *
 refine (CO.out).mono ?_
 rintro e w5 ⟨⟨B, rfl, hB, hO⟩, hb5⟩
 have hb5 := below_then hb4 hb5
 have hO5 := hO
 have HW := hid (fun wx (hx : Below w5.heap.size w5 wx) => below_then hb5 hx)
 obtain ⟨d1, d2, d3, d4⟩ := HDC.out
 have CN1 := hid (fun wx => fnew_any 6 wx)
 have CN2 := hid (fun wx => fnew_any 0 wx)
 have e6 : fuelN 6 = 6 := by decide +kernel
 have e0 : fuelN 0 = 0 := by decide +kernel
 rw [e6] at CN1
 rw [e0] at CN2
 have CD1 := hid (fun T wx (hx : Below w5.heap.size w5 wx) hT hm => sdecide_ok (w := wx) 11 T 6 0 hO (HT.out _ hb5).1 (HT.out _ hb5).2 HC.out hx hT hm (by omega) (fun e => (by cases e)) (.inr (by omega)))
 have CD2 := hid (fun T wx (hx : Below w5.heap.size w5 wx) hT hm => sdecide_no (w := wx) 11 T 0 0 hO (HT.out _ hb5).1 (HT.out _ hb5).2 HC.out hx hT hm (by omega) (fun q => by rcases q with q | q; cases q; omega))
 rw [d1, d2] at CD1
 clear CO hO hB hb4 hO5 d1 d2 d3 d4 HDC
 go_wp2_with fail
 refine (CN1.out _).mono ?_
 rintro e w6 ⟨T1, rfl, hm6, hT6, h6⟩
 have CD1 := hid (CD1.out T1 w6 h6 hT6 hm6)
 have h56 := h6
 clear hm6 h6
 go_wp2_with fail
 refine (CD1.out).mono ?_
 rintro e w7 ⟨vo, vs, rfl, hI, hL, _, _, h7⟩
 obtain ⟨oo, oc, rfl, _⟩ := hI.form
 obtain ⟨so, sc, rfl, _⟩ := hL.form
 simp only [List.length_cons, List.length_nil] at hI ⊢
 generalize hLn : (decW h 11).2.1.length = nL at *
 have W8 := WitT.made w7 (.slice oo 2 oc) (.slice so nL sc) 39
 have hx8 := box_below w7 (.cells #[.slice oo 2 oc, .slice so nL sc] 39)
 have hI := hI.below hx8
 have h8 := h7.trans (hx8.mono h7.size)
 clear CD1 h56 h7 hx8 hL hLn
 go_upto_region 5 with fail
 generalize w7.alloc (.cells #[.slice oo 2 oc, .slice so nL sc] 39) = w8 at *
 go_wp2_with fail
 refine (CN2.out _).mono ?_
 rintro e w9 ⟨T2, rfl, hm9, hT9, h9⟩
 have h89 := h8.trans (h9.mono h8.size)
 have CD2 := hid (CD2.out T2 w9 h89 (by have := h8.size; omega) hm9)
 clear hm9 h89
 go_wp2_with fail
 refine (CD2.out).mono ?_
 rintro e w10 ⟨rfl, _, hg, _⟩
 have h10 : Below w8.heap.size w8 w10 := h9.grown hg h9.size (fun j hj => by cases hj; exact hT9)
 have hx11 := box_below w10 (.cells #[.slice none 0 0, .slice none 0 0] 39)
 have h11 := h10.trans (hx11.mono h10.size)
 have W11 := W8.below h11
 have hI := hI.below h11
 have h11 := h8.trans (h11.mono h8.size)
 have hs11 : (w10.alloc (.cells #[.slice none 0 0, .slice none 0 0] 39)).heap.size = w10.heap.size + 1 := by simp
 clear h10 hx11 hg h9 W8 h8 CD2
 go_upto_region 6 with fail
 generalize w10.alloc (.cells #[.slice none 0 0, .slice none 0 0] 39) = w11 at *
 have hI1 : Ints (w11.alloc (.cells #[.int .i64 1, .int .i64 0] 3)) (.slice (some ⟨w11.heap.size, 0, none⟩) 2 2) [1, 0] := Row.of_owns (World.ownsRow_lit (base := 0) (e := 3) (size := 1) w11 #[.int .i64 1, .int .i64 0] 2 (Nat.zero_le _) (by decide) rfl)
 have CS := hid (same_any _ _ _ _ _ (hI.below (box_below w11 (.cells #[.int .i64 1, .int .i64 0] 3))) hI1)
 rw [sameL_one] at CS
 have hz := h11.alloc h11.size (.cells #[.int .i64 1, .int .i64 0] 3)
 obtain ⟨n0, n1⟩ := W11
 clear hs11 hI hI1
 go_wp2_with fail
 refine CS.out.mono ?_
 rintro e w12 ⟨rfl, h12⟩
 have hz := hz.trans (h12.mono hz.size)
 have hz := HW.out _ hz
 clear h12 n0 n1
 go_wp2_with fail
 go_ret
 exact ⟨rfl, hz⟩
end

section
open Go.RowKit
theorem read_of {h : List TxnV} (hc : checkI h = 0) {k : Nat} (hk : k < h.length) {o : OpV} (ho : o ∈ refReads h[k].l) :
  (o.val = 0 ∧ badFr (wrTo h h.length) (k : Int) o = false) ∨ (o.val ≠ 0 ∧ ∃ n : Nat, ∃ hn : n < h.length, wrI o.key o.val h = (n : Int) ∧ badFr (wrTo h h.length) (k : Int) o = (decide ((n : Int) = (k : Int)) || !(vOf h[n].l o.key == o.val))) := by
 obtain ⟨h1, h2⟩ := refReads_in ho
 rcases reads_F (may_of hc) hk h1 h2 with ⟨h0, hn⟩ | ⟨h0, u, hu, hku, hw⟩
 ·refine .inl ⟨h0, ?_⟩
  unfold badFr
  rw [h0, hn]
 ·refine .inr ⟨h0, ?_⟩
  obtain ⟨p, hp, hpv, hpk⟩ := real_wr h h.length (Nat.le_refl _) o.val u hu
  obtain ⟨t, ht, hpt, hpw⟩ := wrs_mem.1 hp
  obtain ⟨n, hn, rfl⟩ := List.getElem_of_mem ht
  have h3 := may_wr (may_of hc) hn hpt hpw
  rw [hpv, hu] at h3
  have h4 := Option.some.inj h3
  refine ⟨n, hn, ?_, ?_⟩
  ·rw [hw, h4]
  ·unfold badFr
   rw [hu, h4, hpk, hku]
theorem rsound_any (va : Value) (h : List TxnV) (hc : checkI h = 0) (w : World) (hT : Txns w va h) :
  Calls Tryz.prog 17 #[va] w fun e w' => e = .returned (.bool (soundTo h h.length)) ∧ Below w.heap.size w w' := by
 obtain ⟨ao, cap, rfl, hal⟩ := hT.form
 have HT := hid (fun wx (hx : Below w.heap.size w wx) => hT.below hx)
 have HC := hid hc
 have HQ : Hid (soundTo h h.length = (List.range h.length).all (soundOf h)) := hid rfl
 clear hT hc
 generalize soundTo h h.length = q at *
 go_enter Tryz.func17, Tryz.ntmps17
 go_wp2_with fail
 go_loopw [3] (fun i wr => ∃ k : Nat, k ≤ h.length ∧ i = .int .i64 k ∧ (List.range k).all (soundOf h) = true ∧ Below w.heap.size w wr) (fun i _ => h.length - (intOf i).toNat)
 case atStart => exact ⟨0, by omega, rfl, rfl, Below.refl _ _⟩
 case round =>
  obtain ⟨k, hk, rfl, hall, hb⟩ := hrel
  by_cases hlt : k < h.length
  ·have hki : (k : Int) < (h.length : Int) := by omega
   have HN := hid (show (List.range (k + 1)).all (soundOf h) = soundOf h k by rw [List.range_succ, List.all_append, hall]; simp)
   have HF : Hid (soundOf h k = false → false = q) := hid (fun e => by rw [HQ.out]; symm; exact List.all_eq_false.2 ⟨k, List.mem_range.2 hlt, by simp [e]⟩)
   have HS : Hid (soundOf h k = (!(refReads h[k].l).any (badFr (wrTo h h.length) (k : Int)) && steadyL h[k].l)) := hid (by unfold soundOf; rw [opsAt_eq hlt])
   have HR := hid (fun o (ho : o ∈ refReads h[k].l) => read_of HC.out hlt ho)
   have C1 := hid (fun wx (hx : Below w.heap.size w wx) => rsteady_any h[k].v h[k].l wx ((HT.out _ hx).ops hlt))
   have C2 := hid (fun wx (hx : Below w.heap.size w wx) => rreads_any h[k].v h[k].l wx ((HT.out _ hx).ops hlt))
   have HAT := hid (fun wx (hx : Below w.heap.size w wx) => (HT.out _ hx).at hlt)
   generalize soundOf h k = sk at *
   generalize refReads h[k].l = L at *
   generalize steadyL h[k].l = st at *
   generalize h[k].v = vk at *
   obtain ⟨g, o, hao, c0, c1, c2, c3⟩ := HAT.out _ hb
   cases hao
   clear c0 c1 c2
   go_wp2_with fail
   refine (C1.out _ hb).mono ?_
   rintro e w1 ⟨rfl, hb1⟩
   have hb2 := below_then hb hb1
   clear c3 hb hb1 C1
   cases st
   ·have HE : Hid (false = q) := hid (HF.out (by rw [HS.out, Bool.and_false]))
    clear HF HS HN HR C2
    go_wp2_with fail
    go_ret
    exact ⟨ret_b HE.out, hb2⟩
   ·obtain ⟨_, _, hao, _, _, _, c3⟩ := HAT.out _ hb2
    cases hao
    go_wp2_with fail
    refine (C2.out _ hb2).mono ?_
    rintro e w3 ⟨v3, rfl, hO, hb3⟩
    have hb4 := below_then hb2 hb3
    have hL := hO.ops
    obtain ⟨a3, cap3, rfl, _⟩ := hL.form
    clear C2 c3 hO hb2 hb3
    go_wp2_with fail
    go_loopw [5] (fun j wx => ∃ n : Nat, n ≤ L.length ∧ j = .int .i64 n ∧ (L.take n).any (badFr (wrTo h h.length) (k : Int)) = false ∧ Below w.heap.size w wx ∧ Below w3.heap.size w3 wx) (fun j _ => L.length - (intOf j).toNat)
    case atStart => exact ⟨0, by omega, rfl, rfl, hb4, Below.refl _ _⟩
    case round =>
     obtain ⟨n, hn, rfl, hany, hbx, hb5⟩ := hrel
     by_cases hltn : n < L.length
     ·have hni : (n : Int) < (L.length : Int) := by omega
      obtain ⟨g1, o1, hao, d0, d1, d2⟩ := (hL.below hb5).at hltn
      cases hao
      have HX := hid (anyf_take (f := badFr (wrTo h h.length) (k : Int)) hltn hany)
      have HH := hid (fun e => anyf_hit (f := badFr (wrTo h h.length) (k : Int)) hltn e)
      have hr := HR.out _ (List.getElem_mem hltn)
      generalize badFr (wrTo h h.length) (k : Int) L[n] = bd at *
      generalize L[n].key = y at *
      generalize L[n].val = z at *
      rcases hr with ⟨hz, hbad⟩ | ⟨hz, m, hm, hwm, hbad⟩
      ·have HB := hid (HX.out.trans hbad)
       subst hz
       clear HX HH hbad
       go_wp2_with fail
       go_roundw
       case rel => exact ⟨n + 1, by omega, by go_num, HB.out, hbx, hb5⟩
       case measure => simp [intOf]; omega
      ·have CW := hid (fun wx (hx : Below w.heap.size w wx) => writer_any _ h y z wx (HT.out _ hx))
       rw [hwm] at CW
       have CL := hid (fun wx (hx : Below w.heap.size w wx) => rlast_any h[m].s h[m].b h[m].c h[m].v h[m].l y z wx ((HT.out _ hx).ops hm))
       have HAM := hid (fun wx (hx : Below w.heap.size w wx) => (HT.out _ hx).at hm)
       have hmi : (m : Int) < (h.length : Int) := by omega
       have hlo := block_lt d1
       simp only at hlo
       clear hwm
       go_wp2_with fail
       have kk := Below.refl wr.heap.size wr
       go_region_held3 (fun w' => w'.cell? ⟨g1, o1 + n * 3 + 1, none⟩ = some (.int .i64 y) ∧ w'.cell? ⟨g1, o1 + n * 3 + 2, none⟩ = some (.int .i64 z))
        (go_keep)
        (first
         | (go_at_call 65; refine (CW.out _ (below_then hbx (by first | exact kk | exact kk.drew | exact below_drewN kk _))).mono ?_; rintro e wy ⟨rfl, hby⟩; have kk : Below wr.heap.size wr wy := (by first | exact below_then kk hby | exact below_then kk ⟨hby.os, hby.tape, hby.output, hby.size, hby.block⟩); have d1 := (kk.cell (p := ⟨g1, o1 + n * 3 + 1, none⟩) hlo).trans d1; have d2 := (kk.cell (p := ⟨g1, o1 + n * 3 + 2, none⟩) hlo).trans d2))
       have hb6 := below_then hbx kk
       have hb7 := below_then hb5 kk
       obtain ⟨g2, o2, hao, e0, e1, e2, e3⟩ := HAM.out _ hb6
       cases hao
       clear CW hby
       by_cases hmk : m = k
       ·have HE : Hid (false = q) := hid (HF.out (by
         have h1 := HH.out (by rw [hbad, decide_eq_true (by omega)]; rfl)
         rw [HS.out, h1]; rfl))
        subst hmk
        clear HF HS HN HH HX HR HAT HAM CL hbad e0 e1 e2 e3
        go_wp2_with fail
        go_quiet (fail)
        go_wp2_with fail
        go_ret
        exact ⟨ret_b HE.out, by first | exact hb6 | exact below_drewN hb6 _⟩
       ·have hmki : ¬ (m : Int) = (k : Int) := by omega
        have hbq : ((m : Int) == (k : Int)) = false := by simpa using hmki
        rw [decide_eq_false hmki, Bool.false_or] at hbad
        have hm0 := block_lt e0
        simp only at hm0
        have hlo2 := block_lt d1
        simp only at hlo2
        have d0' := d0
        clear kk d0'
        go_wp2_with fail
        have kk := Below.refl wy.heap.size wy
        go_region_held3 (fun w' => (w'.cell? ⟨g, o + m * 4, none⟩ = some (.int .i64 h[m].s) ∧ w'.cell? ⟨g, o + m * 4 + 1, none⟩ = some (.int .i64 h[m].b) ∧ w'.cell? ⟨g, o + m * 4 + 2, none⟩ = some (.int .i64 h[m].c) ∧ w'.cell? ⟨g, o + m * 4 + 3, none⟩ = some h[m].v) ∧ w'.cell? ⟨g1, o1 + n * 3 + 1, none⟩ = some (.int .i64 y) ∧ w'.cell? ⟨g1, o1 + n * 3 + 2, none⟩ = some (.int .i64 z))
         (go_keep)
         (first
          | (go_at_call 66; refine (CL.out _ (below_then hb6 (by first | exact kk | exact kk.drew | exact below_drewN kk _))).mono ?_; rintro e wz ⟨rfl, hbz⟩; have kk : Below wy.heap.size wy wz := (by first | exact below_then kk hbz | exact below_then kk ⟨hbz.os, hbz.tape, hbz.output, hbz.size, hbz.block⟩); have d1 := (kk.cell (p := ⟨g1, o1 + n * 3 + 1, none⟩) hlo2).trans d1; have d2 := (kk.cell (p := ⟨g1, o1 + n * 3 + 2, none⟩) hlo2).trans d2; have e0 := (kk.cell (p := ⟨g, o + m * 4, none⟩) hm0).trans e0; have e1 := (kk.cell (p := ⟨g, o + m * 4 + 1, none⟩) hm0).trans e1; have e2 := (kk.cell (p := ⟨g, o + m * 4 + 2, none⟩) hm0).trans e2; have e3 := (kk.cell (p := ⟨g, o + m * 4 + 3, none⟩) hm0).trans e3))
        have hb8 := below_then hb6 kk
        have hb9 := below_then hb7 kk
        clear CL hbz d1 d2 e0 e1 e2 e3 HAM
        cases hv : (vOf h[m].l y == z)
        ·have HE : Hid (false = q) := hid (HF.out (by
          have h1 := HH.out (by rw [hbad, hv]; rfl)
          rw [HS.out, h1]; rfl))
         clear HF HS HN HH HX HR HAT hbad
         go_wp2_with fail
         go_ret
         exact ⟨ret_b HE.out, hb8⟩
        ·have HB := hid (HX.out.trans (hbad.trans (by rw [hv, Bool.not_true])))
         clear HF HS HN HH HX HR HAT hbad
         go_wp2_with fail
         go_roundw
         case rel => exact ⟨n + 1, by omega, by go_num, HB.out, hb8, hb9⟩
         case measure => simp [intOf]; omega
     ·have hn2 : n = L.length := by omega
      subst hn2
      rw [List.take_length] at hany
      have HE : Hid ((List.range (k + 1)).all (soundOf h) = true) := hid (by rw [HN.out, HS.out, hany]; rfl)
      clear HN HF HS HR HAT
      go_wp2_with fail
      go_roundw
      case rel => exact ⟨k + 1, by omega, by go_num, HE.out, hbx⟩
      case measure => simp [intOf]; omega
  ·have hk2 : k = h.length := by omega
   subst hk2
   have HE : Hid (true = q) := hid (by rw [HQ.out]; exact hall.symm)
   go_wp2_with fail
   go_ret
   exact ⟨ret_b HE.out, hb⟩
end

section
open Go.RowKit
theorem ahead_pos {i j : Nat} : ∀ {L : List Nat}, Ahead (L.map Int.ofNat) (i : Int) (j : Int) → ∃ (p q : Nat) (h1 : p < q) (h2 : q < L.length), L[p] = i ∧ L[q] = j
 | [], h => by cases h
 | a :: L, h => by
  rcases h with h | ⟨e, hj⟩
  rotate_left
  ·obtain ⟨b, hb, e2⟩ := List.mem_map.1 hj
   obtain ⟨q, hq, e3⟩ := List.getElem_of_mem hb
   exact ⟨0, q + 1, by omega, by simp; omega, Int.ofNat.inj e, by simp [e3]; exact Int.ofNat.inj e2⟩
  ·obtain ⟨p, q, h1, h2, e1, e2⟩ := ahead_pos h
   exact ⟨p + 1, q + 1, by omega, by simp; omega, by simpa using e1, by simpa using e2⟩
section
variable {h : List TxnV} {lv : Int} {L : List Nat}
end
end

section
open Go.RowKit
theorem insP_nodup {i : Int} : ∀ (l : List Int) {o : List Pr}, o.Nodup → (insP o i l).Nodup
 | [], _, h => h
 | _ :: l, _, h => insP_nodup l (putP_nodup h)
theorem pairsL_nodup (LL : List (List Int)) : ∀ k, (pairsL LL k).Nodup
 | 0 => List.nodup_nil
 | k + 1 => insP_nodup _ (pairsL_nodup LL k)
theorem seesL_len (V : Mat) (n : Nat) : (seesL V n).length = n := by simp [seesL]
theorem seesL_get (V : Mat) {n i : Nat} (hi : i < n) : (seesL V n).getD i [] = (lst (seeTo V (i : Int) 64)).map Int.ofNat := by
 unfold seesL
 rw [List.getD_eq_getElem?_getD, List.getElem?_map, List.getElem?_range hi]; rfl
theorem mem_sees {V : Mat} {i : Nat} (hi : i < 64) {a : Int} : a ∈ (lst (seeTo V (i : Int) 64)).map Int.ofNat ↔ ∃ j : Nat, j < 64 ∧ a = (j : Int) ∧ V j i = true := by
 rw [List.mem_map]
 constructor
 ·rintro ⟨j, hj, rfl⟩
  obtain ⟨h1, h2⟩ := mem_lst.1 hj
  rw [seeTo_bit V _ j 64 (Nat.le_refl 64), decide_eq_true h1, Bool.true_and, hasR_nat V j i h1 hi] at h2
  exact ⟨j, h1, rfl, h2⟩
 ·rintro ⟨j, hj, rfl, hv⟩
  refine ⟨j, mem_lst.2 ⟨hj, ?_⟩, rfl⟩
  rw [seeTo_bit V _ j 64 (Nat.le_refl 64), decide_eq_true hj, Bool.true_and, hasR_nat V j i hj hi]
  exact hv
end

section
open Go.RowKit
theorem low_ok {V : Mat} {n : Nat} (hn : n ≤ 64) (hL : ∀ i j : Nat, i < 64 → j < 64 → V i j = true → i < n ∧ j < n) : okL n (seesL V n) = true := by
 unfold okL
 rw [seesL_len, decide_eq_true rfl, Bool.true_and, List.all_eq_true]
 intro l hl
 unfold seesL at hl
 obtain ⟨i, hi, rfl⟩ := List.mem_map.1 hl
 have hin := List.mem_range.1 hi
 unfold okRow
 rw [List.all_eq_true]
 intro a ha
 obtain ⟨j, hj, rfl, hv⟩ := (mem_sees (show i < 64 by omega)).1 ha
 have := hL j i hj (by omega) hv
 simp only [Bool.and_eq_true, decide_eq_true_eq]
 exact ⟨by omega, by omega⟩
theorem low_rep {V : Mat} {n : Nat} (hn : n ≤ 64) (hL : ∀ i j : Nat, i < 64 → j < 64 → V i j = true → i < n ∧ j < n) : Rep V (pairsL (seesL V n) n) := by
 refine ⟨pairsL_nodup _ _, fun a b => ?_⟩
 rw [mem_pairsL]
 constructor
 ·rintro ⟨i, hi, a2, ha2, e⟩
  rw [seesL_get V hi] at ha2
  obtain ⟨j, hj, rfl, hv⟩ := (mem_sees (show i < 64 by omega)).1 ha2
  exact ⟨j, i, hj, by omega, congrArg Prod.fst e, congrArg Prod.snd e, hv⟩
 ·rintro ⟨j, i, hj, hi, rfl, rfl, hv⟩
  have hin := (hL j i hj hi hv).2
  refine ⟨i, hin, (j : Int), ?_, rfl⟩
  rw [seesL_get V hin]
  exact (mem_sees hi).2 ⟨j, hj, rfl, hv⟩
theorem least_low {h : List TxnV} {lv : Int} {L : List Nat} {X : Mat} (hc : checkI h = 0) (hp : L.Perm (List.range h.length)) (hk : keptL h lv L = true) (hX : LeastIs h (askN lv) (L.map Int.ofNat) X) : ∀ i j : Nat, i < 64 → j < 64 → X i j = true → i < h.length ∧ j < h.length := by
 intro i j hi hj hv
 rw [← kept_holds hc lv hp hX] at hk
 have hin : inM X (chainR (L.map Int.ofNat)) = true := by
  unfold holdsB at hk
  simp only [Bool.and_eq_true] at hk
  have := hk.2.2.1
  unfold rightM at this
  simp only [Bool.and_eq_true] at this
  exact this.2.1
 have hch := (inM_iff _ _).1 hin i j hi hj hv
 obtain ⟨p, q, h1, h2, e1, e2⟩ := ahead_pos ((chainR_iff i j _).1 hch)
 have m1 : i ∈ L := by rw [← e1]; exact List.getElem_mem _
 have m2 : j ∈ L := by rw [← e2]; exact List.getElem_mem _
 exact ⟨List.mem_range.1 (hp.mem_iff.1 m1), List.mem_range.1 (hp.mem_iff.1 m2)⟩
theorem first_accepts {h : List TxnV} {lv : Int} {L : List Nat} {X : Mat} (hc : checkI h = 0) (hp : L.Perm (List.range h.length)) (hk : keptL h lv L = true) (hX : LeastIs h (askN lv) (L.map Int.ofNat) X) : acceptsB h lv (L.map Int.ofNat) (seesL X h.length) = true := by
 have h64 := (check_zero hc).1
 have hlow := least_low hc hp hk hX
 have hrep := low_rep h64 hlow
 unfold acceptsB
 rw [low_ok h64 hlow, Bool.true_and]
 rw [← holds_same hc hrep, kept_holds hc lv hp hX]
 exact hk
end

section
open Go.RowKit
theorem allT_rowG {h : List TxnV} {C : Nat} (h64 : h.length ≤ 64) : ∀ (l r : List Nat), RowG h C r → allT h C r l = true → RowG h C (l.reverse ++ r)
 | [], r, g, _ => by simpa using g
 | i :: l, r, g, ha => by
  unfold allT at ha
  rw [Bool.and_eq_true] at ha
  have := allT_rowG h64 l (i :: r) (g.push h64 ha.1) ha.2
  rw [List.reverse_cons, List.append_assoc]; exact this
theorem dec_same {h : List TxnV} {lv : Int} {r : List Nat} {X : Mat} (hc : checkI h = 0) (hf : (ordersN h.length).find? (keptL h lv) = some r) (hX : LeastIs h (askN lv) (r.map Int.ofNat) X) : (decW h lv).1 = r.map Int.ofNat ∧ (decW h lv).2.1 = seesL X h.length := by
 have h64 := (check_zero hc).1
 have hk := List.find?_some hf
 have hp := orders_perm (List.mem_of_find?_eq_some hf)
 rw [← dec_first hc] at hf
 cases hd : (decN h lv).1 with
 | none => rw [hd] at hf; cases hf
 | some rr =>
  rw [hd, Option.map_some] at hf
  have hr : rr.reverse = r := by injection hf
  have hr2 : rr = r.reverse := by rw [← hr, List.reverse_reverse]
  unfold decW
  rw [hd]
  refine ⟨by show rr.reverse.map Int.ofNat = _; rw [hr], ?_⟩
  show seesL (seesR h (clI ((askN lv : Nat) : Int)) rr) h.length = _
  have hC : clI ((askN lv : Nat) : Int) < 9223372036854775808 := by have := clI_lt ((askN lv : Nat) : Int); omega
  have hall : allT h (clI ((askN lv : Nat) : Int)) [] r = true := by
   unfold keptL at hk
   simp only [Bool.and_eq_true] at hk
   exact hk.2.2
  have g : RowG h (clI ((askN lv : Nat) : Int)) rr := by
   have := allT_rowG h64 r [] RowG.nil hall
   rw [List.append_nil] at this
   rw [hr2]; exact this
  have hS := sees_least g hC (fun k hk => by rw [hr2]; exact List.mem_reverse.2 (hp.mem_iff.2 (List.mem_range.2 hk)))
  rw [hr] at hS
  have hx : askN lv < 9223372036854775808 := by
   unfold askN
   split
   ·next hlv => exact Nat.lt_trans (askAt_lt ⟨lv.toNat, by unfold isLv at hlv; simp at hlv; omega⟩) (by decide)
   ·decide
  have hin : inM X (chainR (r.map Int.ofNat)) = true := by
   have hk2 := hk
   rw [← kept_holds hc lv hp hX] at hk2
   unfold holdsB at hk2
   simp only [Bool.and_eq_true] at hk2
   have := hk2.2.2.1
   unfold rightM at this
   simp only [Bool.and_eq_true] at this
   exact this.2.1
  have hnd : (r.map Int.ofNat).Nodup := by
   have h1 : r.Nodup := hp.nodup_iff.2 List.nodup_range
   exact h1.map _ (fun a b hab e => hab (Int.ofNat.inj e))
  have he := least_closed hc hnd hx hX hS hin
  unfold seesL
  refine List.map_congr_left fun i hi => ?_
  have hi := List.mem_range.1 hi
  rw [seeTo_congr (fun a b ha hb => (rowsA_inj he a b ha hb).symm) (show i < 64 by omega)]
theorem dec_accepts {h : List TxnV} {lv : Int} (hc : checkI h = 0) {r : List Nat} {X : Mat} (hf : (ordersN h.length).find? (keptL h lv) = some r) (hX : LeastIs h (askN lv) (r.map Int.ofNat) X) : acceptsB h lv (decW h lv).1 (decW h lv).2.1 = true := by
 obtain ⟨e1, e2⟩ := dec_same hc hf hX
 rw [e1, e2]
 exact first_accepts hc (orders_perm (List.mem_of_find?_eq_some hf)) (List.find?_some hf) hX
end

section
open Go.RowKit
def lngO (f : Nat → Nat) (i : Nat) : List OpV := [⟨false, 0, (f i : Int)⟩, ⟨true, 0, (i : Int) + 1⟩]
def Lng (f : Nat → Nat) (h : List TxnV) : Prop := ∀ i (hi : i < h.length), h[i].s = 0 ∧ h[i].b = 2 * (i : Int) ∧ h[i].c = 2 * (i : Int) + 1 ∧ h[i].l = lngO f i
theorem Lng.nil (f : Nat → Nat) : Lng f [] := fun i hi => (by cases hi)
theorem Lng.snoc {f : Nat → Nat} {h : List TxnV} (q : Lng f h) (v : Value) {i : Nat} (hi : i = h.length) : Lng f (h ++ [⟨0, 2 * (i : Int), 2 * (i : Int) + 1, v, lngO f i⟩]) := by
 intro j hj
 by_cases e : j < h.length
 ·rw [List.getElem_append_left e]; exact q j e
 ·have : j = h.length := by simp at hj; omega
  subst this
  subst hi
  rw [List.getElem_append_right (Nat.le_refl _)]
  simp
theorem lng_reads (f : Nat → Nat) (i : Nat) : refReads (lngO f i) = [⟨false, 0, (f i : Int)⟩] := by
 refine Rise.eq (refReads_rise (l := lngO f i) ?_) ?_
 ·intro o ho
  simp [lngO] at ho
  rcases ho with rfl | rfl <;> simp
 ·refine ⟨List.pairwise_singleton _ _, fun o => ?_⟩
  obtain ⟨wr, key, val⟩ := o
  simp only [List.mem_singleton, firstO, lngO, List.find?_cons]
  by_cases hk : key = 0
  ·subst hk; simp; constructor
   ·rintro ⟨rfl, rfl⟩; exact ⟨⟨rfl, rfl⟩, rfl⟩
   ·rintro ⟨⟨rfl, rfl⟩, _⟩; exact ⟨rfl, rfl⟩
  ·have h1 : ((0 : Int) == key) = false := by simp; exact fun e => hk e.symm
   simp [h1, hk]
theorem lng_writes (f : Nat → Nat) (i : Nat) : refWrites (lngO f i) = [⟨true, 0, (i : Int) + 1⟩] := by
 refine Rise.eq (refWrites_rise (l := lngO f i) ?_) ?_
 ·intro o ho
  simp [lngO] at ho
  rcases ho with rfl | rfl <;> simp
 ·refine ⟨List.pairwise_singleton _ _, fun o => ?_⟩
  obtain ⟨wr, key, val⟩ := o
  simp only [List.mem_singleton, lastW, lngO, List.filter_cons, List.filter_nil]
  by_cases hk : key = 0
  ·subst hk; simp; constructor
   ·rintro ⟨rfl, rfl⟩; exact ⟨⟨rfl, rfl⟩, rfl⟩
   ·rintro ⟨⟨rfl, rfl⟩, _⟩; exact ⟨rfl, rfl⟩
  ·have h1 : ((0 : Int) == key) = false := by simp; exact fun e => hk e.symm
   simp [h1, hk]
section
variable {f : Nat → Nat} {h : List TxnV}
theorem Lng.ops (q : Lng f h) {i : Nat} (hi : i < h.length) : opsAt h i = lngO f i := by rw [opsAt_eq hi]; exact (q i hi).2.2.2
theorem Lng.opsN (q : Lng f h) : ∀ k, k ≤ h.length → opsN (h.take k) = 2 * k
 | 0, _ => by simp [Go.Proofs.YtmcicfdnmfbimaaGreatDoor.opsN]
 | k + 1, hk => by
  have ih := q.opsN k (by omega)
  rw [opsN_take h k (by omega), ih, (q k (by omega)).2.2.2]
  show 2 * k + 2 = _; omega
theorem Lng.wrTo (q : Lng f h) : ∀ k, k ≤ h.length → ∀ x : Int, wrTo h k x = if 1 ≤ x ∧ x ≤ (k : Int) then some ⟨x - 1, 0, true⟩ else none
 | 0, _, x => by
  rw [if_neg (by omega)]; rfl
 | k + 1, hk, x => by
  have ih := q.wrTo k (by omega)
  rw [wrTo_succ, q.ops (by omega), lng_writes]
  unfold finF addF lngO
  simp only [List.foldl_cons, List.foldl_nil, addOne, if_true, Bool.false_eq_true, if_false]
  unfold putF
  by_cases e : x = (k : Int) + 1
  ·rw [if_pos e, if_pos (by omega)]
   congr 2; omega
  ·rw [if_neg e, if_neg e, ih]
   by_cases e2 : 1 ≤ x ∧ x ≤ (k : Int)
   ·rw [if_pos e2, if_pos (by omega)]
   ·rw [if_neg e2, if_neg (by omega)]
theorem Lng.endF (q : Lng f h) : ∀ k, k < h.length → endF (h.take (k + 1)) 0 = some (2 * (k : Int) + 1) := by
 intro k hk
 rw [endF_succ h k hk, (q k hk).1, (q k hk).2.2.1, putF_same]
theorem Lng.stamps (q : Lng f h) : ∀ k, k ≤ h.length → (stL (h.take k)).Nodup ∧ ∀ x ∈ stL (h.take k), x < 2 * (k : Int)
 | 0, _ => by simp [stL]
 | k + 1, hk => by
  obtain ⟨i1, i2⟩ := q.stamps k (by omega)
  rw [stL_succ h k (by omega), (q k (by omega)).2.1, (q k (by omega)).2.2.1]
  refine ⟨?_, fun x hx => ?_⟩
  ·rw [List.nodup_append]
   refine ⟨i1, by simp; omega, fun a ha b hb => ?_⟩
   have := i2 a ha
   simp at hb
   omega
  ·rcases List.mem_append.1 hx with hx | hx
   ·have := i2 x hx; omega
   ·simp at hx; omega
theorem Lng.values (q : Lng f h) : ∀ k, k ≤ h.length → (wvH (h.take k)).Nodup ∧ ∀ x ∈ wvH (h.take k), x < (k : Int) + 1
 | 0, _ => by simp [wvH]
 | k + 1, hk => by
  obtain ⟨i1, i2⟩ := q.values k (by omega)
  have e : wv h[k].l = [(k : Int) + 1] := by rw [(q k (by omega)).2.2.2]; rfl
  rw [wvH_succ h k (by omega), e]
  refine ⟨?_, fun x hx => ?_⟩
  ·rw [List.nodup_append]
   refine ⟨i1, by simp, fun a ha b hb => ?_⟩
   have := i2 a ha
   simp at hb
   omega
  ·rcases List.mem_append.1 hx with hx | hx
   ·have := i2 x hx; omega
   ·simp at hx; omega
theorem Lng.check (q : Lng f h) (hf : ∀ i, f i ≤ i) (hn : h.length ≤ 64) : checkI h = 0 := by
 have ho := q.opsN h.length (Nat.le_refl _)
 rw [List.take_length] at ho
 have hw := fun x => q.wrTo h.length (Nat.le_refl _) x
 unfold checkI
 rw [if_neg (by omega)]
 have hp : partsB h = true := by
  unfold partsB
  rw [List.all_eq_true]
  intro t ht
  obtain ⟨i, hi, rfl⟩ := List.mem_iff_getElem.1 ht
  obtain ⟨q1, q2, q3, q4⟩ := q i hi
  have hfi := hf i
  rw [q1, q2, q3, q4, mayT_yes (by simp [lngO]; omega)]
  unfold allM lngO
  simp only [List.all_cons, List.all_nil, Bool.and_true, Bool.and_eq_true, mayO_iff]
  refine ⟨⟨by simp, ⟨by omega, by omega⟩, by simp⟩, by simp, ⟨by omega, by omega⟩, fun _ => by omega⟩
 have hv : valuesB h = true := by
  unfold valuesB okW
  rw [Bool.and_eq_true]
  refine ⟨?_, ?_⟩
  ·have := (q.values h.length (Nat.le_refl _)).1
   rw [List.take_length] at this
   exact decide_eq_true this
  ·rw [List.all_eq_true]
   intro t ht
   obtain ⟨i, hi, rfl⟩ := List.mem_iff_getElem.1 ht
   have hfi := hf i
   rw [(q i hi).2.2.2]
   unfold rowOk lngO
   simp only [List.all_cons, List.all_nil, Bool.and_true, Bool.and_eq_true]
   refine ⟨?_, by simp [rdOk]⟩
   unfold rdOk
   simp only [Bool.false_or, Bool.or_eq_true]
   by_cases e : f i = 0
   ·exact .inl (by simp [e])
   ·right
    rw [hw, if_pos (by omega)]
    rfl
 have hs : stampsB h = true := by
  have := (q.stamps h.length (Nat.le_refl _)).1
  rw [List.take_length] at this
  exact decide_eq_true this
 have hse : sesB h = true := by
  refine sesB_all fun j hj => ?_
  rw [sesOk_at hj, (q j hj).1, (q j hj).2.1]
  cases j with
  | zero => rfl
  | succ j =>
   rw [q.endF j (by omega)]
   show decide (_ < _) = true
   rw [decide_eq_true_eq]; omega
 rw [if_pos (by unfold rightB; rw [hp, hv, hs, hse]; rfl)]
theorem Lng.ok (q : Lng f h) (hf : ∀ i, f i ≤ i) (hn : h.length ≤ 64) : ∀ t ∈ h, t.ok := by
 intro t ht
 obtain ⟨i, hi, rfl⟩ := List.mem_iff_getElem.1 ht
 obtain ⟨q1, q2, q3, q4⟩ := q i hi
 have hfi := hf i
 refine ⟨⟨by rw [q1]; unfold IntOk; omega, by rw [q2]; unfold IntOk; omega, by rw [q3]; unfold IntOk; omega⟩, fun o ho => ?_⟩
 rw [q4] at ho
 simp [lngO] at ho
 rcases ho with rfl | rfl
 ·exact ⟨by simp [IntOk], by simp only [IntOk]; omega⟩
 ·exact ⟨by simp [IntOk], by simp only [IntOk]; omega⟩
theorem Lng.short (q : Lng f h) : Short h := by
 intro t ht
 obtain ⟨i, hi, rfl⟩ := List.mem_iff_getElem.1 ht
 rw [(q i hi).2.2.2]
 simp [lngO]
theorem Lng.readsOf (q : Lng f h) (hf : ∀ i, f i ≤ i) {i : Nat} (hi : i < h.length) : readsOf h i = [(0, (f i : Int) - 1)] := by
 have hfi := hf i
 unfold Go.Proofs.YtmcicfdnmfbimaaGreatDoor.readsOf
 rw [q.ops hi, lng_reads]
 have e : fromO (Go.Proofs.YtmcicfdnmfbimaaGreatDoor.wrTo h h.length) (f i : Int) = (f i : Int) - 1 := by
  unfold fromO
  rw [q.wrTo h.length (Nat.le_refl _)]
  by_cases e : f i = 0
  ·rw [if_neg (by omega), e]; rfl
  ·rw [if_pos (by omega)]; rfl
 unfold rdFr
 have e2 : (fromO (Go.Proofs.YtmcicfdnmfbimaaGreatDoor.wrTo h h.length) (f i : Int) != (i : Int)) = true := by rw [e, bne_iff_ne]; omega
 have e3 : ([⟨false, 0, (f i : Int)⟩] : List OpV).filter (fun o => fromO (Go.Proofs.YtmcicfdnmfbimaaGreatDoor.wrTo h h.length) o.val != (i : Int)) = [⟨false, 0, (f i : Int)⟩] := List.filter_cons_of_pos e2
 rw [e3]
 show [((0 : Int), fromO (Go.Proofs.YtmcicfdnmfbimaaGreatDoor.wrTo h h.length) (f i : Int))] = _
 rw [e]
theorem Lng.sound (q : Lng f h) (hf : ∀ i, f i ≤ i) : soundTo h h.length = true := by
 unfold soundTo
 rw [List.all_eq_true]
 intro i hi
 have hi := List.mem_range.1 hi
 have hfi := hf i
 unfold soundOf
 rw [q.ops hi, lng_reads, Bool.and_eq_true]
 refine ⟨?_, ?_⟩
 ·simp only [List.any_cons, List.any_nil, Bool.or_false]
  unfold badFr
  rw [q.wrTo h.length (Nat.le_refl _)]
  simp only
  by_cases e : f i = 0
  ·rw [if_neg (by omega)]; rfl
  ·rw [if_pos (by omega)]
   simp; omega
 ·refine steadyL_all fun j hj => ?_
  have hj : j < 2 := hj
  rw [stOk_at hj]
  rcases (by omega : j = 0 ∨ j = 1) with rfl | rfl
  ·rfl
  ·rfl
theorem Lng.keys (q : Lng f h) {i : Nat} (hi : i < h.length) : keysOf (opsAt h i) = [0] := by
 unfold keysOf; rw [q.ops hi, lng_writes]; rfl
theorem Lng.wrtN_bit (q : Lng f h) (hn : h.length ≤ 64) {j : Nat} : (wrtN h 0).testBit j = decide (j < h.length) := by
 unfold wrtN
 rw [testBit_mkS]
 by_cases e : j < h.length
 ·rw [q.keys e]; simp [e]; omega
 ·simp [e]
theorem Lng.base_lt (q : Lng f h) (hf : ∀ i, f i ≤ i) (hn : h.length ≤ 64) {C i j : Nat} (hC : C < 9223372036854775808) (hi : i < h.length) (hb : (baseN h C i).testBit j = true) : j < i := by
 have hfi := hf i
 obtain ⟨hj, hb⟩ := (baseN_bit (show i < 64 by omega)).1 hb
 rw [baseM_iff h C hC] at hb
 rcases hb with hb | ⟨_, hb⟩ | ⟨_, hb⟩
 ·have := ((prsTo_iff _ _ j i hj (by omega) _).1 hb).2.2
  unfold froP at this
  rw [q.readsOf hf hi] at this
  simp at this
  omega
 ·have := ((prsTo_iff _ _ j i hj (by omega) _).1 hb).2.2
  unfold sesP at this
  simp at this
  exact this.1
 ·have hq := (prsTo_iff _ _ j i hj (by omega) _).1 hb
  have := hq.2.2
  unfold timP at this
  rw [cAt_eq hq.1, bAt_eq hi, (q j hq.1).2.2.1, (q i hi).2.1] at this
  simp at this
  omega
theorem Lng.base_ses (q : Lng f h) (hn : h.length ≤ 64) {C i j : Nat} (hC : C < 9223372036854775808) (hi : i < h.length) (h0 : C.testBit 0 = true) (hji : j < i) : (baseN h C i).testBit j = true := by
 refine (baseN_bit (show i < 64 by omega)).2 ⟨by omega, ?_⟩
 rw [baseM_iff h C hC]
 refine .inr (.inl ⟨h0, (prsTo_iff _ _ j i (by omega) (by omega) _).2 ⟨by omega, hi, ?_⟩⟩)
 unfold sesP
 rw [sAt_eq (show j < h.length by omega), sAt_eq hi, (q j (by omega)).1, (q i hi).1]
 simp [hji]
end
end

section
open Go.RowKit
def rr (j : Nat) : List Nat := (List.range j).reverse
theorem rr_succ (j : Nat) : rr (j + 1) = j :: rr j := by unfold rr; rw [List.range_succ, List.reverse_append]; rfl
theorem mem_rr {i j : Nat} : i ∈ rr j ↔ i < j := by unfold rr; rw [List.mem_reverse, List.mem_range]
theorem plS_rr {i j : Nat} (hj : j ≤ 64) : (plS (rr j)).testBit i = decide (i < j) := by
 rw [plS_bit i (rr j) (fun a ha => by have := mem_rr.1 ha; omega)]
 congr 1; exact propext mem_rr
theorem ahead_rr : ∀ {k j : Nat}, k < j → aheadL (rr j) k = plS (rr k)
 | k, 0, h => by omega
 | k, j + 1, h => by
  rw [rr_succ, aheadL]
  by_cases e : k = j
  ·rw [if_pos e, e]
  ·rw [if_neg e]; exact ahead_rr (by omega)
section
variable {f : Nat → Nat} {h : List TxnV} {C : Nat}
theorem Lng.rowG (q : Lng f h) (hf : ∀ i, f i ≤ i) (hn : h.length ≤ 64) (hC : C < 9223372036854775808) {j : Nat} (hj : j ≤ h.length) : RowG h C (rr j) := by
 refine ⟨by unfold rr; exact (List.reverse_perm _).nodup_iff.2 List.nodup_range, fun k hk => by have := mem_rr.1 hk; omega, fun k hk i hi => ?_⟩
 have hk := mem_rr.1 hk
 rw [ahead_rr hk, plS_rr (by omega), decide_eq_true_eq]
 exact q.base_lt hf hn hC (by omega) hi
theorem Lng.next_lt (q : Lng f h) (hf : ∀ i, f i ≤ i) (hn : h.length ≤ 64) (hC : C < 9223372036854775808) {j i : Nat} (hj : j < h.length) (hi : (nextN h C (rr j) j).testBit i = true) : i < j := by
 have g := q.rowG hf hn hC (show j ≤ h.length by omega)
 have hin : ∀ i, (baseN h C j).testBit i = true → (plS (rr j)).testBit i = true := fun i hi => by rw [plS_rr (by omega), decide_eq_true_eq]; exact q.base_lt hf hn hC hj hi
 have hah : ∀ k i, (plS (rr j)).testBit k = true → (aheadL (rr j) k).testBit i = true → (plS (rr j)).testBit i = true := fun k i hk ha => by
  have hk := (plS_rr (show j ≤ 64 by omega)).symm.trans hk
  rw [decide_eq_true_eq] at hk
  rw [ahead_rr hk, plS_rr (by omega), decide_eq_true_eq] at ha
  rw [plS_rr (by omega), decide_eq_true_eq]; omega
 have := wld4_in hin (fun k i hk hs => hah k i hk (g.hin k i hs)) hah hi
 rw [plS_rr (by omega), decide_eq_true_eq] at this
 exact this
theorem wldb1 {b pl C j : Nat} (h : b.testBit j = true) : (wld1 b pl C).testBit j = true := by
 unfold wld1; split
 ·rw [Nat.testBit_or, h]; rfl
 ·exact h
theorem wldb2 {b pl rv C j : Nat} (h : b.testBit j = true) : (wld2 b pl rv C).testBit j = true := by
 unfold wld2; split
 ·rw [Nat.testBit_or, wldb1 h]; rfl
 ·exact wldb1 h
theorem wldb3 {b pl rv C j : Nat} {sF : Nat → Nat} (h : b.testBit j = true) : (wld3 b pl rv C sF).testBit j = true := by
 unfold wld3; split
 ·rw [Nat.testBit_or, wldb2 h]; rfl
 ·exact wldb2 h
theorem wldb4 {b pl rv C j : Nat} {sF aF : Nat → Nat} (h : b.testBit j = true) : (wld4 b pl rv C sF aF).testBit j = true := by
 unfold wld4; split
 ·rw [Nat.testBit_or, wldb3 h]; rfl
 ·exact wldb3 h
theorem Lng.try_yes (q : Lng f h) (hf : ∀ i, f i ≤ i) (hn : h.length ≤ 64) (hC : C < 9223372036854775808) {j : Nat} (hj : j < h.length) (hfj : f j = j) : tryP h C (rr j) j = true := by
 unfold tryP
 rw [decide_eq_true hj, Bool.true_and, show (!decide (j ∈ rr j)) = true by simp [mem_rr], Bool.true_and, Bool.and_eq_true]
 refine ⟨(inB_bits (baseN_set h C j)).2 fun i hi => by rw [plS_rr (by omega), decide_eq_true_eq]; exact q.base_lt hf hn hC hj hi, ?_⟩
 unfold readsP
 rw [q.readsOf hf hj]
 simp only [List.all_cons, List.all_nil, Bool.and_true]
 unfold readP readW
 rw [decide_eq_true_eq, hfj]
 by_cases e : j = 0
 ·subst e
  rw [if_neg (by omega)]
  apply Nat.eq_of_testBit_eq
  intro i
  rw [Nat.zero_testBit, Nat.testBit_and]
  cases hb : (nextN h C (rr 0) 0).testBit i with
  | false => rfl
  | true => have := q.next_lt hf hn hC hj hb; omega
 ·rw [if_pos (by simp only; omega), lack_iff]
  intro i hi
  rw [Nat.testBit_and, Bool.and_eq_true] at hi
  have hij := q.next_lt hf hn hC hj hi.1
  have e2 : ((j : Int) - 1).toNat = j - 1 := by omega
  show (withS (aheadL (rr j) ((j : Int) - 1).toNat) ((j : Int) - 1)).testBit i = true
  rw [e2, testBit_withS, ahead_rr (by omega), plS_rr (by omega), e2, decide_eq_true (show 0 ≤ (j : Int) - 1 ∧ (j : Int) - 1 < 64 by omega), Bool.true_and, Bool.or_eq_true, decide_eq_true_eq, decide_eq_true_eq]
  omega
theorem Lng.try_stale (q : Lng f h) (hf : ∀ i, f i ≤ i) (hn : h.length ≤ 64) (hC : C < 9223372036854775808) (h0 : C.testBit 0 = true) {j : Nat} (hj : j < h.length) (h1 : 1 ≤ j) (hfj : f j = j - 1) : tryP h C (rr j) j = false := by
 have hb : readsP h (aheadL (rr j)) (nextN h C (rr j) j) j = false := by
  unfold readsP
  rw [q.readsOf hf hj]
  simp only [List.all_cons, List.all_nil, Bool.and_true]
  unfold readP readW
  rw [decide_eq_false_iff_not, hfj]
  have hs : (nextN h C (rr j) j).testBit (j - 1) = true := wldb4 (q.base_ses hn hC hj h0 (by omega))
  have hw : (wrtN h 0).testBit (j - 1) = true := by rw [q.wrtN_bit hn, decide_eq_true_eq]; omega
  by_cases e : j = 1
  ·subst e
   rw [if_neg (by simp)]
   intro e2
   have := congrArg (fun x => x.testBit 0) e2
   simp only [Nat.testBit_and, Nat.zero_testBit] at this
   rw [show (1 : Nat) - 1 = 0 from rfl] at hs hw
   rw [hs, hw] at this
   cases this
  ·rw [if_pos (by simp only; omega), lack_iff]
   intro hh
   have := hh (j - 1) (by rw [Nat.testBit_and, hs, hw]; rfl)
   have e2 : (((j - 1 : Nat) : Int) - 1).toNat = j - 2 := by omega
   change (withS (aheadL (rr j) (((j - 1 : Nat) : Int) - 1).toNat) (((j - 1 : Nat) : Int) - 1)).testBit (j - 1) = true at this
   rw [e2, testBit_withS, ahead_rr (by omega), plS_rr (by omega), e2] at this
   simp only [Bool.or_eq_true, Bool.and_eq_true, decide_eq_true_eq] at this
   omega
 unfold tryP
 rw [hb]; simp
theorem Lng.try_far (q : Lng f h) (hn : h.length ≤ 64) (hC : C < 9223372036854775808) (h0 : C.testBit 0 = true) {j i : Nat} (hi : i < h.length) (hji : j < i) : tryP h C (rr j) i = false := by
 have hb : inB (baseN h C i) (plS (rr j)) = false := by
  cases e : inB (baseN h C i) (plS (rr j)) with
  | false => rfl
  | true =>
   have := (inB_bits (baseN_set h C i)).1 e j (q.base_ses hn hC hi h0 hji)
   rw [plS_rr (by omega), decide_eq_true_eq] at this
   omega
 unfold tryP
 rw [hb]; simp
theorem to_rr {F : List Nat → List (Nat × ByteArray) → Srch} {M : List (Nat × ByteArray)} {j : Nat} : ∀ m, m ≤ j → srchTo F h C (rr j) M m = (none, M, 0)
 | 0, _ => rfl
 | m + 1, hm => by
  rw [srchTo_succ, to_rr m (by omega), step_in rfl (mem_rr.2 (by omega))]
theorem Lng.good (q : Lng f h) (hf : ∀ i, f i = i) (hn : h.length ≤ 64) (hC : C < 9223372036854775808) : ∀ d j, j + d = h.length → srch h C h.length d (rr j) [] = (some (rr h.length), [], d)
 | 0, j, hj => by
  have : j = h.length := by omega
  subst this
  rfl
 | d + 1, j, hj => by
  have ih := q.good hf hn hC d (j + 1) (by omega)
  rw [srch_go (by simp)]
  have hs : srchTo (srch h C h.length d) h C (rr j) [] (j + 1) = (some (rr h.length), [], d + 1) := by
   rw [srchTo_succ, to_rr j (Nat.le_refl _), step_yes rfl (by rw [mem_rr]; omega) (q.try_yes (fun i => by rw [hf]; exact Nat.le_refl _) hn hC (by omega) (hf j)), ← rr_succ, ih]
   simp only; congr 2; omega
  rw [srchTo_found_le (show j + 1 ≤ h.length by omega) (by rw [hs]), hs]
  rfl
theorem Lng.bad (q : Lng f h) {k : Nat} (hk : 1 ≤ k ∧ k < h.length) (hf : ∀ i, f i = if i = k then i - 1 else i) (hn : h.length ≤ 64) (hC : C < 9223372036854775808) (h0 : C.testBit 0 = true) : ∀ d j M, j + d = h.length → j ≤ k → (srch h C h.length d (rr j) M).1 = none ∧ (srch h C h.length d (rr j) M).2.2 ≤ d * h.length
 | 0, j, M, hj, hjk => by omega
 | d + 1, j, M, hj, hjk => by
  have hle : ∀ i, f i ≤ i := fun i => by rw [hf]; split <;> omega
  by_cases hm : (plS (rr j), keyB h C (rr j)) ∈ M
  ·rw [srch_in hm]; exact ⟨rfl, Nat.zero_le _⟩
  ·rw [srch_go hm]
   have hs : (srchTo (srch h C h.length d) h C (rr j) M (j + 1)).1 = none ∧ (srchTo (srch h C h.length d) h C (rr j) M (j + 1)).2.2 ≤ 1 + d * h.length := by
    rw [srchTo_succ, to_rr j (Nat.le_refl _)]
    by_cases e : j = k
    ·subst e
     rw [step_no rfl (by rw [mem_rr]; omega) (q.try_stale hle hn hC h0 (by omega) (by omega) (by rw [hf, if_pos rfl]))]
     exact ⟨rfl, by show 0 + 1 ≤ _; omega⟩
    ·obtain ⟨i1, i2⟩ := q.bad hk hf hn hC h0 d (j + 1) M (by omega) (by omega)
     rw [step_yes rfl (by rw [mem_rr]; omega) (q.try_yes hle hn hC (by omega) (by rw [hf, if_neg e])), ← rr_succ]
     exact ⟨i1, by show 0 + 1 + (srch h C h.length d (rr (j + 1)) M).2.2 ≤ _; omega⟩
   have key : ∀ m, j + 1 + m ≤ h.length → (srchTo (srch h C h.length d) h C (rr j) M (j + 1 + m)).1 = none ∧ (srchTo (srch h C h.length d) h C (rr j) M (j + 1 + m)).2.2 ≤ 1 + d * h.length + m := by
    intro m
    induction m with
    | zero => intro _; exact hs
    | succ m ih =>
     intro hm
     obtain ⟨i1, i2⟩ := ih (by omega)
     rw [← Nat.add_assoc, srchTo_succ, step_no i1 (by rw [mem_rr]; omega) (q.try_far hn hC h0 (by omega) (by omega))]
     exact ⟨rfl, by show _ + 1 ≤ _; omega⟩
   obtain ⟨k1, k2⟩ := key (h.length - (j + 1)) (by omega)
   rw [show j + 1 + (h.length - (j + 1)) = h.length by omega] at k1 k2
   rw [srchEnd_cost.1, srchEnd_cost.2]
   refine ⟨k1, Nat.le_trans k2 ?_⟩
   rw [Nat.succ_mul]; omega
end
theorem ses_asked : ∀ l : Fin 12, l.val ≠ 0 → (clI ((askN (l.val : Int) : Nat) : Int)).testBit 0 = true := by decide +kernel
theorem lv_is : ∀ l : Fin 12, isLv (l.val : Int) = true := by decide +kernel
section
variable {f : Nat → Nat} {h : List TxnV}
theorem Lng.dec_good (q : Lng f h) (hf : ∀ i, f i = i) (hn : h.length ≤ 64) {l : Nat} (hl : l < 12) : decN h (l : Int) = (some (rr h.length), [], h.length) := by
 unfold decN
 rw [if_pos ⟨lv_is ⟨l, hl⟩, q.sound fun i => by rw [hf]; exact Nat.le_refl _⟩]
 exact q.good (C := clI ((askN (l : Int) : Nat) : Int)) hf hn (by have := clI_lt ((askN (l : Int) : Nat) : Int); omega) h.length 0 (by omega)
theorem Lng.dec_bad (q : Lng f h) {k : Nat} (hk : 1 ≤ k ∧ k < h.length) (hf : ∀ i, f i = if i = k then i - 1 else i) (hn : h.length ≤ 64) {l : Nat} (hl : l < 12) (h0 : l ≠ 0) : (decN h (l : Int)).1 = none ∧ (decN h (l : Int)).2.2 ≤ h.length * h.length := by
 unfold decN
 rw [if_pos ⟨lv_is ⟨l, hl⟩, q.sound fun i => by rw [hf]; split <;> omega⟩]
 exact q.bad (C := clI ((askN (l : Int) : Nat) : Int)) hk hf hn (by have := clI_lt ((askN (l : Int) : Nat) : Int); omega) (ses_asked ⟨l, hl⟩ h0) h.length 0 [] (by omega) (by omega)
theorem least_exists (h : List TxnV) (x : Nat) (L : List Int) : ∃ X : Mat, LeastIs h x L X := by
 classical
 exact ⟨fun i j => decide (Must (startM h (x : Int) (chainR L)) (chainR L) (trB x) (pfB x) i j), fun i j _ _ => by rw [decide_eq_true_eq]⟩
theorem Lng.accepts (q : Lng f h) (hf : ∀ i, f i = i) (hn : h.length ≤ 64) {l : Nat} (hl : l < 12) : acceptsB h (l : Int) (decW h (l : Int)).1 (decW h (l : Int)).2.1 = true := by
 have hc := q.check (fun i => by rw [hf]; exact Nat.le_refl _) hn
 have e := dec_first hc (l : Int)
 rw [q.dec_good hf hn hl, Option.map_some] at e
 obtain ⟨X, hX⟩ := least_exists h (askN (l : Int)) ((rr h.length).reverse.map Int.ofNat)
 exact dec_accepts hc e.symm hX
end
end

section
open Go.RowKit
theorem infoTxn : (Tryz.prog.info? 30).map (fun i => (i.zero, i.size, i.bytes)) = some (some (.agg #[.int .i64 0, .int .i64 0, .int .i64 0, .slice none 0 0]), 4, 48) := by kernel_rfl
def OwnT (w : World) (base : Nat) (v : Value) (h : List TxnV) : Prop := w.ownsRow base 30 4 v h.length (txV h)
theorem OwnT.row {w : World} {base : Nat} {v : Value} {h : List TxnV} (hO : OwnT w base v h) : Row w v h.length 4 (txV h) := Row.of_owns hO
end

section
open Go.RowKit
theorem txV_app (l m : List TxnV) : txV (l ++ m) = txV l ++ txV m := by simp [txV]
def ApartT (t u : TxnV) : Prop := ∀ b, t.v.ownBlock = some b → u.v.ownBlock ≠ some b
theorem OwnT.below {w w' : World} {base : Nat} {v : Value} {h : List TxnV} (hO : OwnT w base v h) (hb : Below w.heap.size w w') : OwnT w' base v h := owns_below hO hb
theorem OwnT.split {w : World} {base : Nat} {v : Value} {h : List TxnV} (hO : OwnT w base v h) : (v = .slice none 0 0 ∧ h = []) ∨ ∃ g cap, v = .slice (some ⟨g, 0, none⟩) h.length cap ∧ base ≤ g := by
 obtain ⟨_, h2⟩ := hO
 rcases h2 with ⟨e1, e2⟩ | ⟨g, cap, cur, e1, e2, _⟩
 ·exact .inl ⟨e1, List.eq_nil_of_length_eq_zero e2⟩
 ·exact .inr ⟨g, cap, e1, e2⟩
end

section
open Go.RowKit
def OwnH (w : World) (b0 : Nat) (v : Value) (c : List TxnV) : Prop := OwnT w b0 v c ∧ (∀ t ∈ c, Own w b0 t.v t.l) ∧ c.Pairwise ApartT
section
variable {w w' : World} {b0 base : Nat} {v v' u : Value} {c : List TxnV}
theorem OwnH.below (h : OwnH w b0 v c) (hb : Below w.heap.size w w') : OwnH w' b0 v c := ⟨h.1.below hb, fun t ht => (h.2.1 t ht).below hb, h.2.2⟩
theorem OwnH.nil (w : World) (b0 : Nat) : OwnH w b0 (.slice none 0 0) [] := ⟨⟨rfl, .inl ⟨rfl, rfl⟩⟩, by simp, List.Pairwise.nil⟩
theorem OwnH.txns (h : OwnH w b0 v c) : Txns w v c := ⟨h.1.row, fun t ht => (h.2.1 t ht).ops⟩
theorem ownH_apart {b1 : Nat} {l : List OpV} (h : OwnT w b0 v c) (k : Own w b1 u l) : u.ownBlock = none ∨ u.ownBlock ≠ v.ownBlock := owns_apart k h (by decide)
theorem OwnH.add {s b d : Int} {l : List OpV} (h : OwnH w b0 v c) (hu : Own w base u l) (hlt : ∀ t ∈ c, ∀ g, t.v.ownBlock = some g → g < base) (hb : b0 ≤ base) (hO : OwnT w' b0 v' (c ++ [⟨s, b, d, u, l⟩])) (hg : w.grownBy w' v.ownBlock) : OwnH w' b0 v' (c ++ [⟨s, b, d, u, l⟩]) := by
 refine ⟨hO, fun t ht => ?_, ?_⟩
 ·rcases List.mem_append.1 ht with ht | ht
  ·exact World.ownsRow.kept (h.2.1 t ht) hg (ownH_apart h.1 (h.2.1 t ht))
  ·obtain rfl := List.mem_singleton.1 ht
   exact World.ownsRow.kept (hu.base hb) hg (ownH_apart h.1 hu)
 ·rw [List.pairwise_append]
  refine ⟨h.2.2, List.pairwise_singleton _ _, fun t ht x hx => ?_⟩
  obtain rfl := List.mem_singleton.1 hx
  intro g h1 h2
  have q1 := hlt t ht g h1
  have q2 := (World.ownsRow.lt hu g h2).1
  omega
theorem OwnH.lt (h : OwnH w b0 v c) : ∀ t ∈ c, ∀ g, t.v.ownBlock = some g → g < w.heap.size := fun t ht g hg => (World.ownsRow.lt (h.2.1 t ht) g hg).2
end
section
variable {w w' : World} {gv b0 k : Nat} {D : List TxnV}
end
end

section
open Go.RowKit
theorem row4_newM (w : World) (x y z u : Value) (t : TypeId) : ∀ j v, [x, y, z, u][j]? = some v → (w.alloc (.cells #[x, y, z, u] t)).cell? ((⟨w.heap.size, 0, none⟩ : Addr).add j) = some v := fun j v hv => by
 rw [Addr.add_lit, cell_of_row _ _ _ _ _ _ (heap_alloc_new w _)]
 simpa using hv
end

section
open Go.RowKit
def lngF (s : Bool) (k i : Nat) : Nat := if s = true ∧ i = k then i - 1 else i
theorem lngF_le (s : Bool) (k i : Nat) : lngF s k i ≤ i := by unfold lngF; split <;> omega
theorem lngF_no (k i : Nat) : lngF false k i = i := by unfold lngF; simp
theorem lngF_yes (k i : Nat) : lngF true k i = if i = k then i - 1 else i := by unfold lngF; simp
theorem lng_yes {s : Bool} {k n : Nat} {h : List TxnV} (q : Lng (lngF s k) h) (hn : h.length = n) (h60 : n ≤ 60) (hk : 1 ≤ k ∧ k < n) {l : Nat} (hl : l < 12) (h0 : s = true → l ≠ 0) :
  (decW h (l : Int)).2.2 = !s ∧ (decN h (l : Int)).2.2 ≤ n * n ∧ (s = false → acceptsB h (l : Int) (decW h (l : Int)).1 (decW h (l : Int)).2.1 = true) := by
 subst hn
 cases s with
 | false =>
  have e := q.dec_good (lngF_no k) (by omega) hl
  refine ⟨by rw [decW_yes, e]; rfl, by rw [e]; exact Nat.le_mul_of_pos_left _ (by omega), fun _ => q.accepts (lngF_no k) (by omega) hl⟩
 | true =>
  obtain ⟨e1, e2⟩ := q.dec_bad hk (lngF_yes k) (by omega) hl (h0 rfl)
  exact ⟨by rw [decW_yes, e1]; rfl, e2, fun e => by cases e⟩
theorem long17_walk (y z : Int) (w : World) (hy : 0 ≤ y ∧ y ≤ 255) (hz : 0 ≤ z ∧ z ≤ 255) (ht : Tab w) (hK : Kinds w) :
  Calls Tryz.prog 3 #[.int .u8 y, .int .u8 z] w fun e w' => e = .returned (.bool true) ∧ Below w.heap.size w w' := by
 have hg := ht.pos
 have HT : Hid (∀ wx, Below w.heap.size w wx → Tab wx ∧ Kinds wx) := hid (fun wx hb => ⟨ht.below hb hg, hK.below hb⟩)
 obtain ⟨i1, hj, hy0, hy1, hy2⟩ := info_parts infoTxn
 obtain ⟨n, hn⟩ : ∃ n : Nat, 2 + y % 59 = (n : Int) := ⟨(2 + y % 59).toNat, by omega⟩
 have hn2 : 2 ≤ n ∧ n ≤ 60 := by omega
 obtain ⟨hn2, hn60⟩ := hn2
 have hzm := Int.emod_nonneg z (show (n : Int) - 1 ≠ 0 by omega)
 have hzl := Int.emod_lt_of_pos z (show (0 : Int) < (n : Int) - 1 by omega)
 obtain ⟨k, hk⟩ : ∃ k : Nat, 1 + z % ((n : Int) - 1) = (k : Int) := ⟨(1 + z % ((n : Int) - 1)).toNat, by omega⟩
 have hk1 : 1 ≤ k ∧ k < n := by omega
 obtain ⟨hk1, hkn⟩ := hk1
 have hne : ¬ (n : Int) - 1 = 0 := by omega
 have hze : z.tmod ((n : Int) - 1) = z % ((n : Int) - 1) := Int.tmod_eq_emod_of_nonneg hz.1
 have CS := hid (speaks17_any w ht hK)
 obtain ⟨ha, hb⟩ := hy
 obtain ⟨hza, hzb⟩ := hz
 clear ht hK
 go_enter Tryz.func3, Tryz.ntmps3
 go_wp2_with fail
 refine CS.out.mono ?_
 rintro e w1 ⟨rfl, hb1⟩
 have HB1 := hid hb1
 clear CS hb1
 have hx2 := box_below w1 (.cells #[.bool false, .bool true] 4)
 have hn2 := heap_alloc_new w1 (.cells #[.bool false, .bool true] 4)
 have HB2 := hid (below_then HB1.out hx2)
 have hcF : (w1.alloc (.cells #[.bool false, .bool true] 4)).cell? ⟨w1.heap.size, 0, none⟩ = some (.bool false) := by rw [cell_of_row _ _ _ _ _ _ hn2]; rfl
 have hcT : (w1.alloc (.cells #[.bool false, .bool true] 4)).cell? ⟨w1.heap.size, 1, none⟩ = some (.bool true) := by rw [cell_of_row _ _ _ _ _ _ hn2]; rfl
 have HCB := hid (fun (t : Nat) (ht : t < 2) wx (hx : Below (w1.alloc (.cells #[.bool false, .bool true] 4)).heap.size (w1.alloc (.cells #[.bool false, .bool true] 4)) wx) => (show wx.cell? ⟨w1.heap.size, t, none⟩ = some (.bool (decide (t = 1))) by
  rcases (by omega : t = 0 ∨ t = 1) with rfl | rfl
  ·exact (hx.cell (p := ⟨w1.heap.size, 0, none⟩) (block_lt hcF)).trans hcF
  ·exact (hx.cell (p := ⟨w1.heap.size, 1, none⟩) (block_lt hcT)).trans hcT))
 clear hx2 hn2 hcF hcT HB1
 go_upto_region 5 with fail
 go_wp2_with fail
 generalize w1.alloc (.cells #[.bool false, .bool true] 4) = w2 at *
 generalize w1.heap.size = g1 at *
 go_loopw [32] (fun i wr => ∃ t : Nat, t ≤ 2 ∧ i = .int .i64 (t : Int) ∧ Below w2.heap.size w2 wr) (fun i _ => 2 - (intOf i).toNat)
 case atStart => exact ⟨0, by omega, rfl, Below.refl _ _⟩
 case round =>
  obtain ⟨t, ht2, rfl, hbr⟩ := hrel
  by_cases hlt : t < 2
  ·have hti : (t : Int) < 2 := by omega
   have hcb := HCB.out t hlt wr hbr
   have hd0 : decide ((t : Int) < 0) = false := decide_eq_false (by omega)
   have hd1 : decide ((2 : Int) ≤ (t : Int)) = false := decide_eq_false (by omega)
   have hd2 : decide (2 ≤ t) = false := decide_eq_false (by omega)
   obtain ⟨s, hs⟩ : ∃ s : Bool, decide (t = 1) = s := ⟨_, rfl⟩
   rw [hs] at hcb
   clear hs
   have HBR := hid hbr
   clear hbr
   go_upto_region 9 with fail
   clear hcb hd0 hd1 hd2
   generalize wr = wo at *
   go_wp2_with fail
   go_loopw [9, 37] (fun v i wx => ∃ (j : Nat) (c : List TxnV), j ≤ n ∧ i = .int .i64 (j : Int) ∧ Hid (Lng (lngF s k) c) ∧ Hid (c.length = j) ∧ OwnH wx wo.heap.size v c ∧ Hid (Below wo.heap.size wo wx)) (fun _ i _ => n - (intOf i).toNat)
   case atStart => exact ⟨0, [], by omega, rfl, hid (Lng.nil _), hid rfl, OwnH.nil _ _, hid (Below.refl _ _)⟩
   case round =>
    obtain ⟨j, c, hjn, rfl, HC, HL, hM, HB⟩ := hrel
    obtain ⟨av, cv, rfl⟩ : ∃ a cp, u9 = .slice a c.length cp := by
     rcases hM.1.split with ⟨rfl, rfl⟩ | ⟨g, cp, rfl, _⟩
     ·exact ⟨none, 0, rfl⟩
     ·exact ⟨_, _, rfl⟩
    by_cases hlt : (j : Int) < (n : Int)
    ·have hDk : c.length ≤ 70 := by have := HL.out; omega
     have HMl := hid hM.lt
     have HM := hid (fun wx (hx : Below wr.heap.size wr wx) => hM.below hx)
     clear hM
     go_upto_region 13 with fail
     go_cut [46] from 41 to 46 (fun v wx => v = .bool (s && decide (j = k)) ∧ wx = wr)
     case first =>
      cases s with
      | false =>
       go_wp2_with fail
       go_meet
       case rel => exact ⟨rfl, rfl⟩
      | true =>
       by_cases e : j = k
       ·have e1 : (j : Int) = (k : Int) := by omega
        have e2 : ((j : Int) == (k : Int)) = true := by rw [beq_iff_eq]; exact e1
        have HE := hid e
        clear e
        go_wp2_with fail
        go_meet
        case rel => exact ⟨by rw [decide_eq_true HE.out]; rfl, rfl⟩
       ·have e2 : ((j : Int) == (k : Int)) = false := by rw [beq_eq_false_iff_ne]; omega
        have HE := hid e
        clear e
        go_wp2_with fail
        go_meet
        case rel => exact ⟨by rw [decide_eq_false HE.out]; rfl, rfl⟩
     case rest =>
      obtain ⟨rfl, rfl⟩ := hcut
      have HFY : Hid ((s && decide (j = k)) = true → (j : Int) - 1 = ((lngF s k j : Nat) : Int)) := hid (fun e => by
       simp only [Bool.and_eq_true, decide_eq_true_eq] at e
       unfold lngF; rw [if_pos e]; omega)
      have HFN : Hid ((s && decide (j = k)) = false → (j : Int) = ((lngF s k j : Nat) : Int)) := hid (fun e => by
       unfold lngF
       rw [if_neg (fun q => by rw [q.1, decide_eq_true q.2] at e; cases e)])
      generalize (s && decide (j = k)) = z2 at *
      go_upto_if 46 with fail
      go_cut [11] from 47 to 48 (fun v wx => v = .int .i64 ((lngF s k j : Nat) : Int) ∧ wx = wc)
      case first =>
       cases z2 with
       | true =>
        have HQ := hid (HFY.out rfl)
        clear HFY HFN
        go_wp2_with fail
        go_meet
        case rel => exact ⟨by rw [← HQ.out], rfl⟩
       | false =>
        have HQ := hid (HFN.out rfl)
        clear HFY HFN
        go_wp2_with fail
        go_meet
        case rel => exact ⟨by rw [← HQ.out], rfl⟩
      case rest =>
      obtain ⟨rfl, rfl⟩ := hcut
      clear HFY HFN
      have CRD := hid (read_any 0 ((lngF s k j : Nat) : Int) wc)
      have CWR := hid (fun wx => write_op 0 ((j : Int) + 1) wx)
      have hfl := lngF_le s k j
      have HLO : Hid (opV (lngO (lngF s k) j) = [.bool false, .int .i64 0, .int .i64 ((lngF s k j : Nat) : Int), .bool true, .int .i64 0, .int .i64 ((j : Int) + 1)]) := hid rfl
      have HLG := hid (fun (u : Value) => HC.out.snoc u HL.out.symm)
      go_wp2_with fail
      refine CRD.out.mono ?_
      rintro e w7 ⟨rfl, h7⟩
      clear CRD
      go_wp2_with fail
      refine (CWR.out _).mono ?_
      rintro e w8 ⟨rfl, h8⟩
      have h78 := below_then h7 h8
      have HS7 := h78.size
      have ho : Own (w8.alloc (.cells #[.bool false, .int .i64 0, .int .i64 ((lngF s k j : Nat) : Int), .bool true, .int .i64 0, .int .i64 ((j : Int) + 1)] 26)) w8.heap.size (.slice (some ⟨w8.heap.size, 0, none⟩) 2 2) (lngO (lngF s k) j) := World.ownsRow_lit (base := w8.heap.size) (e := 26) (size := 3) w8 #[.bool false, .int .i64 0, .int .i64 ((lngF s k j : Nat) : Int), .bool true, .int .i64 0, .int .i64 ((j : Int) + 1)] 2 (Nat.le_refl _) (by decide) rfl
      have hb8 := h78.alloc h78.size (.cells #[.bool false, .int .i64 0, .int .i64 ((lngF s k j : Nat) : Int), .bool true, .int .i64 0, .int .i64 ((j : Int) + 1)] 26)
      have hM8 := HM.out _ hb8
      have hs8 : (w8.alloc (.cells #[.bool false, .int .i64 0, .int .i64 ((lngF s k j : Nat) : Int), .bool true, .int .i64 0, .int .i64 ((j : Int) + 1)] 26)).heap.size = w8.heap.size + 1 := by simp
      have hM9 := hM8.below (box_below (w8.alloc (.cells #[.bool false, .int .i64 0, .int .i64 ((lngF s k j : Nat) : Int), .bool true, .int .i64 0, .int .i64 ((j : Int) + 1)] 26)) (.cells #[.int .i64 0, .int .i64 (2 * (j : Int)), .int .i64 (2 * (j : Int) + 1), .slice (some ⟨w8.heap.size, 0, none⟩) 2 2] 30))
      have hO9 := World.ownsRow.alloc ho (.cells #[.int .i64 0, .int .i64 (2 * (j : Int)), .int .i64 (2 * (j : Int) + 1), .slice (some ⟨w8.heap.size, 0, none⟩) 2 2] 30)
      have hOT := hM9.1
      have hb9 := hb8.alloc hb8.size (.cells #[.int .i64 0, .int .i64 (2 * (j : Int)), .int .i64 (2 * (j : Int) + 1), .slice (some ⟨w8.heap.size, 0, none⟩) 2 2] 30)
      clear hM8 ho hb8 CWR h7 h8 h78
      have HBS := hid HB.out.size
      have hlt7 := hid (fun t ht g hg => HMl.out t ht g hg)
      go_wp2_with (first | (at_builtin; refine wpList_append_own _ rfl _ _ 24 rfl wo.heap.size 30 i1 (.agg #[.int .i64 0, .int .i64 0, .int .i64 0, .slice none 0 0]) 4 48 Tryz.underlying24 hj hy0 hy1 hy2 rfl (by decide) _ _ _ rfl hOT ⟨_, 0, none⟩ 1 1 [.int .i64 0, .int .i64 (2 * (j : Int)), .int .i64 (2 * (j : Int) + 1), .slice (some ⟨w8.heap.size, 0, none⟩) 2 2] rfl rfl ?c1 ?c2 ?c3 ?c4 ?c5 ?_) | go_in)
      case c1 =>
       have hq := row4_newM (w8.alloc (.cells #[.bool false, .int .i64 0, .int .i64 ((lngF s k j : Nat) : Int), .bool true, .int .i64 0, .int .i64 ((j : Int) + 1)] 26)) (.int .i64 0) (.int .i64 (2 * (j : Int))) (.int .i64 (2 * (j : Int) + 1)) (.slice (some ⟨w8.heap.size, 0, none⟩) 2 2) 30
       rw [hs8] at hq
       exact hq
      case c2 =>
       intro u hu
       simp at hu
       rcases hu with rfl | rfl | rfl | rfl <;> rfl
      case c3 => unfold maxLen; omega
      case c4 => omega
      case c5 => have := HBS.out; simp; omega
      intro v10 w10 hown10 hg10 _
      have hO10 : OwnT w10 wo.heap.size v10 (c ++ [TxnV.mk 0 (2 * (j : Int)) (2 * (j : Int) + 1) (.slice (some ⟨w8.heap.size, 0, none⟩) 2 2) (lngO (lngF s k) j)]) := by
       unfold OwnT
       rw [List.length_append, txV_app]
       exact hown10
      have hM10 := OwnH.add hM9 hO9 (fun t ht g hg => by have := hlt7.out t ht g hg; omega) (by have := HBS.out; omega) hO10 hg10
      have hb10 : Hid (Below wo.heap.size wo w10) := hid ((HB.out.trans (hb9.mono HB.out.size)).grown hg10 (by have := HBS.out; simp; omega) (fun j hj => (World.ownsRow.lt hOT j hj).1))
      have HD := hid (HLG.out (.slice (some ⟨w8.heap.size, 0, none⟩) 2 2))
      have HL2 : Hid ((c ++ [TxnV.mk 0 (2 * (j : Int)) (2 * (j : Int) + 1) (.slice (some ⟨w8.heap.size, 0, none⟩) 2 2) (lngO (lngF s k) j)]).length = j + 1) := hid (by rw [List.length_append, HL.out]; rfl)
      clear hown10 hg10 hO10 hM9 hO9 hOT hb9 HLG
      go_wp2_with fail
      go_roundw
      case rel => exact ⟨j + 1, _, by omega, rfl, HD, HL2, hM10, hb10⟩
      case measure => simp [intOf]; omega
    ·obtain rfl : j = n := by omega
     have hq := HC.out
     have hL := HL.out
     have hck := hq.check (lngF_le s k) (by omega)
     have HTX := hid (fun wx (hx : Below wr.heap.size wr wx) => (hM.below hx).txns)
     have CO := hid (of_done _ c wr (HTX.out _ (Below.refl _ _)) (hq.ok (lngF_le s k) (by omega)) hq.short hck)
     have CSN := hid (fun wx (hx : Below wr.heap.size wr wx) => rsound_any _ c hck wx (HTX.out _ hx))
     rw [hq.sound (lngF_le s k)] at CSN
     have HZ := hid (below_then HB2.out (below_then HBR.out HB.out))
     have HZ2 := hid (below_then HBR.out HB.out)
     have HCK := hid hck
     have HLY := hid (fun (l : Nat) (hl : l < 12) (h0 : s = true → l ≠ 0) => lng_yes hq hL (by omega) ⟨hk1, hkn⟩ hl h0)
     have hjj : j * j ≤ 3600 := Nat.mul_le_mul (show j ≤ 60 by omega) (show j ≤ 60 by omega)
     have hji : (j : Int) * (j : Int) = ((j * j : Nat) : Int) := by rw [Int.natCast_mul]
     clear hq hL hck hM HC HL HB HB2 HBR
     obtain ⟨m, hm⟩ : ∃ m, m = j * j := ⟨_, rfl⟩
     rw [← hm] at hjj hji
     have fm : fuelN (m : Int) = m := by unfold fuelN; omega
     rw [← hm] at HLY
     clear hm
     go_wp2_with fail
     refine CO.out.mono ?_
     rintro e w5 ⟨⟨B, rfl, hB, hO⟩, h5⟩
     have CSN1 := hid (CSN.out _ h5)
     clear CO
     go_wp2_with fail
     refine CSN1.out.mono ?_
     rintro e w6 ⟨rfl, h6⟩
     have h56 := below_then h5 h6
     have HZ6 := hid (fun wx (hx : Below w6.heap.size w6 wx) => below_then HZ2.out (below_then h56 hx))
     have hO := hO.below h6
     have hTK := HT.out _ (below_then HZ.out h56)
     have CN := hid (fun wx => fnew_any (m : Int) wx)
     rw [fm] at CN
     have CD := hid (fun (l : Nat) (T : Nat) wx (hl : l < 12) (h0 : s = true → l ≠ 0) (hx : Below w6.heap.size w6 wx) (hT : w6.heap.size ≤ T) hmt => sdecide_ok (w := wx) (l : Int) T m 0 hO hTK.1 hTK.2 HCK.out hx hT hmt (by have := (HLY.out l hl h0).2.1; omega) (fun e => by omega) (.inr (by have := (HLY.out l hl h0).2.1; omega)))
     have CA := hid (fun lv vo vs l LL wx (hx : Below w6.heap.size w6 wx) hI hL => aaccepts_any lv vo vs l LL c B (B + 2) wx (hO.below hx) HCK.out (HT.out _ (below_then HZ.out (below_then h56 hx))).1 (HT.out _ (below_then HZ.out (below_then h56 hx))).2 hI hL)
     have hb66 := Below.refl w6.heap.size w6
     clear CSN CSN1 h5 h6 h56 hO hTK hB fm HTX HZ HZ2
     go_wp2_with fail
     go_loopw [81] (fun i wx => ∃ l : Nat, l ≤ 12 ∧ i = .int .i64 (l : Int) ∧ Below w6.heap.size w6 wx) (fun i _ => 12 - (intOf i).toNat)
     case atStart => exact ⟨0, by omega, rfl, hb66⟩
     case round =>
      obtain ⟨l, hl12, rfl, hbl⟩ := hrel
      by_cases hll : l < 12
      ·have hli : (l : Int) < 12 := by omega
       cases s with
       | true =>
        by_cases h0 : l = 0
        ·have h0i : (l : Int) = 0 := by omega
         have h0b : ((l : Int) == 0) = true := by rw [h0i]; rfl
         clear CA CD CN HLY
         go_wp2_with fail
         go_roundw
         case rel => exact ⟨l + 1, by omega, by go_num, hbl⟩
         case measure => simp [intOf]; omega
        ·have h0i : ¬ (l : Int) = 0 := by omega
         have h0b : ((l : Int) == 0) = false := by rw [beq_eq_false_iff_ne]; exact h0i
         have HYY := hid (HLY.out l hll (fun _ => h0))
         go_wp2_with fail
         try rw [hji]
         refine (CN.out _).mono ?_
         rintro e w7 ⟨T, rfl, hm7, hT7, h7⟩
         have CD1 := hid (CD.out l T w7 hll (fun _ => h0) (below_then hbl h7) (by have := hbl.size; omega) hm7)
         rw [HYY.out.1] at CD1
         clear hm7 CD CN CA HLY HYY
         go_wp2_with fail
         refine CD1.out.mono ?_
         rintro e w8 ⟨vo, vs, rfl, hI8, hL8, _, hg8, _⟩
         obtain ⟨po, pc, rfl, _⟩ := hI8.form
         obtain ⟨qo, qc, rfl, _⟩ := hL8.form
         have hb8 : Below w6.heap.size w6 w8 := (below_then hbl h7).grown hg8 (below_then hbl h7).size (fun j hj => by cases hj; have := hbl.size; omega)
         generalize (decW c (l : Int)).1.length = nl at *
         generalize (decW c (l : Int)).2.1.length = nk at *
         have hb9 := hb8.alloc hb8.size (.cells #[.slice po nl pc, .slice qo nk qc] 39)
         clear CD1 hI8 hL8 hg8 h7 hb8
         go_wp2_with fail
         go_roundw
         case rel => exact ⟨l + 1, by omega, by go_num, hb9⟩
         case measure => simp [intOf]; omega
       | false =>
        have HYY := hid (HLY.out l hll (fun e => by cases e))
        go_wp2_with fail
        try rw [hji]
        refine (CN.out _).mono ?_
        rintro e w7 ⟨T, rfl, hm7, hT7, h7⟩
        have CD1 := hid (CD.out l T w7 hll (fun e => by cases e) (below_then hbl h7) (by have := hbl.size; omega) hm7)
        rw [HYY.out.1] at CD1
        clear hm7 CD CN HLY
        go_wp2_with fail
        refine CD1.out.mono ?_
        rintro e w8 ⟨vo, vs, rfl, hI8, hL8, _, hg8, _⟩
        obtain ⟨po, pc, rfl, _⟩ := hI8.form
        obtain ⟨qo, qc, rfl, _⟩ := hL8.form
        have hb8 : Below w6.heap.size w6 w8 := (below_then hbl h7).grown hg8 (below_then hbl h7).size (fun j hj => by cases hj; have := hbl.size; omega)
        generalize hnl : (decW c (l : Int)).1.length = nl at *
        generalize hnk : (decW c (l : Int)).2.1.length = nk at *
        have hx9 := box_below w8 (.cells #[.slice po nl pc, .slice qo nk qc] 39)
        have hb9 := below_then hb8 hx9
        have W9 := WitT.made w8 (.slice po nl pc) (.slice qo nk qc) 39
        have CA1 := hid (CA.out (l : Int) _ _ _ _ _ hb9 (hI8.below hx9) (hL8.below hx9))
        rw [HYY.out.2.2 (by trivial)] at CA1
        clear CD1 hI8 hL8 hg8 h7 hb8 hx9 CA HYY hnl hnk
        go_upto_region 25 with fail
        generalize w8.alloc (.cells #[.slice po nl pc, .slice qo nk qc] 39) = w9 at *
        obtain ⟨m0, m1⟩ := W9
        go_wp2_with fail
        refine CA1.out.mono ?_
        rintro e wA ⟨rfl, hA⟩
        have hbA := below_then hb9 hA
        clear CA1 hA m0 m1
        go_wp2_with fail
        go_roundw
        case rel => exact ⟨l + 1, by omega, by go_num, hbA⟩
        case measure => simp [intOf]; omega
      ·obtain rfl : l = 12 := by omega
       have hli : ¬ ((12 : Nat) : Int) < 12 := by omega
       have hz := HZ6.out _ hbl
       go_wp2_with fail
       go_roundw
       case rel => exact ⟨t + 1, by omega, by go_num, hz⟩
       case measure => simp [intOf]; omega
  ·obtain rfl : t = 2 := by omega
   have hz := below_then HB2.out hbr
   go_wp2_with fail
   go_ret
   exact ⟨rfl, hz⟩
end

end Go.Proofs.YtmcicfdnmfbimaaGreatDoor
