/- Walks and plain facts that the proof of the statement PlaceTries uses, joined: OrdL PlaN PlaP LeaI LeaJ PlaO PlaE AxhD AxhF PlaQ OrdAB PlaR PlaS PlaT PlaU. Conditions: each theorem's own. -/
import Derived.Deep.RegionHeld
import Derived.Deep.CutRange
import Derived.Deep.MidRow
import Derived.OneCell
import Derived.Lib.BufferWrite
import Derived.Deep.RegionHeld3
import Derived.Test.YtfancjmhdbaoeaaGreatDoorPPlaceTries1
import Derived.Test.YtfancjmhdbaoeaaGreatDoorPPlaceTries2
import Derived.Test.YtfancjmhdbaoeaaGreatDoorPPlaceTries4
import Derived.Test.YtfancjmhdbaoeaaGreatDoorPPlaceTries5
import Derived.Test.YtfancjmhdbaoeaaGreatDoorPPlaceTries6
namespace Go.Proofs.YtfancjmhdbaoeaaGreatDoor
set_option maxRecDepth 100000
open Go.RowKit

theorem takeQ {P : Program} {ops : Array Oper} {Q : Exit → Act → World → Prop} {md : Region.Mode} {S : World → Prop} (d : Option Tmp) {i : Nat} {oi : Oper} {v : Value} {fuel : Nat} {listed : Array Bool} {a : Act} {w : World} (hi : ops[i]? = some oi) (hd : oi.dst = d)
    (hs : Region.noSelect ops = true) (hf : Region.free md ops listed i = true) (hr : (Region.ready md ops listed).contains i = true)
    (hQ : ∀ c a w, Q (.panic c) (a.put oi.dst v) w → Q (.panic c) a w) (hy : YieldsIf P ops S oi v a) (hS : S w)
    (h : wpAnyH P md ops Q S fuel (listed.setIfInBounds i true) (a.put d v) w) : wpAnyH P md ops Q S (fuel + 1) listed a w := by
  subst hd; exact wpAnyH_take hi hs hf hr hQ hy hS h
set_option maxHeartbeats 16000000 in
theorem of_done (va : Value) (h : List TxnV) (w : World) (hT : Txns w va h) (hok : ∀ t ∈ h, t.ok) (hsh : Short h) (hc : checkI h = 0) :
    Calls Tryz.prog 11 #[va] w fun e w' => (∃ B, e = .returned (.tuple #[.pointer (some ⟨B, 0, none⟩), .int .i64 0]) ∧ w.heap.size ≤ B ∧ OrdIs w' B (B + 2) h) ∧ Below w.heap.size w w' := by
  obtain ⟨ao, cap, rfl, hal⟩ := hT.form
  obtain ⟨hlen, hops, hW, hks⟩ := check_zero hc
  have hb0 := box_below w (.cells #[.slice ao h.length cap] 22)
  have CH := Lib.hid (hcheck_any _ h _ (hT.below hb0) hok hsh)
  rw [hc] at CH
  have CW := Lib.hid (fun wx (hx : Below w.heap.size w wx) => hwrites_any _ h wx (hT.below hx) hok hks (by omega) (by omega))
  have HT := Lib.hid (fun wx (hx : Below w.heap.size w wx) => hT.below hx)
  have HOK := Lib.hid hok
  have HKS := Lib.hid hks
  have HW := Lib.hid hW
  have HOPS := Lib.hid hops
  obtain ⟨i1, hi1, hza1, hzb1, hzc1⟩ := info_parts infoLI
  obtain ⟨i2, hi2, hza2, hzb2, hzc2⟩ := info_parts infoLR
  have hA0 : (w.alloc (.cells #[.slice ao h.length cap] 22)).cell? ⟨w.heap.size, 0, none⟩ = some (.slice ao h.length cap) := by rw [cell_of_row _ _ _ _ _ _ (heap_alloc_new w _)]; rfl
  clear hT hok hsh hks hW hc hops
  go_enter Tryz.func11, Tryz.ntmps11
  go_wp2_with fail
  refine (CH.out).mono ?_
  rintro e w1 ⟨rfl, hb1⟩
  have hA1 := (hb1.cell (p := ⟨w.heap.size, 0, none⟩) (block_lt hA0)).trans hA0
  have hb2 := below_then hb0 hb1
  clear CH hb1 hb0 hA0
  go_wp2_with fail
  refine (CW.out _ hb2).mono ?_
  rintro e w2 ⟨hb3, ⟨hno, _⟩ | ⟨_, bm, m, rfl, hbm, hM⟩⟩
  · exact absurd hno (by rw [HW.out]; simp)
  have hA2 := (hb3.cell (p := ⟨w.heap.size, 0, none⟩) (block_lt hA1)).trans hA1
  have hb4 := below_then hb2 hb3
  clear CW hb3 hb2 hA1
  have hlt := block_lt hA2
  simp only at hlt
  have hO3 := (OrdAt.made w2 (h.length : Int) 76 rfl rfl).alloc (.cells #[.pointer (some ⟨w2.heap.size, 0, none⟩)] 28)
  have hb3 := ((Below.refl w2.heap.size w2).alloc (Nat.le_refl _) (.cells ((Tryz.zeroCells76.setIfInBounds 0 (.int .i64 h.length)).setIfInBounds 196 (.bool true)) 76)).alloc (by simp) (.cells #[.pointer (some ⟨w2.heap.size, 0, none⟩)] 28)
  have hA3 := (hb3.cell (p := ⟨w.heap.size, 0, none⟩) hlt).trans hA2
  have hC3 : ((w2.alloc (.cells ((Tryz.zeroCells76.setIfInBounds 0 (.int .i64 h.length)).setIfInBounds 196 (.bool true)) 76)).alloc (.cells #[.pointer (some ⟨w2.heap.size, 0, none⟩)] 28)).cell? ⟨w2.heap.size + 1, 0, none⟩ = some (.pointer (some ⟨w2.heap.size, 0, none⟩)) := by
    rw [cell_of_row _ _ _ _ _ _ (heap_alloc2_new w2 _ _)]; rfl
  have hs3 : w2.heap.size + 2 ≤ ((w2.alloc (.cells ((Tryz.zeroCells76.setIfInBounds 0 (.int .i64 h.length)).setIfInBounds 196 (.bool true)) 76)).alloc (.cells #[.pointer (some ⟨w2.heap.size, 0, none⟩)] 28)).heap.size := by simp
  go_wp2_with fail
  generalize ((w2.alloc (.cells ((Tryz.zeroCells76.setIfInBounds 0 (.int .i64 h.length)).setIfInBounds 196 (.bool true)) 76)).alloc (.cells #[.pointer (some ⟨w2.heap.size, 0, none⟩)] 28)) = w3 at *
  generalize (Tryz.zeroCells76.setIfInBounds 0 (.int .i64 h.length)).setIfInBounds 196 (.bool true) = Z at *
  go_loopw [26] (fun i wr => ∃ (k : Nat) (vk vr : Value) (sd : Bool) (K : List KRow) (R : List RRow), k ≤ h.length ∧ i = .int .i64 k ∧ K.map (·.2) = keysTo h k ∧ R.map (·.2) = readsTo h k ∧ sd = soundTo h k ∧ OrdAt wr w2.heap.size h.length noR noR noR (.map none) vk vr sd ∧
      wr.cell? ⟨w2.heap.size + 1, 0, none⟩ = some (.pointer (some ⟨w2.heap.size, 0, none⟩)) ∧ OfR (w2.heap.size + 2) wr vk vr K R ∧ Below w2.heap.size w2 wr ∧ w2.heap.size + 2 ≤ wr.heap.size) (fun i _ => h.length - (intOf i).toNat)
  case atStart => exact ⟨0, _, _, _, [], [], by omega, rfl, rfl, rfl, rfl, hO3, hC3, OfR.nil _ _, hb3, hs3⟩
  case round =>
    clear hO3 hC3 hb3 hs3 hA3
    obtain ⟨k, vk, vr, sd, K, R, hk, rfl, hK, hR, hsd, hO, hC, hF, hb, hsz⟩ := hrel
    have HK := Lib.hid (And.intro hK (And.intro hR hsd))
    clear hK hR hsd
    by_cases hlk : k < h.length
    · have hki : (k : Int) < (h.length : Int) := by omega
      have hbw := below_then hb4 hb
      obtain ⟨g, o, hao, c0, c1, c2, c3⟩ := (HT.out _ hbw).at hlk
      cases hao
      have hOps := (HT.out _ hbw).ops hlk
      have HOPF := Lib.hid (fun wx (hx : Below w2.heap.size w2 wx) => (HT.out wx (below_then hb4 hx)).ops hlk)
      generalize h[k].s = ts at *
      generalize h[k].b = tb at *
      generalize h[k].c = tc at *
      have HLK : Hid (opsAt h k = h[k].l) := Lib.hid (opsAt_eq hlk)
      have hll : h[k].l.length ≤ 1024 := by
        have h1 := opsN_take h k hlk
        have h2 := opsN_le h (k + 1)
        have h3 := HOPS.out
        omega
      have HOL := Lib.hid (HOK.out _ (List.getElem_mem hlk)).2
      have HKL := Lib.hid (HKS.out _ (List.getElem_mem hlk))
      generalize h[k].v = tv at *
      generalize h[k].l = l at *
      obtain ⟨a2, cap2, rfl, hl2⟩ := hOps.form
      obtain ⟨b0, b1, b2, b3⟩ := txnBlock wr (.int .i64 ts) (.int .i64 tb) (.int .i64 tc) (.slice a2 l.length cap2) 91
      have hbx := (Below.refl wr.heap.size wr).alloc (Nat.le_refl _) (.cells #[.int .i64 ts, .int .i64 tb, .int .i64 tc, .slice a2 l.length cap2] 91)
      have hOps1 := hOps.below hbx
      have hO1 := hO.below hbx hO.lt
      have hC1 := (hbx.cell (p := ⟨w2.heap.size + 1, 0, none⟩) (block_lt hC)).trans hC
      have hF1 := hF.below hbx
      have hb1 := hb.trans (hbx.mono hb.size)
      have hs1 : w2.heap.size + 2 ≤ (wr.alloc (.cells #[.int .i64 ts, .int .i64 tb, .int .i64 tc, .slice a2 l.length cap2] 91)).heap.size := by simp; omega
      have hgx : w2.heap.size + 2 ≤ wr.heap.size := hsz
      have hX1 := heap_alloc_new wr (.cells #[.int .i64 ts, .int .i64 tb, .int .i64 tc, .slice a2 l.length cap2] 91)
      have hX : OfS w2 wr.heap.size ts tb tc (.slice a2 l.length cap2) h.length vk vr sd K R (wr.alloc (.cells #[.int .i64 ts, .int .i64 tb, .int .i64 tc, .slice a2 l.length cap2] 91)) := ⟨hO1, ⟨hC1, b0, b1, b2, b3⟩, hF1, hb1, hs1, ⟨_, hX1⟩, hgx⟩
      have hTf := fun wx (hx : Below w2.heap.size w2 wx) => HT.out wx (below_then hb4 hx)
      go_upto_region 9 with fail
      clear hOps hO hC hF hb hbx hbw hsz c0 c1 c2 c3 hO1 hC1 hF1 hb1 hs1 hX1 b0 b1 b2 b3
      generalize wr.alloc (.cells #[.int .i64 ts, .int .i64 tb, .int .i64 tc, .slice a2 l.length cap2] 91) = w4 at *
      generalize wr.heap.size = gx at *
      clear wr
      have hKl : K.length ≤ 64 := by have := congrArg List.length HK.out.1; simp [keysTo] at this; omega
      have hRl : R.length ≤ 64 := by have := congrArg List.length HK.out.2.1; simp [readsTo] at this; omega
      obtain ⟨aK, cK, rfl⟩ := owns_form hX.r.kr
      obtain ⟨aR, cR, rfl⟩ := owns_form hX.r.rr
      go_cut [41] from 31 to 41 (fun u wx => ∃ (v5 : Value) (vx : Value), u = .pointer (some ⟨w2.heap.size, 194, none⟩) ∧ OfS w2 gx ts tb tc (.slice a2 l.length cap2) h.length v5 (.slice aR R.length cR) sd (K ++ [(vx, keysOf l)]) R wx)
      case first =>
        have kd := (Below.refl w4.heap.size w4).drew
        have CK : Hid (∀ wx, Below w4.heap.size w4 wx → Calls Tryz.prog 46 #[.agg #[.int .i64 ts, .int .i64 tb, .int .i64 tc, .slice a2 l.length cap2]] wx fun e w' => ∃ v, e = .returned v ∧ w'.ownsRow (w2.heap.size + 2) 3 1 v (keysOf l).length ((keysOf l).map (Value.int .i64)) ∧ Below wx.heap.size wx w') := Lib.hid (fun wx hx => (okeys_any ts tb tc _ l wx (hOps1.below hx) HOL.out (by omega)).mono (fun e w' ⟨v, out, he, ho, hr, _, hbb⟩ => by
          obtain rfl := hr.eq (refWrites_rise HKL.out)
          refine ⟨v, he, own_base' ?_ (show w2.heap.size + 2 ≤ wx.heap.size by have h1 := hx.size; have h2 := hX.z; omega), hbb⟩
          unfold keysOf
          rw [List.length_map, List.map_map]
          exact ho))
        have HS : Hid (∀ wx, Below w4.heap.size w4 wx → SB (w2.heap.size + 1) w2.heap.size gx ts tb tc (.slice a2 l.length cap2) wx) := Lib.hid (fun wx hx => hX.s.below hx)
        have hc0 := hX.o.cK
        have HCL : Hid (∀ wx, Below w4.heap.size w4 wx → wx.cell? ⟨w2.heap.size, 194, none⟩ = some (.slice aK K.length cK)) := Lib.hid (fun wx hx => (hx.cell (p := ⟨w2.heap.size, 194, none⟩) (block_lt hc0)).trans hc0)
        have HCA : Hid (∀ wx, Below w4.heap.size w4 wx → ∀ o, (wx.alloc o).cell? ⟨w2.heap.size, 194, none⟩ = some (.slice aK K.length cK)) := Lib.hid (fun wx hx o => HCL.out _ (hx.alloc hx.size o))
        have HRO : Hid (∀ wx, Below w4.heap.size w4 wx → wx.ownsRow (w2.heap.size + 2) 32 1 (.slice aK K.length cK) K.length (K.map (·.1))) := Lib.hid (fun wx hx => owns_below hX.r.kr hx)
        have HSZ : Hid (∀ wx (o : Obj), Below w4.heap.size w4 wx → w2.heap.size + 2 ≤ (wx.alloc o).heap.size) := Lib.hid (fun wx o hx => by have h1 := hx.size; have h2 := hX.z; simp; omega)
        have HFIN := Lib.hid (fun wx w5 v v5 hx => hX.addK (wx := wx) (w5 := w5) (v := v) (v5 := v5) (t := 32) (l := keysOf l) hx)
        have n3 : Hid (K.length + 1 ≤ maxLen) := Lib.hid (by unfold maxLen; omega)
        have n4 : Hid ((K.length + 1) * 24 ≤ 140737488355328) := Lib.hid (by omega)
        refine wp_region_held_drew (S := SB (w2.heap.size + 1) w2.heap.size gx ts tb tc (.slice a2 l.length cap2)) (by kernel_rfl) hX.s.drew (fun hS0 => ?_)
        refine takeQ (some 31) (i := 0) (v := ?v1) rfl rfl (by kernel_rfl) (by kernel_rfl) (by kernel_rfl) (fun _ _ _ h => h) (Or.inl ⟨by rfl, ?h1⟩) hS0 ?r1
        case h1 => (intro w hw; obtain ⟨q0, q1, q2, q3, q4⟩ := hw; go_simp; try (with_reducible rfl))
        try simp only [Act.put, List.setIfInBounds_toArray, List.set_cons_zero, List.set_cons_succ]
        refine takeQ (some 32) (i := 1) (v := ?v2) rfl rfl (by kernel_rfl) (by kernel_rfl) (by kernel_rfl) (fun _ _ _ h => h) (Or.inl ⟨by rfl, ?h2⟩) hS0 ?r2
        case h2 => (intro w hw; obtain ⟨q0, q1, q2, q3, q4⟩ := hw; go_simp; try (with_reducible rfl))
        try simp only [Act.put, List.setIfInBounds_toArray, List.set_cons_zero, List.set_cons_succ]
        refine takeQ (some 36) (i := 5) (v := ?v3) rfl rfl (by kernel_rfl) (by kernel_rfl) (by kernel_rfl) (fun _ _ _ h => h) (Or.inl ⟨by rfl, ?h3⟩) hS0 ?r3
        case h3 => (intro w hw; obtain ⟨q0, q1, q2, q3, q4⟩ := hw; go_simp; try (with_reducible rfl))
        try simp only [Act.put, List.setIfInBounds_toArray, List.set_cons_zero, List.set_cons_succ]
        refine takeQ (some 33) (i := 2) (v := ?v4) rfl rfl (by kernel_rfl) (by kernel_rfl) (by kernel_rfl) (fun _ _ _ h => h) (Or.inl ⟨by rfl, ?h4⟩) hS0 ?r4
        case h4 => (intro w hw; obtain ⟨q0, q1, q2, q3, q4⟩ := hw; go_simp; try (with_reducible rfl))
        try simp only [Act.put, List.setIfInBounds_toArray, List.set_cons_zero, List.set_cons_succ]
        refine takeQ (some 34) (i := 3) (v := ?v5) rfl rfl (by kernel_rfl) (by kernel_rfl) (by kernel_rfl) (fun _ _ _ h => h) (Or.inl ⟨by rfl, ?h5⟩) hS0 ?r5
        case h5 => (intro w hw; obtain ⟨q0, q1, q2, q3, q4⟩ := hw; go_simp; try (with_reducible rfl))
        try simp only [Act.put, List.setIfInBounds_toArray, List.set_cons_zero, List.set_cons_succ]
        refine wpAnyH_ready (rs := [4, 6]) (by kernel_rfl) (by simp) ?_
        refine AllReadyH.cons rfl ?_ (AllReadyH.cons rfl ?_ AllReadyH.nil)
        · intro KK hKK
          go_simp
          refine hKK.out _ _ hS0 (fun _ => ?_)
          clear hKK KK
          refine wpAnyH_ready (rs := [6]) (by kernel_rfl) (by simp) ?_
          refine AllReadyH.cons rfl ?_ AllReadyH.nil
          intro KK hKK
          go_simp
          refine (CK.out _ kd).mono ?_
          rintro e wx ⟨vx, rfl, hox, hbx⟩
          obtain ⟨ax, cx, hvx⟩ := owns_form hox
          subst hvx
          show KK _ _
          have kk := below_then kd hbx
          have hS1 := HS.out _ kk
          have hcw := HCL.out _ kk
          refine hKK.out _ _ hS1 (fun _ => ?_)
          clear hKK KK
          refine wpAnyH_ready (rs := [7]) (by kernel_rfl) (by simp) ?_
          refine AllReadyH.cons rfl ?_ AllReadyH.nil
          intro KK hKK
          go_simp
          have hS2 := hS1.alloc (.cells #[.slice ax (keysOf l).length cx] 32)
          have hcw := HCA.out _ kk (.cells #[.slice ax (keysOf l).length cx] 32)
          refine hKK.out _ _ hS2 (fun _ => ?_)
          clear hKK KK
          refine wpAnyH_ready (rs := [8]) (by kernel_rfl) (by simp) ?_
          refine AllReadyH.cons rfl ?_ AllReadyH.nil
          intro KK hKK
          refine step_app _ rfl (.tmp 35) (.tmp 38) 48 rfl (w2.heap.size + 2) 32 i1 (.slice none 0 0) 1 24 Tryz.underlying48 hi1 hza1 hzb1 hzc1 rfl (by decide) (.slice aK K.length cK) K.length (K.map (·.1)) (by simp [Act.eval]) ((HRO.out _ kk).alloc _) ⟨_, 0, none⟩ 1 1 [.slice ax (keysOf l).length cx] (by rfl) rfl (cell_one_new _ _ _) (by intro u hu; simp at hu; subst hu; rfl) n3.out n4.out (HSZ.out _ _ kk) ?_
          intro v5 w5 hown5 hg5
          obtain ⟨a5, c5, hv5⟩ := owns_form hown5
          subst hv5
          obtain ⟨hfin, hS5, hfz, hcz⟩ := HFIN.out _ _ _ _ kk hox hown5 hg5
          show KK _ _
          refine hKK.out _ _ hS5 (fun _ => ?_)
          clear hKK KK
          refine takeQ (some 40) (i := 9) (v := ?v6) rfl rfl (by kernel_rfl) (by kernel_rfl) (by kernel_rfl) (fun _ _ _ h => h) (Or.inl ⟨by rfl, ?h6⟩) hS5 ?r6
          case h6 => (intro w hw; obtain ⟨q0, q1, q2, q3, q4⟩ := hw; go_simp; try (with_reducible rfl))
          try simp only [Act.put, List.setIfInBounds_toArray]
          refine takeQ (some 41) (i := 10) (v := ?v7) rfl rfl (by kernel_rfl) (by kernel_rfl) (by kernel_rfl) (fun _ _ _ h => h) (Or.inl ⟨by rfl, ?h7⟩) hS5 ?r7
          case h7 => (intro w hw; obtain ⟨q0, q1, q2, q3, q4⟩ := hw; go_simp; try (with_reducible rfl))
          try simp only [Act.put]
          refine wpAnyH_ready (rs := [11]) (by kernel_rfl) (by simp) ?_
          refine AllReadyH.cons rfl ?_ AllReadyH.nil
          intro KK hKK
          go_simp
          refine hKK.out _ _ hfin.s (fun _ => ?_)
          clear hKK KK
          refine wpAnyH_done (by kernel_rfl) ?_ _
          go_wp2_with fail
          go_meet
          exact ⟨_, _, rfl, hfin⟩
        · intro KK hKK
          go_simp
          refine (CK.out _ kd).mono ?_
          rintro e wx ⟨vx, rfl, hox, hbx⟩
          obtain ⟨ax, cx, hvx⟩ := owns_form hox
          subst hvx
          show KK _ _
          have kk := below_then kd hbx
          have hS1 := HS.out _ kk
          have hcw := HCL.out _ kk
          refine hKK.out _ _ hS1 (fun _ => ?_)
          clear hKK KK
          refine wpAnyH_ready (rs := [4, 7]) (by kernel_rfl) (by simp) ?_
          refine AllReadyH.cons rfl ?_ (AllReadyH.cons rfl ?_ AllReadyH.nil)
          · intro KK hKK
            go_simp
            refine hKK.out _ _ hS1 (fun _ => ?_)
            clear hKK KK
            refine wpAnyH_ready (rs := [7]) (by kernel_rfl) (by simp) ?_
            refine AllReadyH.cons rfl ?_ AllReadyH.nil
            intro KK hKK
            go_simp
            have hS2 := hS1.alloc (.cells #[.slice ax (keysOf l).length cx] 32)
            have hcw := HCA.out _ kk (.cells #[.slice ax (keysOf l).length cx] 32)
            refine hKK.out _ _ hS2 (fun _ => ?_)
            clear hKK KK
            refine wpAnyH_ready (rs := [8]) (by kernel_rfl) (by simp) ?_
            refine AllReadyH.cons rfl ?_ AllReadyH.nil
            intro KK hKK
            refine step_app _ rfl (.tmp 35) (.tmp 38) 48 rfl (w2.heap.size + 2) 32 i1 (.slice none 0 0) 1 24 Tryz.underlying48 hi1 hza1 hzb1 hzc1 rfl (by decide) (.slice aK K.length cK) K.length (K.map (·.1)) (by simp [Act.eval]) ((HRO.out _ kk).alloc _) ⟨_, 0, none⟩ 1 1 [.slice ax (keysOf l).length cx] (by rfl) rfl (cell_one_new _ _ _) (by intro u hu; simp at hu; subst hu; rfl) n3.out n4.out (HSZ.out _ _ kk) ?_
            intro v5 w5 hown5 hg5
            obtain ⟨a5, c5, hv5⟩ := owns_form hown5
            subst hv5
            obtain ⟨hfin, hS5, hfz, hcz⟩ := HFIN.out _ _ _ _ kk hox hown5 hg5
            show KK _ _
            refine hKK.out _ _ hS5 (fun _ => ?_)
            clear hKK KK
            refine takeQ (some 40) (i := 9) (v := ?v8) rfl rfl (by kernel_rfl) (by kernel_rfl) (by kernel_rfl) (fun _ _ _ h => h) (Or.inl ⟨by rfl, ?h8⟩) hS5 ?r8
            case h8 => (intro w hw; obtain ⟨q0, q1, q2, q3, q4⟩ := hw; go_simp; try (with_reducible rfl))
            try simp only [Act.put, List.setIfInBounds_toArray]
            refine takeQ (some 41) (i := 10) (v := ?v9) rfl rfl (by kernel_rfl) (by kernel_rfl) (by kernel_rfl) (fun _ _ _ h => h) (Or.inl ⟨by rfl, ?h9⟩) hS5 ?r9
            case h9 => (intro w hw; obtain ⟨q0, q1, q2, q3, q4⟩ := hw; go_simp; try (with_reducible rfl))
            try simp only [Act.put]
            refine wpAnyH_ready (rs := [11]) (by kernel_rfl) (by simp) ?_
            refine AllReadyH.cons rfl ?_ AllReadyH.nil
            intro KK hKK
            go_simp
            refine hKK.out _ _ hfin.s (fun _ => ?_)
            clear hKK KK
            refine wpAnyH_done (by kernel_rfl) ?_ _
            go_wp2_with fail
            go_meet
            exact ⟨_, _, rfl, hfin⟩
          · intro KK hKK
            go_simp
            have hS2 := hS1.alloc (.cells #[.slice ax (keysOf l).length cx] 32)
            have hcw := HCA.out _ kk (.cells #[.slice ax (keysOf l).length cx] 32)
            refine hKK.out _ _ hS2 (fun _ => ?_)
            clear hKK KK
            refine wpAnyH_ready (rs := [4]) (by kernel_rfl) (by simp) ?_
            refine AllReadyH.cons rfl ?_ AllReadyH.nil
            intro KK hKK
            go_simp
            refine hKK.out _ _ hS2 (fun _ => ?_)
            clear hKK KK
            refine wpAnyH_ready (rs := [8]) (by kernel_rfl) (by simp) ?_
            refine AllReadyH.cons rfl ?_ AllReadyH.nil
            intro KK hKK
            refine step_app _ rfl (.tmp 35) (.tmp 38) 48 rfl (w2.heap.size + 2) 32 i1 (.slice none 0 0) 1 24 Tryz.underlying48 hi1 hza1 hzb1 hzc1 rfl (by decide) (.slice aK K.length cK) K.length (K.map (·.1)) (by simp [Act.eval]) ((HRO.out _ kk).alloc _) ⟨_, 0, none⟩ 1 1 [.slice ax (keysOf l).length cx] (by rfl) rfl (cell_one_new _ _ _) (by intro u hu; simp at hu; subst hu; rfl) n3.out n4.out (HSZ.out _ _ kk) ?_
            intro v5 w5 hown5 hg5
            obtain ⟨a5, c5, hv5⟩ := owns_form hown5
            subst hv5
            obtain ⟨hfin, hS5, hfz, hcz⟩ := HFIN.out _ _ _ _ kk hox hown5 hg5
            show KK _ _
            refine hKK.out _ _ hS5 (fun _ => ?_)
            clear hKK KK
            refine takeQ (some 40) (i := 9) (v := ?v10) rfl rfl (by kernel_rfl) (by kernel_rfl) (by kernel_rfl) (fun _ _ _ h => h) (Or.inl ⟨by rfl, ?h10⟩) hS5 ?r10
            case h10 => (intro w hw; obtain ⟨q0, q1, q2, q3, q4⟩ := hw; go_simp; try (with_reducible rfl))
            try simp only [Act.put, List.setIfInBounds_toArray]
            refine takeQ (some 41) (i := 10) (v := ?v11) rfl rfl (by kernel_rfl) (by kernel_rfl) (by kernel_rfl) (fun _ _ _ h => h) (Or.inl ⟨by rfl, ?h11⟩) hS5 ?r11
            case h11 => (intro w hw; obtain ⟨q0, q1, q2, q3, q4⟩ := hw; go_simp; try (with_reducible rfl))
            try simp only [Act.put]
            refine wpAnyH_ready (rs := [11]) (by kernel_rfl) (by simp) ?_
            refine AllReadyH.cons rfl ?_ AllReadyH.nil
            intro KK hKK
            go_simp
            refine hKK.out _ _ hfin.s (fun _ => ?_)
            clear hKK KK
            refine wpAnyH_done (by kernel_rfl) ?_ _
            go_wp2_with fail
            go_meet
            exact ⟨_, _, rfl, hfin⟩
      case rest =>
        obtain ⟨vk5, vx, rfl, hX5⟩ := hcut
        clear hX hOps1
        have hX := hX5
        clear hX5
        have HRD : Hid (∃ rd, rd = rdFr (wrTo h h.length) (k : Int) (refReads l)) := Lib.hid ⟨_, rfl⟩
        obtain ⟨rd, hrd⟩ := HRD.out
        have HRD2 := Lib.hid hrd
        clear hrd HRD
        go_upto_region 10 with fail
        go_cut [54] from 42 to 54 (fun u wx => ∃ (v5 : Value) (vy : Value), u = .pointer (some ⟨w2.heap.size, 195, none⟩) ∧ OfS w2 gx ts tb tc (.slice a2 l.length cap2) h.length vk5 v5 sd (K ++ [(vx, keysOf l)]) (R ++ [(vy, rd)]) wx)
        case first =>
          have hOps1 := HOPF.out wc hX.b
          have hMc := hM.below hX.b
          have kd := (Below.refl wc.heap.size wc).drew
          have CK : Hid (∀ wx, Below wc.heap.size wc wx → Calls Tryz.prog 47 #[.int .i64 k, .agg #[.int .i64 ts, .int .i64 tb, .int .i64 tc, .slice a2 l.length cap2], .map (some bm)] wx fun e w' => ∃ v, e = .returned v ∧ w'.ownsRow (w2.heap.size + 2) 106 2 v rd.length (frV rd) ∧ Below wx.heap.size wx w') := Lib.hid (fun wx hx => (oreads_any (k : Int) ts tb tc _ l (wrTo h h.length) bm _ _ wx (hOps1.below hx) HOL.out (by omega) (hMc.below hx)).mono (fun e w' ⟨v, out, he, ho, hr, _, hbb⟩ => by
            obtain rfl := hr.eq (refReads_rise HKL.out)
            rw [← HRD2.out] at ho
            exact ⟨v, he, own_base' ho (show w2.heap.size + 2 ≤ wx.heap.size by have h1 := hx.size; have h2 := hX.z; omega), hbb⟩))
          have HS : Hid (∀ wx, Below wc.heap.size wc wx → SB (w2.heap.size + 1) w2.heap.size gx ts tb tc (.slice a2 l.length cap2) wx) := Lib.hid (fun wx hx => hX.s.below hx)
          have hc0 := hX.o.cR
          have HCL : Hid (∀ wx, Below wc.heap.size wc wx → wx.cell? ⟨w2.heap.size, 195, none⟩ = some (.slice aR R.length cR)) := Lib.hid (fun wx hx => (hx.cell (p := ⟨w2.heap.size, 195, none⟩) (block_lt hc0)).trans hc0)
          have HCA : Hid (∀ wx, Below wc.heap.size wc wx → ∀ o, (wx.alloc o).cell? ⟨w2.heap.size, 195, none⟩ = some (.slice aR R.length cR)) := Lib.hid (fun wx hx o => HCL.out _ (hx.alloc hx.size o))
          have HRO : Hid (∀ wx, Below wc.heap.size wc wx → wx.ownsRow (w2.heap.size + 2) 98 1 (.slice aR R.length cR) R.length (R.map (·.1))) := Lib.hid (fun wx hx => owns_below hX.r.rr hx)
          have HSZ : Hid (∀ wx (o : Obj), Below wc.heap.size wc wx → w2.heap.size + 2 ≤ (wx.alloc o).heap.size) := Lib.hid (fun wx o hx => by have h1 := hx.size; have h2 := hX.z; simp; omega)
          have HFIN := Lib.hid (fun wx w5 v v5 hx => hX.addR (wx := wx) (w5 := w5) (v := v) (v5 := v5) (t := 98) (l := rd) hx)
          have n3 : Hid (R.length + 1 ≤ maxLen) := Lib.hid (by unfold maxLen; omega)
          have n4 : Hid ((R.length + 1) * 24 ≤ 140737488355328) := Lib.hid (by omega)
          refine wp_region_held_drew (S := SB (w2.heap.size + 1) w2.heap.size gx ts tb tc (.slice a2 l.length cap2)) (by kernel_rfl) hX.s.drew (fun hS0 => ?_)
          refine takeQ (some 42) (i := 0) (v := ?v101) rfl rfl (by kernel_rfl) (by kernel_rfl) (by kernel_rfl) (fun _ _ _ h => h) (Or.inl ⟨by rfl, ?h101⟩) hS0 ?r101
          case h101 => (intro w hw; obtain ⟨q0, q1, q2, q3, q4⟩ := hw; go_simp; try (with_reducible rfl))
          try simp only [Act.put, List.setIfInBounds_toArray, List.set_cons_zero, List.set_cons_succ]
          refine takeQ (some 43) (i := 1) (v := ?v102) rfl rfl (by kernel_rfl) (by kernel_rfl) (by kernel_rfl) (fun _ _ _ h => h) (Or.inl ⟨by rfl, ?h102⟩) hS0 ?r102
          case h102 => (intro w hw; obtain ⟨q0, q1, q2, q3, q4⟩ := hw; go_simp; try (with_reducible rfl))
          try simp only [Act.put, List.setIfInBounds_toArray, List.set_cons_zero, List.set_cons_succ]
          refine takeQ (some 47) (i := 5) (v := ?v103) rfl rfl (by kernel_rfl) (by kernel_rfl) (by kernel_rfl) (fun _ _ _ h => h) (Or.inl ⟨by rfl, ?h103⟩) hS0 ?r103
          case h103 => (intro w hw; obtain ⟨q0, q1, q2, q3, q4⟩ := hw; go_simp; try (with_reducible rfl))
          try simp only [Act.put, List.setIfInBounds_toArray, List.set_cons_zero, List.set_cons_succ]
          refine takeQ (some 48) (i := 6) (v := ?v104) rfl rfl (by kernel_rfl) (by kernel_rfl) (by kernel_rfl) (fun _ _ _ h => h) (Or.inl ⟨by rfl, ?h104⟩) hS0 ?r104
          case h104 => (intro w hw; obtain ⟨q0, q1, q2, q3, q4⟩ := hw; go_simp; try (with_reducible rfl))
          try simp only [Act.put, List.setIfInBounds_toArray, List.set_cons_zero, List.set_cons_succ]
          refine takeQ (some 49) (i := 7) (v := ?v105) rfl rfl (by kernel_rfl) (by kernel_rfl) (by kernel_rfl) (fun _ _ _ h => h) (Or.inl ⟨by rfl, ?h105⟩) hS0 ?r105
          case h105 => (intro w hw; obtain ⟨q0, q1, q2, q3, q4⟩ := hw; go_simp; try (with_reducible rfl))
          try simp only [Act.put, List.setIfInBounds_toArray, List.set_cons_zero, List.set_cons_succ]
          refine takeQ (some 44) (i := 2) (v := ?v106) rfl rfl (by kernel_rfl) (by kernel_rfl) (by kernel_rfl) (fun _ _ _ h => h) (Or.inl ⟨by rfl, ?h106⟩) hS0 ?r106
          case h106 => (intro w hw; obtain ⟨q0, q1, q2, q3, q4⟩ := hw; go_simp; try (with_reducible rfl))
          try simp only [Act.put, List.setIfInBounds_toArray, List.set_cons_zero, List.set_cons_succ]
          refine takeQ (some 45) (i := 3) (v := ?v107) rfl rfl (by kernel_rfl) (by kernel_rfl) (by kernel_rfl) (fun _ _ _ h => h) (Or.inl ⟨by rfl, ?h107⟩) hS0 ?r107
          case h107 => (intro w hw; obtain ⟨q0, q1, q2, q3, q4⟩ := hw; go_simp; try (with_reducible rfl))
          try simp only [Act.put, List.setIfInBounds_toArray, List.set_cons_zero, List.set_cons_succ]
          refine wpAnyH_ready (rs := [4, 8]) (by kernel_rfl) (by simp) ?_
          refine AllReadyH.cons rfl ?_ (AllReadyH.cons rfl ?_ AllReadyH.nil)
          · intro KK hKK
            go_simp
            refine hKK.out _ _ hS0 (fun _ => ?_)
            clear hKK KK
            refine wpAnyH_ready (rs := [8]) (by kernel_rfl) (by simp) ?_
            refine AllReadyH.cons rfl ?_ AllReadyH.nil
            intro KK hKK
            go_simp
            refine (CK.out _ kd).mono ?_
            rintro e wx ⟨vx, rfl, hox, hbx⟩
            obtain ⟨ax, cx, hvx⟩ := owns_form hox
            subst hvx
            show KK _ _
            have kk := below_then kd hbx
            have hS1 := HS.out _ kk
            have hcw := HCL.out _ kk
            refine hKK.out _ _ hS1 (fun _ => ?_)
            clear hKK KK
            refine wpAnyH_ready (rs := [9]) (by kernel_rfl) (by simp) ?_
            refine AllReadyH.cons rfl ?_ AllReadyH.nil
            intro KK hKK
            go_simp
            have hS2 := hS1.alloc (.cells #[.slice ax rd.length cx] 98)
            have hcw := HCA.out _ kk (.cells #[.slice ax rd.length cx] 98)
            refine hKK.out _ _ hS2 (fun _ => ?_)
            clear hKK KK
            refine wpAnyH_ready (rs := [10]) (by kernel_rfl) (by simp) ?_
            refine AllReadyH.cons rfl ?_ AllReadyH.nil
            intro KK hKK
            refine step_app _ rfl (.tmp 46) (.tmp 51) 74 rfl (w2.heap.size + 2) 98 i2 (.slice none 0 0) 1 24 Tryz.underlying74 hi2 hza2 hzb2 hzc2 rfl (by decide) (.slice aR R.length cR) R.length (R.map (·.1)) (by simp [Act.eval]) ((HRO.out _ kk).alloc _) ⟨_, 0, none⟩ 1 1 [.slice ax rd.length cx] (by rfl) rfl (cell_one_new _ _ _) (by intro u hu; simp at hu; subst hu; rfl) n3.out n4.out (HSZ.out _ _ kk) ?_
            intro v5 w5 hown5 hg5
            obtain ⟨a5, c5, hv5⟩ := owns_form hown5
            subst hv5
            obtain ⟨hfin, hS5, hfz, hcz⟩ := HFIN.out _ _ _ _ kk hox hown5 hg5
            show KK _ _
            refine hKK.out _ _ hS5 (fun _ => ?_)
            clear hKK KK
            refine takeQ (some 53) (i := 11) (v := ?v108) rfl rfl (by kernel_rfl) (by kernel_rfl) (by kernel_rfl) (fun _ _ _ h => h) (Or.inl ⟨by rfl, ?h108⟩) hS5 ?r108
            case h108 => (intro w hw; obtain ⟨q0, q1, q2, q3, q4⟩ := hw; go_simp; try (with_reducible rfl))
            try simp only [Act.put, List.setIfInBounds_toArray]
            refine takeQ (some 54) (i := 12) (v := ?v109) rfl rfl (by kernel_rfl) (by kernel_rfl) (by kernel_rfl) (fun _ _ _ h => h) (Or.inl ⟨by rfl, ?h109⟩) hS5 ?r109
            case h109 => (intro w hw; obtain ⟨q0, q1, q2, q3, q4⟩ := hw; go_simp; try (with_reducible rfl))
            try simp only [Act.put]
            refine wpAnyH_ready (rs := [13]) (by kernel_rfl) (by simp) ?_
            refine AllReadyH.cons rfl ?_ AllReadyH.nil
            intro KK hKK
            go_simp
            refine hKK.out _ _ hfin.s (fun _ => ?_)
            clear hKK KK
            refine wpAnyH_done (by kernel_rfl) ?_ _
            go_wp2_with fail
            go_meet
            exact ⟨_, _, rfl, hfin⟩
          · intro KK hKK
            go_simp
            refine (CK.out _ kd).mono ?_
            rintro e wx ⟨vx, rfl, hox, hbx⟩
            obtain ⟨ax, cx, hvx⟩ := owns_form hox
            subst hvx
            show KK _ _
            have kk := below_then kd hbx
            have hS1 := HS.out _ kk
            have hcw := HCL.out _ kk
            refine hKK.out _ _ hS1 (fun _ => ?_)
            clear hKK KK
            refine wpAnyH_ready (rs := [4, 9]) (by kernel_rfl) (by simp) ?_
            refine AllReadyH.cons rfl ?_ (AllReadyH.cons rfl ?_ AllReadyH.nil)
            · intro KK hKK
              go_simp
              refine hKK.out _ _ hS1 (fun _ => ?_)
              clear hKK KK
              refine wpAnyH_ready (rs := [9]) (by kernel_rfl) (by simp) ?_
              refine AllReadyH.cons rfl ?_ AllReadyH.nil
              intro KK hKK
              go_simp
              have hS2 := hS1.alloc (.cells #[.slice ax rd.length cx] 98)
              have hcw := HCA.out _ kk (.cells #[.slice ax rd.length cx] 98)
              refine hKK.out _ _ hS2 (fun _ => ?_)
              clear hKK KK
              refine wpAnyH_ready (rs := [10]) (by kernel_rfl) (by simp) ?_
              refine AllReadyH.cons rfl ?_ AllReadyH.nil
              intro KK hKK
              refine step_app _ rfl (.tmp 46) (.tmp 51) 74 rfl (w2.heap.size + 2) 98 i2 (.slice none 0 0) 1 24 Tryz.underlying74 hi2 hza2 hzb2 hzc2 rfl (by decide) (.slice aR R.length cR) R.length (R.map (·.1)) (by simp [Act.eval]) ((HRO.out _ kk).alloc _) ⟨_, 0, none⟩ 1 1 [.slice ax rd.length cx] (by rfl) rfl (cell_one_new _ _ _) (by intro u hu; simp at hu; subst hu; rfl) n3.out n4.out (HSZ.out _ _ kk) ?_
              intro v5 w5 hown5 hg5
              obtain ⟨a5, c5, hv5⟩ := owns_form hown5
              subst hv5
              obtain ⟨hfin, hS5, hfz, hcz⟩ := HFIN.out _ _ _ _ kk hox hown5 hg5
              show KK _ _
              refine hKK.out _ _ hS5 (fun _ => ?_)
              clear hKK KK
              refine takeQ (some 53) (i := 11) (v := ?v110) rfl rfl (by kernel_rfl) (by kernel_rfl) (by kernel_rfl) (fun _ _ _ h => h) (Or.inl ⟨by rfl, ?h110⟩) hS5 ?r110
              case h110 => (intro w hw; obtain ⟨q0, q1, q2, q3, q4⟩ := hw; go_simp; try (with_reducible rfl))
              try simp only [Act.put, List.setIfInBounds_toArray]
              refine takeQ (some 54) (i := 12) (v := ?v111) rfl rfl (by kernel_rfl) (by kernel_rfl) (by kernel_rfl) (fun _ _ _ h => h) (Or.inl ⟨by rfl, ?h111⟩) hS5 ?r111
              case h111 => (intro w hw; obtain ⟨q0, q1, q2, q3, q4⟩ := hw; go_simp; try (with_reducible rfl))
              try simp only [Act.put]
              refine wpAnyH_ready (rs := [13]) (by kernel_rfl) (by simp) ?_
              refine AllReadyH.cons rfl ?_ AllReadyH.nil
              intro KK hKK
              go_simp
              refine hKK.out _ _ hfin.s (fun _ => ?_)
              clear hKK KK
              refine wpAnyH_done (by kernel_rfl) ?_ _
              go_wp2_with fail
              go_meet
              exact ⟨_, _, rfl, hfin⟩
            · intro KK hKK
              go_simp
              have hS2 := hS1.alloc (.cells #[.slice ax rd.length cx] 98)
              have hcw := HCA.out _ kk (.cells #[.slice ax rd.length cx] 98)
              refine hKK.out _ _ hS2 (fun _ => ?_)
              clear hKK KK
              refine wpAnyH_ready (rs := [4]) (by kernel_rfl) (by simp) ?_
              refine AllReadyH.cons rfl ?_ AllReadyH.nil
              intro KK hKK
              go_simp
              refine hKK.out _ _ hS2 (fun _ => ?_)
              clear hKK KK
              refine wpAnyH_ready (rs := [10]) (by kernel_rfl) (by simp) ?_
              refine AllReadyH.cons rfl ?_ AllReadyH.nil
              intro KK hKK
              refine step_app _ rfl (.tmp 46) (.tmp 51) 74 rfl (w2.heap.size + 2) 98 i2 (.slice none 0 0) 1 24 Tryz.underlying74 hi2 hza2 hzb2 hzc2 rfl (by decide) (.slice aR R.length cR) R.length (R.map (·.1)) (by simp [Act.eval]) ((HRO.out _ kk).alloc _) ⟨_, 0, none⟩ 1 1 [.slice ax rd.length cx] (by rfl) rfl (cell_one_new _ _ _) (by intro u hu; simp at hu; subst hu; rfl) n3.out n4.out (HSZ.out _ _ kk) ?_
              intro v5 w5 hown5 hg5
              obtain ⟨a5, c5, hv5⟩ := owns_form hown5
              subst hv5
              obtain ⟨hfin, hS5, hfz, hcz⟩ := HFIN.out _ _ _ _ kk hox hown5 hg5
              show KK _ _
              refine hKK.out _ _ hS5 (fun _ => ?_)
              clear hKK KK
              refine takeQ (some 53) (i := 11) (v := ?v112) rfl rfl (by kernel_rfl) (by kernel_rfl) (by kernel_rfl) (fun _ _ _ h => h) (Or.inl ⟨by rfl, ?h112⟩) hS5 ?r112
              case h112 => (intro w hw; obtain ⟨q0, q1, q2, q3, q4⟩ := hw; go_simp; try (with_reducible rfl))
              try simp only [Act.put, List.setIfInBounds_toArray]
              refine takeQ (some 54) (i := 12) (v := ?v113) rfl rfl (by kernel_rfl) (by kernel_rfl) (by kernel_rfl) (fun _ _ _ h => h) (Or.inl ⟨by rfl, ?h113⟩) hS5 ?r113
              case h113 => (intro w hw; obtain ⟨q0, q1, q2, q3, q4⟩ := hw; go_simp; try (with_reducible rfl))
              try simp only [Act.put]
              refine wpAnyH_ready (rs := [13]) (by kernel_rfl) (by simp) ?_
              refine AllReadyH.cons rfl ?_ AllReadyH.nil
              intro KK hKK
              go_simp
              refine hKK.out _ _ hfin.s (fun _ => ?_)
              clear hKK KK
              refine wpAnyH_done (by kernel_rfl) ?_ _
              go_wp2_with fail
              go_meet
              exact ⟨_, _, rfl, hfin⟩
        case rest =>
          obtain ⟨vr5, vy, rfl, hX5⟩ := hcut
          clear hX
          have hX := hX5
          clear hX5
          have hOps1 := HOPF.out wc hX.b
          have hMc := hM.below hX.b
          have kd := (Below.refl wc.heap.size wc).drew
          have HSO : Hid (∃ so, so = (!(refReads l).any (badFr (wrTo h h.length) (k : Int)) && steadyL l)) := Lib.hid ⟨_, rfl⟩
          obtain ⟨so, hso⟩ := HSO.out
          have HSO2 := Lib.hid hso
          clear hso HSO
          have CK : Hid (∀ wx, Below wc.heap.size wc wx → Calls Tryz.prog 48 #[.int .i64 k, .agg #[.int .i64 ts, .int .i64 tb, .int .i64 tc, .slice a2 l.length cap2], .map (some bm)] wx fun e w' => e = .returned (.bool so) ∧ Below wx.heap.size wx w') := Lib.hid (fun wx hx => (osound_any (k : Int) ts tb tc _ l (wrTo h h.length) bm _ _ wx (hOps1.below hx) HOL.out (by omega) (hMc.below hx)).mono (fun e w' ⟨out, he, hr, _, hbb⟩ => by
            obtain rfl := hr.eq (refReads_rise HKL.out)
            rw [← HSO2.out] at he
            exact ⟨he, hbb⟩))
          have HK0 : Hid ((K ++ [(vx, keysOf l)]).map (·.2) = keysTo h (k + 1) ∧ (R ++ [(vy, rd)]).map (·.2) = readsTo h (k + 1) ∧ (sd && so) = soundTo h (k + 1)) := Lib.hid (by
            refine ⟨?_, ?_, ?_⟩
            · rw [List.map_append, keysTo_succ, ← HK.out.1, HLK.out]; rfl
            · rw [List.map_append, readsTo_succ, ← HK.out.2.1]
              unfold readsOf
              rw [HLK.out, ← HRD2.out]; rfl
            · rw [soundTo_succ, ← HK.out.2.2]
              unfold soundOf
              rw [HLK.out, ← HSO2.out])
          go_upto_region 11 with fail
          cases sd
          · have HK1 : Hid ((K ++ [(vx, keysOf l)]).map (·.2) = keysTo h (k + 1) ∧ (R ++ [(vy, rd)]).map (·.2) = readsTo h (k + 1) ∧ false = soundTo h (k + 1)) := Lib.hid HK0.out
            clear HK0
            refine wp_region_held_drew (S := SB (w2.heap.size + 1) w2.heap.size gx ts tb tc (.slice a2 l.length cap2)) (by kernel_rfl) hX.s.drew (fun hS0 => ?_)
            have hc0 := hX.o.cS
            refine takeQ (some 55) (i := 0) (v := ?v201) rfl rfl (by kernel_rfl) (by kernel_rfl) (by kernel_rfl) (fun _ _ _ h => h) (Or.inl ⟨by rfl, ?h201⟩) hS0 ?r201
            case h201 => (intro w hw; obtain ⟨q0, q1, q2, q3, q4⟩ := hw; go_simp; try (with_reducible rfl))
            try simp only [Act.put, List.setIfInBounds_toArray, List.set_cons_zero, List.set_cons_succ]
            refine takeQ (some 56) (i := 1) (v := ?v202) rfl rfl (by kernel_rfl) (by kernel_rfl) (by kernel_rfl) (fun _ _ _ h => h) (Or.inl ⟨by rfl, ?h202⟩) hS0 ?r202
            case h202 => (intro w hw; obtain ⟨q0, q1, q2, q3, q4⟩ := hw; go_simp; try (with_reducible rfl))
            try simp only [Act.put, List.setIfInBounds_toArray, List.set_cons_zero, List.set_cons_succ]
            refine takeQ (some 57) (i := 2) (v := ?v203) rfl rfl (by kernel_rfl) (by kernel_rfl) (by kernel_rfl) (fun _ _ _ h => h) (Or.inl ⟨by rfl, ?h203⟩) hS0 ?r203
            case h203 => (intro w hw; obtain ⟨q0, q1, q2, q3, q4⟩ := hw; go_simp; try (with_reducible rfl))
            try simp only [Act.put, List.setIfInBounds_toArray, List.set_cons_zero, List.set_cons_succ]
            refine takeQ (some 58) (i := 3) (v := ?v204) rfl rfl (by kernel_rfl) (by kernel_rfl) (by kernel_rfl) (fun _ _ _ h => h) (Or.inl ⟨by rfl, ?h204⟩) hS0 ?r204
            case h204 => (intro w hw; obtain ⟨q0, q1, q2, q3, q4⟩ := hw; go_simp; try (with_reducible rfl))
            try simp only [Act.put, List.setIfInBounds_toArray, List.set_cons_zero, List.set_cons_succ]
            refine wpAnyH_ready (rs := [4]) (by kernel_rfl) (by simp) ?_
            refine AllReadyH.cons rfl ?_ AllReadyH.nil
            intro KK hKK
            go_simp
            refine hKK.out _ _ hS0 (fun _ => ?_)
            clear hKK KK
            refine takeQ (some 60) (i := 5) (v := ?v205) rfl rfl (by kernel_rfl) (by kernel_rfl) (by kernel_rfl) (fun _ _ _ h => h) (Or.inl ⟨by rfl, ?h205⟩) hS0 ?r205
            case h205 => (intro w hw; obtain ⟨q0, q1, q2, q3, q4⟩ := hw; go_simp; try (with_reducible rfl))
            try simp only [Act.put, List.setIfInBounds_toArray, List.set_cons_zero, List.set_cons_succ]
            refine takeQ (some 61) (i := 6) (v := undef) rfl rfl (by kernel_rfl) (by kernel_rfl) (by kernel_rfl) (fun _ _ _ h => h) (Or.inr ⟨by rfl, rfl⟩) hS0 ?_
            try simp only [Act.put, List.setIfInBounds_toArray, List.set_cons_zero, List.set_cons_succ]
            refine takeQ (some 62) (i := 7) (v := undef) rfl rfl (by kernel_rfl) (by kernel_rfl) (by kernel_rfl) (fun _ _ _ h => h) (Or.inr ⟨by rfl, rfl⟩) hS0 ?_
            try simp only [Act.put, List.setIfInBounds_toArray, List.set_cons_zero, List.set_cons_succ]
            refine takeQ (some 63) (i := 8) (v := undef) rfl rfl (by kernel_rfl) (by kernel_rfl) (by kernel_rfl) (fun _ _ _ h => h) (Or.inr ⟨by rfl, rfl⟩) hS0 ?_
            try simp only [Act.put, List.setIfInBounds_toArray, List.set_cons_zero, List.set_cons_succ]
            refine wpAnyH_ready (rs := [9]) (by kernel_rfl) (by simp) ?_
            refine AllReadyH.cons rfl ?_ AllReadyH.nil
            intro KK hKK
            go_simp
            have hY := hX.below kd
            have hf := hY.o.free (i := 196) (by omega)
            have hc := hY.o.cS
            refine hKK.out _ _ hS0 (fun _ => ?_)
            clear hKK KK
            refine takeQ (some 65) (i := 10) (v := ?v206) rfl rfl (by kernel_rfl) (by kernel_rfl) (by kernel_rfl) (fun _ _ _ h => h) (Or.inl ⟨by rfl, ?h206⟩) hS0 ?r206
            case h206 => (intro w hw; obtain ⟨q0, q1, q2, q3, q4⟩ := hw; go_simp; try (with_reducible rfl))
            try simp only [Act.put, List.setIfInBounds_toArray, List.set_cons_zero, List.set_cons_succ]
            refine takeQ (some 66) (i := 11) (v := ?v207) rfl rfl (by kernel_rfl) (by kernel_rfl) (by kernel_rfl) (fun _ _ _ h => h) (Or.inl ⟨by rfl, ?h207⟩) hS0 ?r207
            case h207 => (intro w hw; obtain ⟨q0, q1, q2, q3, q4⟩ := hw; go_simp; try (with_reducible rfl))
            try simp only [Act.put, List.setIfInBounds_toArray, List.set_cons_zero, List.set_cons_succ]
            refine takeQ (some 67) (i := 12) (v := ?v208) rfl rfl (by kernel_rfl) (by kernel_rfl) (by kernel_rfl) (fun _ _ _ h => h) (Or.inl ⟨by rfl, ?h208⟩) hS0 ?r208
            case h208 => (intro w hw; obtain ⟨q0, q1, q2, q3, q4⟩ := hw; go_simp; try (with_reducible rfl))
            try simp only [Act.put, List.setIfInBounds_toArray, List.set_cons_zero, List.set_cons_succ]
            refine wpAnyH_ready (rs := [13]) (by kernel_rfl) (by simp) ?_
            refine AllReadyH.cons rfl ?_ AllReadyH.nil
            intro KK hKK
            go_simp
            have hZ := hY.setS false
            refine hKK.out _ _ hZ.s (fun _ => ?_)
            clear hKK KK
            refine wpAnyH_done (by kernel_rfl) ?_ _
            clear hX hY CK kd hc hf hS0
            go_wp2_with fail
            go_roundw
            case rel => exact ⟨k + 1, _, _, _, _, _, by omega, by go_num, HK1.out.1, HK1.out.2.1, HK1.out.2.2, hZ.o, hZ.s.1, hZ.r, hZ.b, hZ.z⟩
            case measure => simp [intOf]; omega
          · have HK1 : Hid ((K ++ [(vx, keysOf l)]).map (·.2) = keysTo h (k + 1) ∧ (R ++ [(vy, rd)]).map (·.2) = readsTo h (k + 1) ∧ so = soundTo h (k + 1)) := Lib.hid HK0.out
            clear HK0
            refine wp_region_held_drew (S := SB (w2.heap.size + 1) w2.heap.size gx ts tb tc (.slice a2 l.length cap2)) (by kernel_rfl) hX.s.drew (fun hS0 => ?_)
            have hc0 := hX.o.cS
            refine takeQ (some 55) (i := 0) (v := ?v301) rfl rfl (by kernel_rfl) (by kernel_rfl) (by kernel_rfl) (fun _ _ _ h => h) (Or.inl ⟨by rfl, ?h301⟩) hS0 ?r301
            case h301 => (intro w hw; obtain ⟨q0, q1, q2, q3, q4⟩ := hw; go_simp; try (with_reducible rfl))
            try simp only [Act.put, List.setIfInBounds_toArray, List.set_cons_zero, List.set_cons_succ]
            refine takeQ (some 56) (i := 1) (v := ?v302) rfl rfl (by kernel_rfl) (by kernel_rfl) (by kernel_rfl) (fun _ _ _ h => h) (Or.inl ⟨by rfl, ?h302⟩) hS0 ?r302
            case h302 => (intro w hw; obtain ⟨q0, q1, q2, q3, q4⟩ := hw; go_simp; try (with_reducible rfl))
            try simp only [Act.put, List.setIfInBounds_toArray, List.set_cons_zero, List.set_cons_succ]
            refine takeQ (some 57) (i := 2) (v := ?v303) rfl rfl (by kernel_rfl) (by kernel_rfl) (by kernel_rfl) (fun _ _ _ h => h) (Or.inl ⟨by rfl, ?h303⟩) hS0 ?r303
            case h303 => (intro w hw; obtain ⟨q0, q1, q2, q3, q4⟩ := hw; go_simp; try (with_reducible rfl))
            try simp only [Act.put, List.setIfInBounds_toArray, List.set_cons_zero, List.set_cons_succ]
            refine takeQ (some 58) (i := 3) (v := ?v304) rfl rfl (by kernel_rfl) (by kernel_rfl) (by kernel_rfl) (fun _ _ _ h => h) (Or.inl ⟨by rfl, ?h304⟩) hS0 ?r304
            case h304 => (intro w hw; obtain ⟨q0, q1, q2, q3, q4⟩ := hw; go_simp; try (with_reducible rfl))
            try simp only [Act.put, List.setIfInBounds_toArray, List.set_cons_zero, List.set_cons_succ]
            refine wpAnyH_ready (rs := [4]) (by kernel_rfl) (by simp) ?_
            refine AllReadyH.cons rfl ?_ AllReadyH.nil
            intro KK hKK
            go_simp
            refine hKK.out _ _ hS0 (fun _ => ?_)
            clear hKK KK
            refine takeQ (some 60) (i := 5) (v := ?v305) rfl rfl (by kernel_rfl) (by kernel_rfl) (by kernel_rfl) (fun _ _ _ h => h) (Or.inl ⟨by rfl, ?h305⟩) hS0 ?r305
            case h305 => (intro w hw; obtain ⟨q0, q1, q2, q3, q4⟩ := hw; go_simp; try (with_reducible rfl))
            try simp only [Act.put, List.setIfInBounds_toArray, List.set_cons_zero, List.set_cons_succ]
            refine takeQ (some 61) (i := 6) (v := ?v306) rfl rfl (by kernel_rfl) (by kernel_rfl) (by kernel_rfl) (fun _ _ _ h => h) (Or.inl ⟨by rfl, ?h306⟩) hS0 ?r306
            case h306 => (intro w hw; obtain ⟨q0, q1, q2, q3, q4⟩ := hw; go_simp; try (with_reducible rfl))
            try simp only [Act.put, List.setIfInBounds_toArray, List.set_cons_zero, List.set_cons_succ]
            refine takeQ (some 62) (i := 7) (v := ?v307) rfl rfl (by kernel_rfl) (by kernel_rfl) (by kernel_rfl) (fun _ _ _ h => h) (Or.inl ⟨by rfl, ?h307⟩) hS0 ?r307
            case h307 => (intro w hw; obtain ⟨q0, q1, q2, q3, q4⟩ := hw; go_simp; try (with_reducible rfl))
            try simp only [Act.put, List.setIfInBounds_toArray, List.set_cons_zero, List.set_cons_succ]
            refine takeQ (some 63) (i := 8) (v := ?v308) rfl rfl (by kernel_rfl) (by kernel_rfl) (by kernel_rfl) (fun _ _ _ h => h) (Or.inl ⟨by rfl, ?h308⟩) hS0 ?r308
            case h308 => (intro w hw; obtain ⟨q0, q1, q2, q3, q4⟩ := hw; go_simp; try (with_reducible rfl))
            try simp only [Act.put, List.setIfInBounds_toArray, List.set_cons_zero, List.set_cons_succ]
            refine wpAnyH_ready (rs := [9]) (by kernel_rfl) (by simp) ?_
            refine AllReadyH.cons rfl ?_ AllReadyH.nil
            intro KK hKK
            go_simp
            refine (CK.out _ kd).mono ?_
            rintro e wx ⟨rfl, hbx⟩
            show KK _ _
            have kk := below_then kd hbx
            have hY := hX.below kk
            have hf := hY.o.free (i := 196) (by omega)
            have hc := hY.o.cS
            refine hKK.out _ _ hY.s (fun _ => ?_)
            clear hKK KK
            refine takeQ (some 65) (i := 10) (v := ?v309) rfl rfl (by kernel_rfl) (by kernel_rfl) (by kernel_rfl) (fun _ _ _ h => h) (Or.inl ⟨by rfl, ?h309⟩) hY.s ?r309
            case h309 => (intro w hw; obtain ⟨q0, q1, q2, q3, q4⟩ := hw; go_simp; try (with_reducible rfl))
            try simp only [Act.put, List.setIfInBounds_toArray, List.set_cons_zero, List.set_cons_succ]
            refine takeQ (some 66) (i := 11) (v := ?v310) rfl rfl (by kernel_rfl) (by kernel_rfl) (by kernel_rfl) (fun _ _ _ h => h) (Or.inl ⟨by rfl, ?h310⟩) hY.s ?r310
            case h310 => (intro w hw; obtain ⟨q0, q1, q2, q3, q4⟩ := hw; go_simp; try (with_reducible rfl))
            try simp only [Act.put, List.setIfInBounds_toArray, List.set_cons_zero, List.set_cons_succ]
            refine takeQ (some 67) (i := 12) (v := ?v311) rfl rfl (by kernel_rfl) (by kernel_rfl) (by kernel_rfl) (fun _ _ _ h => h) (Or.inl ⟨by rfl, ?h311⟩) hY.s ?r311
            case h311 => (intro w hw; obtain ⟨q0, q1, q2, q3, q4⟩ := hw; go_simp; try (with_reducible rfl))
            try simp only [Act.put, List.setIfInBounds_toArray, List.set_cons_zero, List.set_cons_succ]
            refine wpAnyH_ready (rs := [13]) (by kernel_rfl) (by simp) ?_
            refine AllReadyH.cons rfl ?_ AllReadyH.nil
            intro KK hKK
            go_simp
            have hZ := hY.setS so
            refine hKK.out _ _ hZ.s (fun _ => ?_)
            clear hKK KK
            refine wpAnyH_done (by kernel_rfl) ?_ _
            clear hX hY CK kd hc hf hS0 kk hbx
            go_wp2_with fail
            go_roundw
            case rel => exact ⟨k + 1, _, _, _, _, _, by omega, by go_num, HK1.out.1, HK1.out.2.1, HK1.out.2.2, hZ.o, hZ.s.1, hZ.r, hZ.b, hZ.z⟩
            case measure => simp [intOf]; omega
    · have hkl : k = h.length := by omega
      subst hkl
      have hA4 := (hb.cell (p := ⟨w.heap.size, 0, none⟩) hlt).trans hA2
      have hbw := below_then hb4 hb
      have hX : OfT w2 w.heap.size (.slice ao h.length cap) h.length noR noR noR (.map none) vk vr sd K R wr := ⟨hO, ⟨hC, hA4⟩, hF, hb, hlt⟩
      have hKl : K.length ≤ 64 := by have := congrArg List.length HK.out.1; simp [keysTo] at this; omega
      obtain ⟨aK, cK, rfl⟩ := owns_form hX.r.kr
      obtain ⟨aR, cR, rfl⟩ := owns_form hX.r.rr
      have HKE : Hid (∀ p ∈ K, p.2.length ≤ 64 ∧ ∀ x ∈ p.2, InI x) := Lib.hid (fun p hp => by
        have hm : p.2 ∈ keysTo h h.length := by rw [← HK.out.1]; exact List.mem_map.2 ⟨p, hp, rfl⟩
        unfold keysTo at hm
        obtain ⟨i, hi, he⟩ := List.mem_map.1 hm
        have hil := List.mem_range.1 hi
        rw [← he]
        unfold keysOf
        refine ⟨by rw [List.length_map]; exact upTo_len _ 64, fun x hx => ?_⟩
        obtain ⟨q, hq, rfl⟩ := List.mem_map.1 hx
        have hq2 := lastW_key ((((refWrites_rise (by rw [opsAt_eq hil]; exact HKS.out _ (List.getElem_mem hil))).2 q).1 hq).1)
        exact inI_of (((HOK.out _ (List.getElem_mem hil)).2 q (by rw [← opsAt_eq hil]; exact hq2.2.2)).1))
      have kd := (Below.refl wr.heap.size wr).drew
      have CWR : Hid (∀ wx, Below wr.heap.size wr wx → Calls Tryz.prog 49 #[.slice aK K.length cK] wx fun e w' => ∃ b n c, e = .returned (.map (some b)) ∧ wx.heap.size ≤ b ∧ MapI eS Tryz.prog 3 w' b n (wrsTo K K.length) c ∧ AllSet (wrsTo K K.length) ∧ Below wx.heap.size wx w') := Lib.hid (fun wx hx => owriters_any _ K wx ((hX.r.below hx).rws) (by omega) (fun p hp => by have := (HKE.out p hp).1; omega) (fun p hp => (HKE.out p hp).2))
      have hmf : ∀ (fn : Fn) (first cap : Array Value) (w : World), (Instr.makeFunc fn first cap).run Tryz.prog w = .ok (.func fn first cap) w := fun _ _ _ _ => rfl
      clear hO hC hF hb hA4 hbw
      go_wp2_with fail
      refine wp_region_held_drew (S := SA (w2.heap.size + 1) w2.heap.size w.heap.size (.slice ao h.length cap)) (by kernel_rfl) hX.drew.s (fun hS0 => ?_)
      have hc0 := hX.o.cK
      refine takeQ (some 69) (i := 0) (v := ?v401) rfl rfl (by kernel_rfl) (by kernel_rfl) (by kernel_rfl) (fun _ _ _ h => h) (Or.inl ⟨by rfl, ?h401⟩) hS0 ?r401
      case h401 => (intro w hw; obtain ⟨q0, q1⟩ := hw; go_simp; try (with_reducible rfl))
      try simp only [Act.put, List.setIfInBounds_toArray, List.set_cons_zero, List.set_cons_succ]
      refine takeQ (some 70) (i := 1) (v := ?v402) rfl rfl (by kernel_rfl) (by kernel_rfl) (by kernel_rfl) (fun _ _ _ h => h) (Or.inl ⟨by rfl, ?h402⟩) hS0 ?r402
      case h402 => (intro w hw; obtain ⟨q0, q1⟩ := hw; go_simp; try (with_reducible rfl))
      try simp only [Act.put, List.setIfInBounds_toArray, List.set_cons_zero, List.set_cons_succ]
      refine takeQ (some 71) (i := 2) (v := ?v403) rfl rfl (by kernel_rfl) (by kernel_rfl) (by kernel_rfl) (fun _ _ _ h => h) (Or.inl ⟨by rfl, ?h403⟩) hS0 ?r403
      case h403 => (intro w hw; obtain ⟨q0, q1⟩ := hw; go_simp; try (with_reducible rfl))
      try simp only [Act.put, List.setIfInBounds_toArray, List.set_cons_zero, List.set_cons_succ]
      refine takeQ (some 72) (i := 3) (v := ?v404) rfl rfl (by kernel_rfl) (by kernel_rfl) (by kernel_rfl) (fun _ _ _ h => h) (Or.inl ⟨by rfl, ?h404⟩) hS0 ?r404
      case h404 => (intro w hw; obtain ⟨q0, q1⟩ := hw; go_simp; try (with_reducible rfl))
      try simp only [Act.put, List.setIfInBounds_toArray, List.set_cons_zero, List.set_cons_succ]
      refine wpAnyH_ready (rs := [4]) (by kernel_rfl) (by simp) ?_
      refine AllReadyH.cons rfl ?_ AllReadyH.nil
      intro KK hKK
      go_simp
      refine hKK.out _ _ hS0 (fun _ => ?_)
      clear hKK KK
      refine wpAnyH_ready (rs := [5]) (by kernel_rfl) (by simp) ?_
      refine AllReadyH.cons rfl ?_ AllReadyH.nil
      intro KK hKK
      go_simp
      refine (CWR.out _ kd).mono ?_
      rintro e wx ⟨bw, nw, cw, rfl, hbw, hMw, hAw, hbx⟩
      show KK _ _
      have hY := hX.below (below_then kd hbx)
      have hbB : w2.heap.size < bw := by have h1 := hX.b.size; have h2 := hX.o.lt; have h3 := kd.size; omega
      have hf := hY.o.free (i := 193) (by omega)
      have hc := hY.o.cM
      refine hKK.out _ _ hY.s (fun _ => ?_)
      clear hKK KK
      refine takeQ (some 75) (i := 6) (v := ?v405) rfl rfl (by kernel_rfl) (by kernel_rfl) (by kernel_rfl) (fun _ _ _ h => h) (Or.inl ⟨by rfl, ?h405⟩) hY.s ?r405
      case h405 => (intro w hw; obtain ⟨q0, q1⟩ := hw; go_simp; try (with_reducible rfl))
      try simp only [Act.put, List.setIfInBounds_toArray, List.set_cons_zero, List.set_cons_succ]
      refine takeQ (some 76) (i := 7) (v := ?v406) rfl rfl (by kernel_rfl) (by kernel_rfl) (by kernel_rfl) (fun _ _ _ h => h) (Or.inl ⟨by rfl, ?h406⟩) hY.s ?r406
      case h406 => (intro w hw; obtain ⟨q0, q1⟩ := hw; go_simp; try (with_reducible rfl))
      try simp only [Act.put, List.setIfInBounds_toArray, List.set_cons_zero, List.set_cons_succ]
      refine wpAnyH_ready (rs := [8]) (by kernel_rfl) (by simp) ?_
      refine AllReadyH.cons rfl ?_ AllReadyH.nil
      intro KK hKK
      go_simp
      have hX13 := hY.setM (.map (some bw))
      have hM13 := hMw.cell (a := ⟨w2.heap.size, 193, none⟩) (by simp; omega) (.map (some bw))
      refine hKK.out _ _ hX13.s (fun _ => ?_)
      clear hKK KK
      refine wpAnyH_done (by kernel_rfl) ?_ _
      clear hX hY kd CWR hc hf hc0 hS0 hMw
      generalize wx.setCell ⟨w2.heap.size, 193, none⟩ (.map (some bw)) = w3 at *
      have hX := hX13
      have hM3 := hM13
      clear hX13 hM13
      have kd := (Below.refl w3.heap.size w3).drew
      have CP : Hid (∀ wx, Below w3.heap.size w3 wx → Calls Tryz.prog 50 #[.int .i64 h.length, .func (.func 51) #[] #[.pointer (some ⟨w.heap.size, 0, none⟩)]] wx fun e w' => e = .returned (.agg (rowsA (sesM h))) ∧ Below wx.heap.size wx w') := Lib.hid (fun wx hx => pairs_any (sesP h) h.length (by omega) _ _ wx enters_ses (fun a b wy ha hb hy => ses_calls _ h _ a b wy ((hX.below (below_then hx hy)).s.2) (HT.out _ (below_then hb4 (hX.below (below_then hx hy)).b)) ha hb))
      go_wp2_with fail
      refine wp_region_held_drew (S := SA (w2.heap.size + 1) w2.heap.size w.heap.size (.slice ao h.length cap)) (by kernel_rfl) hX.drew.s (fun hS0 => ?_)
      refine takeQ (some 77) (i := 0) (v := ?v501) rfl rfl (by kernel_rfl) (by kernel_rfl) (by kernel_rfl) (fun _ _ _ h => h) (Or.inl ⟨by rfl, ?h501⟩) hS0 ?r501
      case h501 => (intro w hw; obtain ⟨q0, q1⟩ := hw; go_simp; try (with_reducible rfl))
      try simp only [Act.put, List.setIfInBounds_toArray, List.set_cons_zero, List.set_cons_succ]
      refine takeQ (some 78) (i := 1) (v := ?v502) rfl rfl (by kernel_rfl) (by kernel_rfl) (by kernel_rfl) (fun _ _ _ h => h) (Or.inl ⟨by rfl, ?h502⟩) hS0 ?r502
      case h502 => (intro w hw; obtain ⟨q0, q1⟩ := hw; go_simp; try (with_reducible rfl))
      try simp only [Act.put, List.setIfInBounds_toArray, List.set_cons_zero, List.set_cons_succ]
      refine takeQ (some 79) (i := 2) (v := ?v503) rfl rfl (by kernel_rfl) (by kernel_rfl) (by kernel_rfl) (fun _ _ _ h => h) (Or.inl ⟨by rfl, ?h503⟩) hS0 ?r503
      case h503 => (intro w hw; obtain ⟨q0, q1⟩ := hw; go_simp; try (with_reducible rfl))
      try simp only [Act.put, List.setIfInBounds_toArray, List.set_cons_zero, List.set_cons_succ]
      refine takeQ (some 80) (i := 3) (v := ?v504) rfl rfl (by kernel_rfl) (by kernel_rfl) (by kernel_rfl) (fun _ _ _ h => h) (Or.inl ⟨by rfl, ?h504⟩) hS0 ?r504
      case h504 => (intro w hw; obtain ⟨q0, q1⟩ := hw; go_simp; try (with_reducible rfl))
      try simp only [Act.put, List.setIfInBounds_toArray, List.set_cons_zero, List.set_cons_succ]
      refine wpAnyH_ready (rs := [4]) (by kernel_rfl) (by simp) ?_
      refine AllReadyH.cons rfl ?_ AllReadyH.nil
      intro KK hKK
      go_simp
      refine (CP.out _ kd).mono ?_
      rintro e wx ⟨rfl, hbx⟩
      show KK _ _
      have kk := below_then kd hbx
      have hY := hX.below kk
      have hMY := hM3.below kk
      refine hKK.out _ _ hY.s (fun _ => ?_)
      clear hKK KK
      refine takeQ (some 82) (i := 5) (v := ?v505) rfl rfl (by kernel_rfl) (by kernel_rfl) (by kernel_rfl) (fun _ _ _ h => h) (Or.inl ⟨by rfl, ?h505⟩) hY.s ?r505
      case h505 => (intro w hw; obtain ⟨q0, q1⟩ := hw; go_simp; try (with_reducible rfl))
      try simp only [Act.put, List.setIfInBounds_toArray]
      refine takeQ (some 83) (i := 6) (v := ?v506) rfl rfl (by kernel_rfl) (by kernel_rfl) (by kernel_rfl) (fun _ _ _ h => h) (Or.inl ⟨by rfl, ?h506⟩) hY.s ?r506
      case h506 => (intro w hw; obtain ⟨q0, q1⟩ := hw; go_simp; try (with_reducible rfl))
      try simp only [Act.put]
      refine wpAnyH_ready (rs := [7]) (by kernel_rfl) (by simp) ?_
      refine AllReadyH.cons rfl ?_ AllReadyH.nil
      intro KK hKK
      rw [if_pos (by rfl)]
      refine wp_store_mid 37 (.tmp 83) (.tmp 81) rfl w2.heap.size 1 (rowsA (sesM h)) rfl rfl (by rw [rowsA_size]; exact hY.o.there 1 (by omega)) (infoRel' _) (rows_one _) ?_
      have hXn := hY.setS (sesM h)
      have hMn := MapI.cells (g := w2.heap.size) (by omega) (rowsA (sesM h)).toList 1 _ hMY
      refine hKK.out _ _ hXn.s (fun _ => ?_)
      clear hKK KK
      refine wpAnyH_done (by kernel_rfl) ?_ _
      clear hX hM3 hY kd CP hS0 hMY kk hbx
      generalize wx.setCells w2.heap.size 1 (rowsA (sesM h)).toList = w3 at *
      have hX := hXn
      have hM3 := hMn
      clear hXn hMn
      have kd := (Below.refl w3.heap.size w3).drew
      have CP : Hid (∀ wx, Below w3.heap.size w3 wx → Calls Tryz.prog 50 #[.int .i64 h.length, .func (.func 52) #[] #[.pointer (some ⟨w.heap.size, 0, none⟩)]] wx fun e w' => e = .returned (.agg (rowsA (timM h))) ∧ Below wx.heap.size wx w') := Lib.hid (fun wx hx => pairs_any (timP h) h.length (by omega) _ _ wx enters_tim (fun a b wy ha hb hy => tim_calls _ h _ a b wy ((hX.below (below_then hx hy)).s.2) (HT.out _ (below_then hb4 (hX.below (below_then hx hy)).b)) ha hb))
      go_wp2_with fail
      refine wp_region_held_drew (S := SA (w2.heap.size + 1) w2.heap.size w.heap.size (.slice ao h.length cap)) (by kernel_rfl) hX.drew.s (fun hS0 => ?_)
      refine takeQ (some 84) (i := 0) (v := ?v601) rfl rfl (by kernel_rfl) (by kernel_rfl) (by kernel_rfl) (fun _ _ _ h => h) (Or.inl ⟨by rfl, ?h601⟩) hS0 ?r601
      case h601 => (intro w hw; obtain ⟨q0, q1⟩ := hw; go_simp; try (with_reducible rfl))
      try simp only [Act.put, List.setIfInBounds_toArray, List.set_cons_zero, List.set_cons_succ]
      refine takeQ (some 85) (i := 1) (v := ?v602) rfl rfl (by kernel_rfl) (by kernel_rfl) (by kernel_rfl) (fun _ _ _ h => h) (Or.inl ⟨by rfl, ?h602⟩) hS0 ?r602
      case h602 => (intro w hw; obtain ⟨q0, q1⟩ := hw; go_simp; try (with_reducible rfl))
      try simp only [Act.put]
      refine takeQ (some 86) (i := 2) (v := ?v603) rfl rfl (by kernel_rfl) (by kernel_rfl) (by kernel_rfl) (fun _ _ _ h => h) (Or.inl ⟨by rfl, ?h603⟩) hS0 ?r603
      case h603 => (intro w hw; obtain ⟨q0, q1⟩ := hw; go_simp; try (with_reducible rfl))
      try simp only [Act.put]
      refine takeQ (some 87) (i := 3) (v := ?v604) rfl rfl (by kernel_rfl) (by kernel_rfl) (by kernel_rfl) (fun _ _ _ h => h) (Or.inl ⟨by rfl, ?h604⟩) hS0 ?r604
      case h604 => (intro w hw; obtain ⟨q0, q1⟩ := hw; go_simp; try (with_reducible rfl))
      try simp only [Act.put]
      refine wpAnyH_ready (rs := [4]) (by kernel_rfl) (by simp) ?_
      refine AllReadyH.cons rfl ?_ AllReadyH.nil
      intro KK hKK
      go_simp
      refine (CP.out _ kd).mono ?_
      rintro e wx ⟨rfl, hbx⟩
      show KK _ _
      have kk := below_then kd hbx
      have hY := hX.below kk
      have hMY := hM3.below kk
      refine hKK.out _ _ hY.s (fun _ => ?_)
      clear hKK KK
      refine takeQ (some 89) (i := 5) (v := ?v605) rfl rfl (by kernel_rfl) (by kernel_rfl) (by kernel_rfl) (fun _ _ _ h => h) (Or.inl ⟨by rfl, ?h605⟩) hY.s ?r605
      case h605 => (intro w hw; obtain ⟨q0, q1⟩ := hw; go_simp; try (with_reducible rfl))
      try simp only [Act.put, List.setIfInBounds_toArray]
      refine takeQ (some 90) (i := 6) (v := ?v606) rfl rfl (by kernel_rfl) (by kernel_rfl) (by kernel_rfl) (fun _ _ _ h => h) (Or.inl ⟨by rfl, ?h606⟩) hY.s ?r606
      case h606 => (intro w hw; obtain ⟨q0, q1⟩ := hw; go_simp; try (with_reducible rfl))
      try simp only [Act.put]
      refine wpAnyH_ready (rs := [7]) (by kernel_rfl) (by simp) ?_
      refine AllReadyH.cons rfl ?_ AllReadyH.nil
      intro KK hKK
      rw [if_pos (by rfl)]
      refine wp_store_mid 37 (.tmp 90) (.tmp 88) rfl w2.heap.size 65 (rowsA (timM h)) rfl rfl (by rw [rowsA_size]; exact hY.o.there 65 (by omega)) (infoRel' _) (rows_one _) ?_
      have hXn := hY.setT (timM h)
      have hMn := MapI.cells (g := w2.heap.size) (by omega) (rowsA (timM h)).toList 65 _ hMY
      refine hKK.out _ _ hXn.s (fun _ => ?_)
      clear hKK KK
      refine wpAnyH_done (by kernel_rfl) ?_ _
      clear hX hM3 hY kd CP hS0 hMY kk hbx
      generalize wx.setCells w2.heap.size 65 (rowsA (timM h)).toList = w3 at *
      have hX := hXn
      have hM3 := hMn
      clear hXn hMn
      have kd := (Below.refl w3.heap.size w3).drew
      have CP : Hid (∀ wx, Below w3.heap.size w3 wx → Calls Tryz.prog 50 #[.int .i64 h.length, .func (.func 53) #[] #[.pointer (some ⟨w2.heap.size + 1, 0, none⟩)]] wx fun e w' => e = .returned (.agg (rowsA (froM h))) ∧ Below wx.heap.size wx w') := Lib.hid (fun wx hx => pairs_any (froP h) h.length (by omega) _ _ wx enters_fro (fun a b wy ha hb hy => fro_calls _ h R _ _ a b wy ((hX.below (below_then hx hy)).s.1) ((hX.below (below_then hx hy)).o.cR) ((hX.below (below_then hx hy)).r.frws) HK.out.2.1 hb))
      go_wp2_with fail
      refine wp_region_held_drew (S := SA (w2.heap.size + 1) w2.heap.size w.heap.size (.slice ao h.length cap)) (by kernel_rfl) hX.drew.s (fun hS0 => ?_)
      refine takeQ (some 91) (i := 0) (v := ?v701) rfl rfl (by kernel_rfl) (by kernel_rfl) (by kernel_rfl) (fun _ _ _ h => h) (Or.inl ⟨by rfl, ?h701⟩) hS0 ?r701
      case h701 => (intro w hw; obtain ⟨q0, q1⟩ := hw; go_simp; try (with_reducible rfl))
      try simp only [Act.put, List.setIfInBounds_toArray, List.set_cons_zero, List.set_cons_succ]
      refine takeQ (some 92) (i := 1) (v := ?v702) rfl rfl (by kernel_rfl) (by kernel_rfl) (by kernel_rfl) (fun _ _ _ h => h) (Or.inl ⟨by rfl, ?h702⟩) hS0 ?r702
      case h702 => (intro w hw; obtain ⟨q0, q1⟩ := hw; go_simp; try (with_reducible rfl))
      try simp only [Act.put]
      refine takeQ (some 93) (i := 2) (v := ?v703) rfl rfl (by kernel_rfl) (by kernel_rfl) (by kernel_rfl) (fun _ _ _ h => h) (Or.inl ⟨by rfl, ?h703⟩) hS0 ?r703
      case h703 => (intro w hw; obtain ⟨q0, q1⟩ := hw; go_simp; try (with_reducible rfl))
      try simp only [Act.put]
      refine takeQ (some 94) (i := 3) (v := ?v704) rfl rfl (by kernel_rfl) (by kernel_rfl) (by kernel_rfl) (fun _ _ _ h => h) (Or.inl ⟨by rfl, ?h704⟩) hS0 ?r704
      case h704 => (intro w hw; obtain ⟨q0, q1⟩ := hw; go_simp; try (with_reducible rfl))
      try simp only [Act.put]
      refine wpAnyH_ready (rs := [4]) (by kernel_rfl) (by simp) ?_
      refine AllReadyH.cons rfl ?_ AllReadyH.nil
      intro KK hKK
      go_simp
      refine (CP.out _ kd).mono ?_
      rintro e wx ⟨rfl, hbx⟩
      show KK _ _
      have kk := below_then kd hbx
      have hY := hX.below kk
      have hMY := hM3.below kk
      refine hKK.out _ _ hY.s (fun _ => ?_)
      clear hKK KK
      refine takeQ (some 96) (i := 5) (v := ?v705) rfl rfl (by kernel_rfl) (by kernel_rfl) (by kernel_rfl) (fun _ _ _ h => h) (Or.inl ⟨by rfl, ?h705⟩) hY.s ?r705
      case h705 => (intro w hw; obtain ⟨q0, q1⟩ := hw; go_simp; try (with_reducible rfl))
      try simp only [Act.put, List.setIfInBounds_toArray]
      refine takeQ (some 97) (i := 6) (v := ?v706) rfl rfl (by kernel_rfl) (by kernel_rfl) (by kernel_rfl) (fun _ _ _ h => h) (Or.inl ⟨by rfl, ?h706⟩) hY.s ?r706
      case h706 => (intro w hw; obtain ⟨q0, q1⟩ := hw; go_simp; try (with_reducible rfl))
      try simp only [Act.put]
      refine wpAnyH_ready (rs := [7]) (by kernel_rfl) (by simp) ?_
      refine AllReadyH.cons rfl ?_ AllReadyH.nil
      intro KK hKK
      rw [if_pos (by rfl)]
      refine wp_store_mid 37 (.tmp 97) (.tmp 95) rfl w2.heap.size 129 (rowsA (froM h)) rfl rfl (by rw [rowsA_size]; exact hY.o.there 129 (by omega)) (infoRel' _) (rows_one _) ?_
      have hXn := hY.setF (froM h)
      have hMn := MapI.cells (g := w2.heap.size) (by omega) (rowsA (froM h)).toList 129 _ hMY
      refine hKK.out _ _ hXn.s (fun _ => ?_)
      clear hKK KK
      refine wpAnyH_done (by kernel_rfl) ?_ _
      clear hX hM3 hY kd CP hS0 hMY kk hbx
      generalize wx.setCells w2.heap.size 129 (rowsA (froM h)).toList = w3 at *
      have hq := hXn.s.1
      go_wp2_with fail
      go_ret2
      exact ⟨⟨_, rfl, by have := hb4.size; omega, _, _, _, _, _, K, R, HK.out.2.2 ▸ hXn.o, hMn, hAw, hXn.r, HK.out.1, HK.out.2.1⟩, below_then hb4 hXn.b⟩
end Go.Proofs.YtfancjmhdbaoeaaGreatDoor

namespace Go.Proofs.YtfancjmhdbaoeaaGreatDoor
set_option maxRecDepth 100000
open Go.RowKit

def sp14 (v1 v2 : Value) : List TxnV := [⟨0, 1, 4, v1, [⟨false, 0, 1⟩]⟩, ⟨1, 2, 3, v2, [⟨true, 0, 1⟩]⟩]
theorem sp14_ok (v1 v2 : Value) : ∀ t ∈ sp14 v1 v2, t.ok := by
  intro t ht
  simp [sp14] at ht
  rcases ht with rfl | rfl <;> refine ⟨?_, fun o ho => ?_⟩
  all_goals first
    | (refine ⟨?_, ?_, ?_⟩ <;> simp [IntOk])
    | (simp at ho; subst ho; refine ⟨?_, ?_⟩ <;> simp [IntOk])
theorem sp14_short (v1 v2 : Value) : Short (sp14 v1 v2) := by
  intro t ht
  simp [sp14] at ht
  rcases ht with rfl | rfl <;> simp
theorem sp14_check (v1 v2 : Value) : checkI (sp14 v1 v2) = 0 := by rfl
theorem sp14_cl : clI 16 = 30 := by rfl
theorem sp14_a (v1 v2 : Value) : tryI (sp14 v1 v2) 30 [] 0 = false := by kernel_rfl
theorem sp14_b (v1 v2 : Value) : tryP (sp14 v1 v2) 30 [] 1 = true := by kernel_rfl
theorem sp14_c (v1 v2 : Value) : tryP (sp14 v1 v2) 30 [1] 0 = true := by kernel_rfl
theorem sp14_d (v1 v2 : Value) : plSeeI (sp14 v1 v2) 30 [0, 1] 0 = 2 := by kernel_rfl
theorem sp14_e : plS [1] = 2 := by kernel_rfl
set_option maxRecDepth 100000 in
set_option maxHeartbeats 16000000 in
theorem speaks14_any (w : World) (ht : Tab w) :
    Calls Tryz.prog 24 #[] w fun e w' => e = .returned (.bool true) ∧ Below w.heap.size w w' := by
  have hg := ht.pos
  have HT : Hid (∀ wx, Below w.heap.size w wx → Tab wx) := Lib.hid (fun wx hb => ht.below hb hg)
  have C1 := fun (wx : World) => Lib.hid (read_any 0 1 wx)
  have C2 := fun (wx : World) => Lib.hid (write_op 0 1 wx)
  clear ht
  go_enter Tryz.func24, Tryz.ntmps24
  go_wp2_with fail
  refine ((C1 w).out).mono ?_
  rintro e w1 ⟨rfl, hb1⟩
  have hx1 := hb1.alloc hb1.size (.cells #[.bool false, .int .i64 0, .int .i64 1] 87)
  have hO1 : Ops _ (.slice (some ⟨w1.heap.size, 0, none⟩) 1 1) [⟨false, 0, 1⟩] := Row.of_owns (World.ownsRow_lit (base := 0) (e := 87) (size := 3) w1 #[.bool false, .int .i64 0, .int .i64 1] 1 (Nat.zero_le _) (by decide) rfl)
  clear hb1
  go_wp2_with fail
  refine ((C2 _).out).mono ?_
  rintro e w2 ⟨rfl, hb2⟩
  have hO1 := Row.below hO1 hb2
  have hx2 := below_then hx1 hb2
  have hO2 : Ops _ (.slice (some ⟨w2.heap.size, 0, none⟩) 1 1) [⟨true, 0, 1⟩] := Row.of_owns (World.ownsRow_lit (base := 0) (e := 87) (size := 3) w2 #[.bool true, .int .i64 0, .int .i64 1] 1 (Nat.zero_le _) (by decide) rfl)
  have hO1 := Row.below hO1 (box_below w2 (.cells #[.bool true, .int .i64 0, .int .i64 1] 87))
  have hx3 := hx2.alloc hx2.size (.cells #[.bool true, .int .i64 0, .int .i64 1] 87)
  have hR : Row _ _ 2 4 _ := Row.of_owns (World.ownsRow_lit (base := 0) (e := 91) (size := 4) (w2.alloc (.cells #[.bool true, .int .i64 0, .int .i64 1] 87)) #[.int .i64 0, .int .i64 1, .int .i64 4, .slice (some ⟨w1.heap.size, 0, none⟩) 1 1, .int .i64 1, .int .i64 2, .int .i64 3, .slice (some ⟨w2.heap.size, 0, none⟩) 1 1] 2 (Nat.zero_le _) (by decide) rfl)
  rw [show (w2.alloc (.cells #[.bool true, .int .i64 0, .int .i64 1] 87)).heap.size = w2.heap.size + 1 from by simp] at hR
  have hO1 := Row.below hO1 (box_below _ (.cells #[.int .i64 0, .int .i64 1, .int .i64 4, .slice (some ⟨w1.heap.size, 0, none⟩) 1 1, .int .i64 1, .int .i64 2, .int .i64 3, .slice (some ⟨w2.heap.size, 0, none⟩) 1 1] 91))
  have hO2 := Row.below hO2 (box_below _ (.cells #[.int .i64 0, .int .i64 1, .int .i64 4, .slice (some ⟨w1.heap.size, 0, none⟩) 1 1, .int .i64 1, .int .i64 2, .int .i64 3, .slice (some ⟨w2.heap.size, 0, none⟩) 1 1] 91))
  have hb4 := hx3.alloc hx3.size (.cells #[.int .i64 0, .int .i64 1, .int .i64 4, .slice (some ⟨w1.heap.size, 0, none⟩) 1 1, .int .i64 1, .int .i64 2, .int .i64 3, .slice (some ⟨w2.heap.size, 0, none⟩) 1 1] 91)
  clear hb2 hx1 hx2 hx3 C1 C2
  go_wp2_with fail
  generalize (w2.alloc (.cells #[.bool true, .int .i64 0, .int .i64 1] 87)).alloc (.cells #[.int .i64 0, .int .i64 1, .int .i64 4, .slice (some ⟨w1.heap.size, 0, none⟩) 1 1, .int .i64 1, .int .i64 2, .int .i64 3, .slice (some ⟨w2.heap.size, 0, none⟩) 1 1] 91) = w4 at *
  generalize w1.heap.size = a1 at *
  generalize w2.heap.size = a2 at *
  have hT : Txns w4 (.slice (some ⟨a2 + 1, 0, none⟩) 2 2) (sp14 (.slice (some ⟨a1, 0, none⟩) 1 1) (.slice (some ⟨a2, 0, none⟩) 1 1)) := ⟨hR, fun t ht => by
    simp [sp14] at ht
    rcases ht with rfl | rfl
    · exact hO1
    · exact hO2⟩
  have hck := sp14_check (.slice (some ⟨a1, 0, none⟩) 1 1) (.slice (some ⟨a2, 0, none⟩) 1 1)
  have CO := Lib.hid (of_done _ _ _ hT (sp14_ok _ _) (sp14_short _ _) hck)
  have HA := Lib.hid (sp14_a (.slice (some ⟨a1, 0, none⟩) 1 1) (.slice (some ⟨a2, 0, none⟩) 1 1))
  have HB := Lib.hid (sp14_b (.slice (some ⟨a1, 0, none⟩) 1 1) (.slice (some ⟨a2, 0, none⟩) 1 1))
  have HC2 := Lib.hid (sp14_c (.slice (some ⟨a1, 0, none⟩) 1 1) (.slice (some ⟨a2, 0, none⟩) 1 1))
  have HD := Lib.hid (sp14_d (.slice (some ⟨a1, 0, none⟩) 1 1) (.slice (some ⟨a2, 0, none⟩) 1 1))
  have HC := Lib.hid hck
  have HL : Hid ((sp14 (.slice (some ⟨a1, 0, none⟩) 1 1) (.slice (some ⟨a2, 0, none⟩) 1 1)).length = 2) := Lib.hid rfl
  clear hT hR hO1 hO2 hck
  generalize sp14 (.slice (some ⟨a1, 0, none⟩) 1 1) (.slice (some ⟨a2, 0, none⟩) 1 1) = h at *
  refine (CO.out).mono ?_
  rintro e w5 ⟨⟨B, rfl, hB, hO⟩, hb5⟩
  have hb5 := below_then hb4 hb5
  have CN := Lib.hid (pnew_any 16 h B (B + 2) w5 hO HC.out (HT.out _ hb5))
  rw [sp14_cl] at CN
  clear CO hO hB hb4
  go_wp2_with fail
  refine (CN.out).mono ?_
  rintro e w6 ⟨S, vb, aF, sF, rfl, p⟩
  have P := Lib.hid p
  have CT := Lib.hid (ptry_no p HC.out (by omega) 0 HA.out)
  clear CN p
  go_wp2_with fail
  refine (CT.out).mono ?_
  rintro e w7 ⟨rfl, h7⟩
  have P := Lib.hid (P.out.below h7)
  have CT := Lib.hid (ptry_yes P.out HC.out (by omega) 1 HB.out)
  clear h7
  go_wp2_with fail
  refine (CT.out).mono ?_
  rintro e w8 ⟨rfl, vr, aF, sF, p, _⟩
  have P := Lib.hid p
  have CT := Lib.hid (ptry_yes p HC.out (by omega) 0 HC2.out)
  clear p
  go_wp2_with fail
  refine (CT.out).mono ?_
  rintro e w9 ⟨rfl, vr, aF, sF, p, _⟩
  have P := Lib.hid p
  have CD := Lib.hid (pdone_any p)
  rw [HL.out] at CD
  clear p CT
  go_wp2_with fail
  refine (CD.out).mono ?_
  rintro e w10 ⟨rfl, h10⟩
  have P := Lib.hid (P.out.below h10)
  have CR := Lib.hid (prow_any P.out (by rw [HL.out]; omega))
  simp only [List.reverse_cons, List.reverse_nil, List.nil_append, List.cons_append, List.map_cons, List.map_nil] at CR
  clear h10 CD
  go_wp2_with fail
  refine (CR.out).mono ?_
  rintro e w11 ⟨v, rfl, hI, h11⟩
  have P := Lib.hid (P.out.below h11)
  have hI1 : Ints (w11.alloc (.cells #[.int .i64 1, .int .i64 0] 3)) (.slice (some ⟨w11.heap.size, 0, none⟩) 2 2) [1, 0] := Row.of_owns (World.ownsRow_lit (base := 0) (e := 3) (size := 1) w11 #[.int .i64 1, .int .i64 0] 2 (Nat.zero_le _) (by decide) rfl)
  have k1 := box_below w11 (.cells #[.int .i64 1, .int .i64 0] 3)
  have hI := hI.below k1
  have P := Lib.hid (P.out.below k1)
  have CSM := Lib.hid (same_any v (.slice (some ⟨w11.heap.size, 0, none⟩) 2 2) _ _ _ hI hI1)
  rw [show sameL [Int.ofNat 1, Int.ofNat 0] [1, 0] = true from rfl] at CSM
  obtain ⟨va, vc, rfl, _⟩ := hI.form
  simp only [List.length_cons, List.length_nil] at CSM
  clear h11 hI1 k1 hI CR
  go_wp2_with fail
  refine (CSM.out).mono ?_
  rintro e w12 ⟨rfl, h12⟩
  have P := Lib.hid (P.out.below h12)
  have CE := Lib.hid (psees_any 0 P.out (by rw [HL.out]; omega))
  rw [HD.out] at CE
  have CA := Lib.hid (pasks_any P.out)
  have CU := Lib.hid (pundo_cons P.out (by rw [HL.out]; omega))
  clear h12 CSM
  go_wp2_with fail
  refine (CE.out).mono ?_
  rintro e w13 ⟨rfl, rfl⟩
  go_wp2_with fail
  refine (CA.out).mono ?_
  rintro e w13 ⟨rfl, rfl⟩
  go_wp2_with fail
  refine (CU.out).mono ?_
  rintro e w14 ⟨rfl, vr2, p, _⟩
  have P := Lib.hid p
  have CD := Lib.hid (pdone_any p)
  rw [HL.out] at CD
  clear p CE CA CU
  go_wp2_with fail
  refine (CD.out).mono ?_
  rintro e w15 ⟨rfl, h15⟩
  have P := Lib.hid (P.out.below h15)
  have CP := Lib.hid (pplaced_any P.out)
  rw [sp14_e] at CP
  clear h15 CD
  go_wp2_with fail
  refine (CP.out).mono ?_
  rintro e w16 ⟨rfl, rfl⟩
  have hz := hb5.trans ((P.out).bel.mono hb5.size)
  go_wp2_with fail
  go_ret
  exact ⟨rfl, hz⟩
end Go.Proofs.YtfancjmhdbaoeaaGreatDoor

namespace Go.Proofs.YtfancjmhdbaoeaaGreatDoor
set_option maxRecDepth 100000
open Go.RowKit

/-- What lies in the block of the case that is handed in. -/
def CaseS (p : Nat) (vh : Value) (a : Nat) (vb : Value) (w : World) : Prop := w.cell? ⟨p, 0, none⟩ = some vh ∧ w.cell? ⟨p, 1, none⟩ = some (.int .u8 a) ∧ w.cell? ⟨p, 2, none⟩ = some vb
theorem CaseS.below {p a : Nat} {vh vb : Value} {w w' : World} (h : CaseS p vh a vb w) (hb : Below w.heap.size w w') : CaseS p vh a vb w' := by
  obtain ⟨h0, h1, h2⟩ := h
  exact ⟨(hb.cell (p := ⟨p, 0, none⟩) (block_lt h0)).trans h0, (hb.cell (p := ⟨p, 1, none⟩) (block_lt h1)).trans h1, (hb.cell (p := ⟨p, 2, none⟩) (block_lt h2)).trans h2⟩
end Go.Proofs.YtfancjmhdbaoeaaGreatDoor

namespace Go.Proofs.YtfancjmhdbaoeaaGreatDoor
set_option maxRecDepth 100000
open Go.RowKit

theorem plSeeI_out {h : List TxnV} {C : Nat} {r : List Nat} {i : Nat} (hlt : ∀ k ∈ r, k < 64) (hi : i ∉ r) : plSeeI h C r (i : Int) = 0 := by
  unfold plSeeI
  have : hasB (plS r) (i : Int) = false := by
    unfold hasB
    rw [Int.toNat_natCast, plS_bit i r hlt, decide_eq_false hi, Bool.and_false]
  rw [this]; rfl
theorem tryP_in {h : List TxnV} {C : Nat} {r : List Nat} {i : Nat} (hi : i ∈ r) : tryP h C r i = false := by
  unfold tryP
  rw [decide_eq_true hi]; simp
theorem tryP_out {h : List TxnV} {C : Nat} {r : List Nat} {i : Nat} (ht : tryP h C r i = true) : i < h.length ∧ i ∉ r := by
  unfold tryP at ht
  simp only [Bool.and_eq_true, decide_eq_true_eq, Bool.not_eq_true', decide_eq_false_iff_not] at ht
  exact ⟨ht.1, ht.2.1⟩
end Go.Proofs.YtfancjmhdbaoeaaGreatDoor

namespace Go.Proofs.YtfancjmhdbaoeaaGreatDoor
set_option maxRecDepth 100000
open Go.RowKit

section
variable {h : List TxnV} {C : Nat}
theorem sees_col {r : List Nat} {k : Nat} (hk : k < 64) : seeTo (seesR h C r) (k : Int) 64 = plSee h C r k := by
  refine set_ext (seeTo_set _ _ _) (plSee_set h C r k) fun j hj => ?_
  rw [seeTo_bit _ _ _ _ (Nat.le_refl 64), decide_eq_true hj, Bool.true_and, hasR_nat _ _ _ hj hk]; rfl
end
end Go.Proofs.YtfancjmhdbaoeaaGreatDoor

namespace Go.Proofs.YtfancjmhdbaoeaaGreatDoor
set_option maxRecDepth 100000
open Go.RowKit

/-- One more pair, where it may be. -/
def putM (m : List Pr) (a b : Int) : List Pr := if (mayB a && mayB b) = true then putP m a b else m
theorem rep_add {V : Mat} {m : List Pr} (h : Rep V m) (a b : Int) : Rep (addM V a b) (putM m a b) := by
  unfold putM
  cases hab : (mayB a && mayB b) with
  | false =>
    rw [if_neg (by decide)]
    have e : addM V a b = V := by
      unfold addM
      rw [if_neg]
      rintro ⟨h1, h2⟩
      rw [h1, h2] at hab; cases hab
    rw [e]; exact h
  | true =>
    rw [if_pos rfl]
    rw [Bool.and_eq_true] at hab
    have h1 := (mayB_iff a).1 hab.1
    have h2 := (mayB_iff b).1 hab.2
    refine ⟨putP_nodup h.1, fun c d => ?_⟩
    rw [mem_putP, h.2]
    constructor
    · rintro (⟨i, j, hi, hj, rfl, rfl, hv⟩ | e)
      · exact ⟨i, j, hi, hj, rfl, rfl, (addM_iff V a b i j hi hj).2 (.inl hv)⟩
      · have e1 : c = a := congrArg Prod.fst e
        have e2 : d = b := congrArg Prod.snd e
        subst e1; subst e2
        exact ⟨c.toNat, d.toNat, by omega, by omega, by omega, by omega, (addM_iff V c d _ _ (by omega) (by omega)).2 (.inr ⟨by omega, by omega⟩)⟩
    · rintro ⟨i, j, hi, hj, rfl, rfl, hv⟩
      rcases (addM_iff V a b i j hi hj).1 hv with hv | ⟨e1, e2⟩
      · exact .inl ⟨i, j, hi, hj, rfl, rfl, hv⟩
      · exact .inr (by rw [e1, e2])
theorem prV_int {l : List Pr} {u : Value} (h : u ∈ prV l) : ∃ x : Int, u = .int .i64 x := by
  unfold prV at h
  obtain ⟨p, _, hp⟩ := List.mem_flatMap.1 h
  simp at hp
  rcases hp with rfl | rfl
  · exact ⟨_, rfl⟩
  · exact ⟨_, rfl⟩
theorem rowsA_u64 (V : Mat) {i : Nat} {u : Value} (h : (rowsA V)[i]? = some u) : ∃ n : Int, u = .int .u64 n := by
  have hi : i < 64 := by
    have := (Array.getElem?_eq_some_iff.1 h).1
    rwa [rowsA_size] at this
  rw [rowsA_at V hi] at h
  cases h
  exact ⟨_, rfl⟩
/-- A relation that is changed leaves pairs as they are. -/
theorem Prs.apart {w w' : World} {v : Value} {l : List Pr} {g : Nat} {V : Mat} (h : Prs w v l) (hV : RelAt w g 37 V) (hg : w.grownBy w' (some g)) : Prs w' v l := by
  obtain ⟨hl, ao, cap, rfl, hm, hno, hc⟩ := h
  refine ⟨hl, ao, cap, rfl, hm, hno, fun hn => ?_⟩
  obtain ⟨b, off, rfl, hcell⟩ := hc hn
  refine ⟨b, off, rfl, fun i hi => ?_⟩
  have h2 := hcell i hi
  rw [List.getElem?_eq_getElem (by omega)] at h2 ⊢
  refine hg.cell h2 (fun e => ?_)
  obtain rfl : b = g := by simpa using e
  obtain ⟨x, hx⟩ := prV_int (List.getElem_mem (show i < (prV l).length by omega))
  rw [cell_of_row w b (off + i) _ _ _ hV] at h2
  obtain ⟨n, hn2⟩ := rowsA_u64 V h2
  rw [hx] at hn2; cases hn2
/-- What lies there while pairs are put in. -/
structure Vis (B : Nat) (pv pl : Nat) (V : Mat) (m : List Pr) (w0 w : World) : Prop where
  rel : RelAt w pv 37 V
  box : ∃ vm, At w pl (.cells #[vm] 41) ∧ Prs w vm m
  rep : Rep V m
  below : Below B w0 w
theorem Vis.mono {B pv pl : Nat} {V : Mat} {m : List Pr} {w0 w w' : World} (h : Vis B pv pl V m w0 w) (hb : Below w.heap.size w w') (hB : B ≤ w.heap.size) : Vis B pv pl V m w0 w' := by
  obtain ⟨h1, ⟨vm, h2, h3⟩, h4, h5⟩ := h
  exact ⟨h1.below hb h1.lt, ⟨vm, h2.below hb, h3.below hb⟩, h4, h5.trans (hb.mono hB)⟩
end Go.Proofs.YtfancjmhdbaoeaaGreatDoor

namespace Go.Proofs.YtfancjmhdbaoeaaGreatDoor
set_option maxRecDepth 100000
open Go.RowKit

/-- The slice v holds slices, of which each holds these ints. -/
def Lists (w : World) (v : Value) (LL : List (List Int)) : Prop := ∃ sv : List Value, Row w v LL.length 1 sv ∧ ∀ (k : Nat) (hk : k < LL.length), ∃ u, sv[k]? = some u ∧ Ints w u LL[k]
theorem Lists.below {w w' : World} {v : Value} {LL : List (List Int)} (h : Lists w v LL) (hb : Below w.heap.size w w') : Lists w' v LL := by
  obtain ⟨sv, h1, h2⟩ := h
  exact ⟨sv, h1.below hb, fun k hk => by obtain ⟨u, hu, hi⟩ := h2 k hk; exact ⟨u, hu, hi.below hb⟩⟩
theorem Lists.form {w : World} {v : Value} {LL : List (List Int)} (h : Lists w v LL) : ∃ ao cap, v = .slice ao LL.length cap ∧ LL.length ≤ 9223372036854775807 := by
  obtain ⟨sv, ⟨_, ao, cap, rfl, hm, _, _⟩, _⟩ := h
  exact ⟨ao, cap, rfl, Nat.le_trans hm.1 hm.2⟩
theorem Lists.at {w : World} {ao : Option Addr} {n cap : Nat} {LL : List (List Int)} (h : Lists w (.slice ao n cap) LL) {k : Nat} (hk : k < LL.length) :
    ∃ b off u, ao = some ⟨b, off, none⟩ ∧ w.cell? ⟨b, off + k, none⟩ = some u ∧ Ints w u LL[k] := by
  obtain ⟨sv, ⟨_, ao', cap', he, _, _, hc⟩, h2⟩ := h
  cases he
  obtain ⟨b, off, e, hcell⟩ := hc (by omega)
  obtain ⟨u, hu, hi⟩ := h2 k hk
  exact ⟨b, off, u, e, by rw [hcell k (by omega), hu], hi⟩
theorem rep_put {V : Mat} {m : List Pr} (h : Rep V m) {a b : Int} (ha : 0 ≤ a ∧ a < 64) (hb : 0 ≤ b ∧ b < 64) : Rep (addM V a b) (putP m a b) := by
  have := rep_add h a b
  unfold putM at this
  rwa [(mayB_iff a).2 ha, (mayB_iff b).2 hb, if_pos (by rfl)] at this
end Go.Proofs.YtfancjmhdbaoeaaGreatDoor

namespace Go.Proofs.YtfancjmhdbaoeaaGreatDoor
set_option maxRecDepth 100000
open Go.RowKit

/-- Must one be seen by another one, whatever the order is, as the reference says it? -/
def mustB (h : List TxnV) (x i k : Nat) : Bool := (froR h i k || (hasT x 1 && sesP h i k)) || (hasT x 32 && timP h i k)
set_option maxHeartbeats 16000000 in
theorem must14_any (va : Value) (h : List TxnV) (x : Nat) (hx : x < 64) (i k : Nat) (hi : i < h.length) (hk : k < h.length) (w : World) (hT : Txns w va h) :
    Calls Tryz.prog 89 #[va, .int .i64 x, .int .i64 i, .int .i64 k] w fun e w' => e = .returned (.bool (mustB h x i k)) ∧ Below w.heap.size w w' := by
  have CF := Lib.hid (fun wx (hx : Below w.heap.size w wx) => rfrom8_any va h i k hk wx (hT.below hx))
  have CS := Lib.hid (fun wx (hx : Below w.heap.size w wx) => rsession_any va h i k wx (hT.below hx) hi hk)
  have CT := Lib.hid (fun wx (hx : Below w.heap.size w wx) => rtime_any va h i k wx (hT.below hx) hi hk)
  have C1 := Lib.hid (fun wx => rl_has x 1 hx (by omega) (by omega) wx)
  have C32 := Lib.hid (fun wx => rl_has x 32 hx (by omega) (by omega) wx)
  have HR : Hid (mustB h x i k = ((froR h i k || (hasT x 1 && sesP h i k)) || (hasT x 32 && timP h i k))) := Lib.hid rfl
  rw [show sesP h i k = (decide (i < k) && decide (h[i].s = h[k].s)) by unfold sesP; rw [sAt_eq hi, sAt_eq hk], show timP h i k = decide (h[i].c < h[k].b) by unfold timP; rw [cAt_eq hi, bAt_eq hk]] at HR
  obtain ⟨ao, cap, rfl, hal⟩ := hT.form
  clear hT
  have hb := Below.refl w.heap.size w
  generalize mustB h x i k = z at *
  generalize froR h i k = p1 at *
  generalize (decide (i < k) && decide (h[i].s = h[k].s)) = p2 at *
  generalize decide (h[i].c < h[k].b) = p3 at *
  generalize hasT x 1 = b1 at *
  generalize hasT x 32 = b2 at *
  go_enter Tryz.func89, Tryz.ntmps89
  go_wp2_with fail
  refine (CF.out _ hb).mono ?_
  rintro e w2 ⟨rfl, hn⟩
  have hb := below_then hb hn
  clear hn
  cases p1 with
  | true =>
    go_wp2_with fail
    go_ret
    exact ⟨ret_b (by rw [HR.out]; rfl), hb⟩
  | false =>
    go_wp2_with fail
    refine (C1.out _).mono ?_
    rintro e w2 ⟨rfl, rfl⟩
    cases b1 with
    | true =>
      go_wp2_with fail
      refine (CS.out _ hb).mono ?_
      rintro e w2 ⟨rfl, hn⟩
      have hb := below_then hb hn
      clear hn
      cases p2 with
      | true =>
        go_wp2_with fail
        go_ret
        exact ⟨ret_b (by rw [HR.out]; rfl), hb⟩
      | false =>
        go_wp2_with fail
        refine (C32.out _).mono ?_
        rintro e w2 ⟨rfl, rfl⟩
        cases b2 with
        | true =>
          go_wp2_with fail
          refine (CT.out _ hb).mono ?_
          rintro e w2 ⟨rfl, hn⟩
          have hb := below_then hb hn
          clear hn
          cases p3 with
          | true =>
            go_wp2_with fail
            go_ret
            exact ⟨ret_b (by rw [HR.out]; rfl), hb⟩
          | false =>
            go_wp2_with fail
            go_ret
            exact ⟨ret_b (by rw [HR.out]; rfl), hb⟩
        | false =>
          go_wp2_with fail
          go_ret
          exact ⟨ret_b (by rw [HR.out]; rfl), hb⟩
    | false =>
      go_wp2_with fail
      refine (C32.out _).mono ?_
      rintro e w2 ⟨rfl, rfl⟩
      cases b2 with
      | true =>
        go_wp2_with fail
        refine (CT.out _ hb).mono ?_
        rintro e w2 ⟨rfl, hn⟩
        have hb := below_then hb hn
        clear hn
        cases p3 with
        | true =>
          go_wp2_with fail
          go_ret
          exact ⟨ret_b (by rw [HR.out]; rfl), hb⟩
        | false =>
          go_wp2_with fail
          go_ret
          exact ⟨ret_b (by rw [HR.out]; rfl), hb⟩
      | false =>
        go_wp2_with fail
        go_ret
        exact ⟨ret_b (by rw [HR.out]; rfl), hb⟩
/-- Does one see another one since it sees a third one, as the reference says it? -/
def seeJ (m : List Pr) (x : Nat) (l : List Int) (i k j : Int) : Bool := hasP m j k && ((hasT x 2 && hasP m i j) || (hasT x 4 && ahR l i j))
def seesB (h : List TxnV) (x : Nat) (l : List Int) (m : List Pr) (i k : Nat) : Bool := ((mustB h x i k || hasT x 16) || (hasT x 8 && rivR h i k)) || l.any (seeJ m x l (i : Int) (k : Int))
set_option maxHeartbeats 32000000 in
theorem sees14_any (va vr vm : Value) (h : List TxnV) (x : Nat) (hx : x < 64) (l : List Int) (m : List Pr) (i k : Nat) (hi : i < h.length) (hk : k < h.length) (hne : i ≠ k) (w : World) (hT : Txns w va h) (hl : Ints w vr l) (hm : Prs w vm m) :
    Calls Tryz.prog 97 #[va, .int .i64 x, vr, vm, .int .i64 i, .int .i64 k] w fun e w' => e = .returned (.bool (seesB h x l m i k)) ∧ Below w.heap.size w w' := by
  have CM := Lib.hid (fun wx (hb : Below w.heap.size w wx) => must14_any va h x hx i k hi hk wx (hT.below hb))
  have CR := Lib.hid (fun wx (hb : Below w.heap.size w wx) => rrivals_any va h i k hi hk hne wx (hT.below hb))
  have CA := Lib.hid (fun (a b : Int) wx (hx : Below w.heap.size w wx) => rahead_any vr l a b wx (hl.below hx))
  have CH := Lib.hid (fun (a b : Int) wx (hx : Below w.heap.size w wx) => phas_any vm m a b wx (hm.below hx))
  have HI := Lib.hid (fun wx (hx : Below w.heap.size w wx) => hl.below hx)
  have C16 := Lib.hid (fun wx => rl_has x 16 hx (by omega) (by omega) wx)
  have C8 := Lib.hid (fun wx => rl_has x 8 hx (by omega) (by omega) wx)
  have C2 := Lib.hid (fun wx => rl_has x 2 hx (by omega) (by omega) wx)
  have C4 := Lib.hid (fun wx => rl_has x 4 hx (by omega) (by omega) wx)
  have HR : Hid (seesB h x l m i k = (((mustB h x i k || hasT x 16) || (hasT x 8 && rivR h i k)) || l.any (seeJ m x l (i : Int) (k : Int)))) := Lib.hid rfl
  have HJ := Lib.hid (fun j : Int => show seeJ m x l (i : Int) (k : Int) j = (hasP m j (k : Int) && ((hasT x 2 && hasP m (i : Int) j) || (hasT x 4 && ahR l (i : Int) j))) from rfl)
  obtain ⟨ao, cap, rfl, hal⟩ := hT.form
  obtain ⟨ro, rcap, rfl, hrl⟩ := hl.form
  obtain ⟨mo, mcap, rfl, hml⟩ := hm.form
  clear hT hl hm
  have hb := Below.refl w.heap.size w
  generalize seesB h x l m i k = z at *
  generalize mustB h x i k = p1 at *
  generalize rivR h i k = p4 at *
  generalize seeJ m x l (i : Int) (k : Int) = F at *
  generalize hasT x 16 = b3 at *
  generalize hasT x 8 = b4 at *
  generalize hasT x 2 = b5 at *
  generalize hasT x 4 = b6 at *
  obtain ⟨s, hs⟩ : ∃ s, s = ((p1 || b3) || (b4 && p4)) := ⟨_, rfl⟩
  have HS := Lib.hid hs
  rw [← hs] at HR
  clear hs
  go_enter Tryz.func97, Tryz.ntmps97
  go_upto_region 1 with fail
  go_cut [32] from 14 to 32 (fun v wx => v = .bool s ∧ Below w.heap.size w wx)
  case first =>
    clear HR HJ HI CA CH C2 C4
    go_wp2_with fail
    refine (CM.out _ hb).mono ?_
    rintro e w2 ⟨rfl, hn⟩
    have hb := below_then hb hn
    clear hn
    cases p1 with
    | true =>
      go_wp2_with fail
      go_meet
      exact ⟨by rw [HS.out]; rfl, hb⟩
    | false =>
      go_wp2_with fail
      refine (C16.out _).mono ?_
      rintro e w2 ⟨rfl, rfl⟩
      cases b3 with
      | true =>
        go_wp2_with fail
        go_meet
        exact ⟨by rw [HS.out]; rfl, hb⟩
      | false =>
        go_wp2_with fail
        refine (C8.out _).mono ?_
        rintro e w2 ⟨rfl, rfl⟩
        cases b4 with
        | true =>
          go_wp2_with fail
          refine (CR.out _ hb).mono ?_
          rintro e w2 ⟨rfl, hn⟩
          have hb := below_then hb hn
          clear hn
          cases p4 with
          | true =>
            go_wp2_with fail
            go_meet
            exact ⟨by rw [HS.out]; rfl, hb⟩
          | false =>
            go_wp2_with fail
            go_meet
            exact ⟨by rw [HS.out]; rfl, hb⟩
        | false =>
          go_wp2_with fail
          go_meet
          exact ⟨by rw [HS.out]; rfl, hb⟩
  rename_i wc hcut
  obtain ⟨rfl, hb⟩ := hcut
  clear HS CM CR C16 C8
  cases s with
  | true =>
    have HT : Hid (true = z) := Lib.hid (by rw [HR.out]; rfl)
    clear HR HJ
    go_wp2_with fail
    go_ret
    exact ⟨ret_b HT.out, hb⟩
  | false =>
    rw [Bool.false_or] at HR
    go_wp2_with fail
    go_loopw [13] (fun v wr => ∃ j : Nat, j ≤ l.length ∧ v = .int .i64 j ∧ Hid (((l.take j).any F) = false) ∧ Below w.heap.size w wr) (fun v _ => l.length - (intOf v).toNat)
    case atStart => exact ⟨0, by omega, rfl, Lib.hid rfl, hb⟩
    case round =>
      clear hb
      obtain ⟨j, hj, rfl, HP, hb⟩ := hrel
      by_cases hlt : j < l.length
      · have hji : (j : Int) < (l.length : Int) := by omega
        obtain ⟨g, o, hao, c1⟩ := (HI.out _ hb).at hlt
        cases hao
        have HS := Lib.hid (show ((l.take (j + 1)).any F) = F l[j] by rw [List.take_succ_eq_append_getElem hlt, List.any_append, HP.out]; simp)
        have HY := Lib.hid (show F l[j] = true → z = true from fun h => by rw [HR.out]; exact List.any_eq_true.2 ⟨l[j], List.getElem_mem hlt, h⟩)
        have HQ := Lib.hid (HJ.out l[j])
        have D1 := Lib.hid (CH.out l[j] (k : Int) _ hb)
        have D2 := Lib.hid (CH.out (i : Int) l[j] _ hb)
        have D3 := Lib.hid (CA.out (i : Int) l[j] _ hb)
        generalize hasP m l[j] (k : Int) = q1 at *
        generalize hasP m (i : Int) l[j] = q2 at *
        generalize ahR l (i : Int) l[j] = q3 at *
        generalize F l[j] = q at *
        generalize l[j] = y at *
        clear CH CA HJ HP HR HI
        go_wp2_with fail
        refine (D1.out).mono ?_
        rintro e w2 ⟨rfl, rfl⟩
        cases q1 with
        | true =>
          go_wp2_with fail
          refine (C2.out _).mono ?_
          rintro e w2 ⟨rfl, rfl⟩
          cases b5 with
          | true =>
            go_wp2_with fail
            refine (D2.out).mono ?_
            rintro e w2 ⟨rfl, rfl⟩
            cases q2 with
            | true =>
              have HT : Hid (true = z) := Lib.hid (HY.out (by rw [HQ.out]; rfl)).symm
              clear HS HQ HY D1 D2 D3 c1
              go_wp2_with fail
              go_ret
              exact ⟨ret_b HT.out, hb⟩
            | false =>
              go_wp2_with fail
              refine (C4.out _).mono ?_
              rintro e w2 ⟨rfl, rfl⟩
              cases b6 with
              | true =>
                go_wp2_with fail
                refine (D3.out).mono ?_
                rintro e w2 ⟨rfl, rfl⟩
                cases q3 with
                | true =>
                  have HT : Hid (true = z) := Lib.hid (HY.out (by rw [HQ.out]; rfl)).symm
                  clear HS HQ HY D1 D2 D3 c1
                  go_wp2_with fail
                  go_ret
                  exact ⟨ret_b HT.out, hb⟩
                | false =>
                  have HN : Hid (((l.take (j + 1)).any F) = false) := Lib.hid (by rw [HS.out, HQ.out]; rfl)
                  clear HS HQ HY D1 D2 D3 c1
                  go_wp2_with fail
                  go_roundw
                  case rel => exact ⟨j + 1, by omega, by go_num, HN, hb⟩
                  case measure => simp [intOf]; omega
              | false =>
                have HN : Hid (((l.take (j + 1)).any F) = false) := Lib.hid (by rw [HS.out, HQ.out]; rfl)
                clear HS HQ HY D1 D2 D3 c1
                go_wp2_with fail
                go_roundw
                case rel => exact ⟨j + 1, by omega, by go_num, HN, hb⟩
                case measure => simp [intOf]; omega
          | false =>
            go_wp2_with fail
            refine (C4.out _).mono ?_
            rintro e w2 ⟨rfl, rfl⟩
            cases b6 with
            | true =>
              go_wp2_with fail
              refine (D3.out).mono ?_
              rintro e w2 ⟨rfl, rfl⟩
              cases q3 with
              | true =>
                have HT : Hid (true = z) := Lib.hid (HY.out (by rw [HQ.out]; rfl)).symm
                clear HS HQ HY D1 D2 D3 c1
                go_wp2_with fail
                go_ret
                exact ⟨ret_b HT.out, hb⟩
              | false =>
                have HN : Hid (((l.take (j + 1)).any F) = false) := Lib.hid (by rw [HS.out, HQ.out]; rfl)
                clear HS HQ HY D1 D2 D3 c1
                go_wp2_with fail
                go_roundw
                case rel => exact ⟨j + 1, by omega, by go_num, HN, hb⟩
                case measure => simp [intOf]; omega
            | false =>
              have HN : Hid (((l.take (j + 1)).any F) = false) := Lib.hid (by rw [HS.out, HQ.out]; rfl)
              clear HS HQ HY D1 D2 D3 c1
              go_wp2_with fail
              go_roundw
              case rel => exact ⟨j + 1, by omega, by go_num, HN, hb⟩
              case measure => simp [intOf]; omega
        | false =>
          have HN : Hid (((l.take (j + 1)).any F) = false) := Lib.hid (by rw [HS.out, HQ.out]; rfl)
          clear HS HQ HY D1 D2 D3 c1
          go_wp2_with fail
          go_roundw
          case rel => exact ⟨j + 1, by omega, by go_num, HN, hb⟩
          case measure => simp [intOf]; omega
      · have hj2 : j = l.length := by omega
        subst hj2
        have HV : Hid (false = z) := Lib.hid (by rw [HR.out, ← HP.out, List.take_length])
        clear HP HR
        go_wp2_with fail
        go_ret
        exact ⟨ret_b HV.out, hb⟩
end Go.Proofs.YtfancjmhdbaoeaaGreatDoor

namespace Go.Proofs.YtfancjmhdbaoeaaGreatDoor
set_option maxRecDepth 100000
open Go.RowKit

theorem rep_len {V : Mat} {m : List Pr} (h : Rep V m) : m.length ≤ 4096 := by
  have := nodup_le m ((List.range 4096).map fun n => (((n / 64 : Nat) : Int), ((n % 64 : Nat) : Int))) h.1 (fun p hp => by
    obtain ⟨i, j, hi, hj, h1, h2, _⟩ := (h.2 p.1 p.2).1 hp
    exact List.mem_map.2 ⟨i * 64 + j, List.mem_range.2 (by omega), by
      obtain ⟨a, b⟩ := p
      simp only at h1 h2
      rw [h1, h2, show (i * 64 + j) / 64 = i by omega, show (i * 64 + j) % 64 = j by omega]⟩)
  simpa using this
section
variable {h : List TxnV} {x : Nat}
theorem must_base (hc : checkI h = 0) (hx : x < 64) {i k : Nat} (hi : i < h.length) (hk : k < h.length) : mustB h x i k = (baseN h x k).testBit i := by
  have h64 := (check_zero hc).1
  have hx2 : x < 9223372036854775808 := by omega
  obtain ⟨e1, _, _, _, _, e6⟩ := hasT_bits ⟨x, hx⟩
  simp only at e1 e6
  have f := froM_at hc hi hk
  have s := sesM_at hc hi hk
  have t := timM_at hc hi hk
  rw [hasR_nat _ _ _ (show i < 64 by omega) (show k < 64 by omega)] at f s t
  have hs : sesP h i k = (decide (i < k) && decide (h[i].s = h[k].s)) := by unfold sesP; rw [sAt_eq hi, sAt_eq hk]
  have ht : timP h i k = decide (h[i].c < h[k].b) := by unfold timP; rw [cAt_eq hi, bAt_eq hk]
  rw [Bool.eq_iff_iff, baseN_bit (show k < 64 by omega), baseM_iff h x hx2 i k, f, s, t, ← hs, ← ht]
  unfold mustB
  rw [e1, e6]
  simp only [Bool.or_eq_true, Bool.and_eq_true]
  have hi64 : i < 64 := by omega
  constructor
  · rintro ((q | q) | q)
    · exact ⟨hi64, .inl q⟩
    · exact ⟨hi64, .inr (.inl q)⟩
    · exact ⟨hi64, .inr (.inr q)⟩
  · rintro ⟨_, q | q | q⟩
    · exact .inl (.inl q)
    · exact .inl (.inr q)
    · exact .inr q
theorem ahR_bit {r : List Nat} (g : RowG h x r) {i j : Nat} (hi : i ∈ r) (hj : j ∈ r) : ahR (r.reverse.map Int.ofNat) (i : Int) (j : Int) = (aheadL r j).testBit i := by
  have hn : (r.reverse.map Int.ofNat).Nodup := nodup_ofNat ((List.reverse_perm r).nodup_iff.2 g.nd)
  have mem : ∀ {a : Nat}, a ∈ r → (a : Int) ∈ r.reverse.map Int.ofNat := fun {a} ha => List.mem_map.2 ⟨a, List.mem_reverse.2 ha, rfl⟩
  rw [Bool.eq_iff_iff, ahR_iff hn (mem hi) (mem hj), ← chainR_iff, ahead_chain g.nd g.lt]
/-- What With has on its way: what was seen, and of the one that comes next nothing but what it sees. -/
def WI (h : List TxnV) (x : Nat) (r : List Nat) (k : Nat) (m : List Pr) : Prop := ∃ V : Mat, Rep V m ∧ (∀ j t, j < 64 → t < 64 → t ≠ k → V j t = seesR h x r j t) ∧ ∀ j, j < 64 → V j k = true → (nextN h x r k).testBit j = true
theorem wi_start {r : List Nat} {k : Nat} {m : List Pr} (hkr : k ∉ r) (hR : Rep (seesR h x r) m) : WI h x r k m :=
  ⟨_, hR, fun _ _ _ _ _ => rfl, fun j _ hj => by unfold seesR at hj; rw [plSee_out hkr] at hj; simp at hj⟩
variable {r : List Nat} {k : Nat}
theorem next_in (g : RowG h x r) (hb : ∀ j, (baseN h x k).testBit j = true → (plS r).testBit j = true) {j : Nat} (hj : (nextN h x r k).testBit j = true) : (plS r).testBit j = true := by
  unfold nextN at hj
  exact wld4_in hb (fun a j _ hs => ahead_in g.lt (sees_ahead g.lt g.nd g.base hs)) (fun a j _ ha => ahead_in g.lt ha) hj
theorem next_closed (g : RowG h x r) (hb : ∀ j, (baseN h x k).testBit j = true → (plS r).testBit j = true) :
    (x.testBit 1 = true → ∀ m j, (nextN h x r k).testBit m = true → (plSee h x r m).testBit j = true → (nextN h x r k).testBit j = true) ∧
    (x.testBit 2 = true → ∀ m j, (nextN h x r k).testBit m = true → (aheadL r m).testBit j = true → (nextN h x r k).testBit j = true) := by
  refine wld4_closed (fun a j ha => g.lt j (aheadL_mem g.lt ha)) (fun m hm => g.lt m (plS_mem g.lt (next_in g hb hm))) (fun a j hs => sees_ahead g.lt g.nd g.base hs) (sees_closed g).1 (fun a m j h1 h2 => aheadL_trans g.nd g.lt h1 h2)
theorem seesB_iff {m : List Pr} {i : Nat} (hx : x < 64) : seesB h x (r.reverse.map Int.ofNat) m i k = true ↔ mustB h x i k = true ∨ x.testBit 4 = true ∨ (x.testBit 3 = true ∧ rivR h i k = true) ∨ ∃ j ∈ r, hasP m (j : Int) (k : Int) = true ∧ ((x.testBit 1 = true ∧ hasP m (i : Int) (j : Int) = true) ∨ (x.testBit 2 = true ∧ ahR (r.reverse.map Int.ofNat) (i : Int) (j : Int) = true)) := by
  obtain ⟨_, e2, e3, e4, e5, _⟩ := hasT_bits ⟨x, hx⟩
  simp only at e2 e3 e4 e5
  unfold seesB seeJ
  rw [e2, e3, e4, e5]
  simp only [Bool.or_eq_true, Bool.and_eq_true, List.any_eq_true]
  constructor
  · rintro (((q | q) | q) | ⟨y, hy, q1, q2⟩)
    · exact .inl q
    · exact .inr (.inl q)
    · exact .inr (.inr (.inl q))
    · obtain ⟨j, hj, rfl⟩ := List.mem_map.1 hy
      exact .inr (.inr (.inr ⟨j, List.mem_reverse.1 hj, q1, q2⟩))
  · rintro (q | q | q | ⟨j, hj, q1, q2⟩)
    · exact .inl (.inl (.inl q))
    · exact .inl (.inl (.inr q))
    · exact .inl (.inr q)
    · exact .inr ⟨(j : Int), List.mem_map.2 ⟨j, List.mem_reverse.2 hj, rfl⟩, q1, q2⟩
theorem wi_put (hc : checkI h = 0) (hx : x < 64) (g : RowG h x r) (hlt : ∀ a ∈ r, a < h.length) (hk : k < h.length) (hkr : k ∉ r) (hb : ∀ j, (baseN h x k).testBit j = true → (plS r).testBit j = true) {m : List Pr} (hw : WI h x r k m) {i : Nat} (hi : i ∈ r)
    (hs : seesB h x (r.reverse.map Int.ofNat) m i k = true) : WI h x r k (putP m (i : Int) (k : Int)) := by
  obtain ⟨V, hR, h1, h2⟩ := hw
  have h64 := (check_zero hc).1
  have hi64 := g.lt i hi
  have hk64 : k < 64 := by omega
  have hne : i ≠ k := fun e => hkr (by rw [← e]; exact hi)
  obtain ⟨c1, c2⟩ := next_closed (k := k) g hb
  have hpl : (plS r).testBit i = true := by rw [plS_bit i r g.lt, decide_eq_true_eq]; exact hi
  have key : (nextN h x r k).testBit i = true := by
    rcases (seesB_iff hx).1 hs with q | q | ⟨q1, q2⟩ | ⟨j, hj, q1, q2⟩
    · rw [must_base hc hx (hlt i hi) hk] at q
      exact wld4_base q
    · exact wld4_all q hpl
    · refine wld4_riv q1 (rivN_bit.2 ⟨hi64, ?_⟩) hpl
      unfold rivB
      rw [decide_eq_true hk, decide_eq_true (hlt i hi), decide_eq_true (show k ≠ i from fun e => hne e.symm), rivR_symm, q2]; rfl
    · rw [hasP_rep hR (g.lt j hj) hk64] at q1
      have hjk : j ≠ k := fun e => hkr (by rw [← e]; exact hj)
      have n1 := h2 j (g.lt j hj) q1
      rcases q2 with ⟨p1, p2⟩ | ⟨p1, p2⟩
      · rw [hasP_rep hR hi64 (g.lt j hj), h1 i j hi64 (g.lt j hj) hjk] at p2
        exact c1 p1 j i n1 p2
      · rw [ahR_bit g hi hj] at p2
        exact c2 p1 j i n1 p2
  refine ⟨addM V (i : Int) (k : Int), rep_put hR ⟨by omega, by omega⟩ ⟨by omega, by omega⟩, fun j t hj ht htk => ?_, fun j hj hv => ?_⟩
  · rw [← h1 j t hj ht htk, Bool.eq_iff_iff, addM_iff V _ _ j t hj ht]
    exact ⟨fun q => q.elim id (fun ⟨_, e⟩ => (htk (by omega)).elim), .inl⟩
  · rcases (addM_iff V _ _ j k hj hk64).1 hv with q | ⟨e, _⟩
    · exact h2 j hj q
    · have : j = i := by omega
      subst this; exact key
theorem wi_done (hc : checkI h = 0) (hx : x < 64) (g : RowG h x r) (hlt : ∀ a ∈ r, a < h.length) (hk : k < h.length) (hkr : k ∉ r) (hb : ∀ j, (baseN h x k).testBit j = true → (plS r).testBit j = true) {m : List Pr} (hw : WI h x r k m)
    (hs : ∀ i ∈ r, hasP m (i : Int) (k : Int) = false → seesB h x (r.reverse.map Int.ofNat) m i k = false) : Rep (seesR h x (k :: r)) m := by
  obtain ⟨V, hR, h1, h2⟩ := hw
  have h64 := (check_zero hc).1
  have hk64 : k < 64 := by omega
  have hs2 : ∀ i ∈ r, seesB h x (r.reverse.map Int.ofNat) m i k = true → V i k = true := fun i hi q => by
    rw [← hasP_rep hR (g.lt i hi) hk64]
    cases e : hasP m (i : Int) (k : Int) with
    | true => rfl
    | false => rw [hs i hi e] at q; cases q
  have hin : ∀ {j}, (plS r).testBit j = true → j ∈ r := fun {j} hj => plS_mem g.lt hj
  have key : ∀ j, (nextN h x r k).testBit j = true → j ∈ r ∧ V j k = true := by
    intro j hj
    unfold nextN at hj
    refine wld4_least (Y := fun j => j ∈ r ∧ V j k = true) ?_ ?_ ?_ ?_ ?_ hj
    · intro j hj
      have hjr := hin (hb j hj)
      refine ⟨hjr, hs2 j hjr ((seesB_iff hx).2 (.inl ?_))⟩
      rw [must_base hc hx (hlt j hjr) hk]; exact hj
    · intro c j hj
      exact ⟨hin hj, hs2 j (hin hj) ((seesB_iff hx).2 (.inr (.inl c)))⟩
    · intro c j hj hp
      refine ⟨hin hp, hs2 j (hin hp) ((seesB_iff hx).2 (.inr (.inr (.inl ⟨c, ?_⟩))))⟩
      have := (rivN_bit.1 hj).2
      unfold rivB at this
      simp only [Bool.and_eq_true] at this
      rw [rivR_symm]; exact this.2.2.2
    · rintro c m' j _ ⟨hm, hv⟩ hj
      have hjr : j ∈ r := aheadL_mem g.lt (sees_ahead g.lt g.nd g.base hj)
      have hmk : m' ≠ k := fun e => hkr (by rw [← e]; exact hm)
      refine ⟨hjr, hs2 j hjr ((seesB_iff hx).2 (.inr (.inr (.inr ⟨m', hm, ?_, .inl ⟨c, ?_⟩⟩))))⟩
      · rw [hasP_rep hR (g.lt m' hm) hk64]; exact hv
      · rw [hasP_rep hR (g.lt j hjr) (g.lt m' hm), h1 j m' (g.lt j hjr) (g.lt m' hm) hmk]; exact hj
    · rintro c m' j _ ⟨hm, hv⟩ hj
      have hjr : j ∈ r := aheadL_mem g.lt hj
      refine ⟨hjr, hs2 j hjr ((seesB_iff hx).2 (.inr (.inr (.inr ⟨m', hm, ?_, .inr ⟨c, ?_⟩⟩))))⟩
      · rw [hasP_rep hR (g.lt m' hm) hk64]; exact hv
      · rw [ahR_bit g hjr hm]; exact hj
  have e : ∀ j t, j < 64 → t < 64 → V j t = seesR h x (k :: r) j t := fun j t hj ht => by
    by_cases htk : t = k
    · subst htk
      unfold seesR
      rw [plSee, if_pos rfl]
      rw [Bool.eq_iff_iff]
      exact ⟨fun q => h2 j hj q, fun q => (key j q).2⟩
    · rw [h1 j t hj ht htk]
      unfold seesR
      rw [plSee_tail htk]
  refine ⟨hR.1, fun a b => ?_⟩
  rw [hR.2]
  constructor
  · rintro ⟨i, j, hi, hj, e1, e2, hv⟩; exact ⟨i, j, hi, hj, e1, e2, by rw [← e i j hi hj]; exact hv⟩
  · rintro ⟨i, j, hi, hj, e1, e2, hv⟩; exact ⟨i, j, hi, hj, e1, e2, by rw [e i j hi hj]; exact hv⟩
theorem putP_new {m : List Pr} {a b : Int} (hn : hasP m a b = false) : (putP m a b).length = m.length + 1 := by
  unfold putP
  rw [hn]; simp
theorem WI.len {m : List Pr} (hw : WI h x r k m) : m.length ≤ 4096 := by obtain ⟨V, hR, _, _⟩ := hw; exact rep_len hR
end
end Go.Proofs.YtfancjmhdbaoeaaGreatDoor

namespace Go.Proofs.YtfancjmhdbaoeaaGreatDoor
set_option maxRecDepth 100000
open Go.RowKit

set_option maxHeartbeats 1000000 in
theorem put_own (v : Value) (l : List Pr) (a b : Int) (w : World) (hv : Prs w v l) (hlen : l.length ≤ 1000000000) :
    Calls Tryz.prog 98 #[v, .int .i64 a, .int .i64 b] w fun e w' => ∃ v', e = .returned v' ∧ Prs w' v' (putP l a b) ∧ ((v' = v ∧ putP l a b = l) ∨ ∀ g, v'.ownBlock = some g → w.heap.size ≤ g) ∧ Below w.heap.size w w' := by
  obtain ⟨i0, hi, hz0, hz1, hz2⟩ := info_parts infoPair
  have C := phas_any v l a b w hv
  cases hh : hasP l a b
  · have HP : Hid (putP l a b = l ++ [(a, b)]) := Lib.hid (by unfold putP; rw [hh]; rfl)
    rw [hh] at C
    have CH := Lib.hid C
    clear C hh
    go_enter Tryz.func98, Tryz.ntmps98
    go_wp2_with fail
    refine (CH.out).mono ?_
    rintro e w' ⟨rfl, rfl⟩
    go_wp2_with (at_builtin; refine wpList_append_row rfl _ _ 41 rfl w.heap.size 65 i0 (.agg #[.int .i64 0, .int .i64 0]) 2 16 Tryz.underlying41 hi hz0 hz1 hz2 rfl (by decide) _ 0 [] rfl (World.ownsRow_lit _ _ _ (Nat.le_refl _) (by decide) rfl) _ l.length _ rfl (hv.below ((Below.refl _ _).alloc (Nat.le_refl _) _)) ?c1 ?c2 ?c3 ?c4 ?_)
    case c1 => exact prV_oneCell _
    case c2 => unfold maxLen; omega
    case c3 => omega
    case c4 => simp
    intro v5 w5 hown5 hg5
    have hb5 : Below w.heap.size w w5 := ((Below.refl w.heap.size w).alloc (Nat.le_refl _) _).grown hg5 (by simp) (by intro k hk; simp [Value.ownBlock] at hk; omega)
    clear hg5
    have hsz := hb5.size
    have hown5' : w5.ownsRow w.heap.size 65 2 v5 l.length (prV l) := by simpa using hown5
    clear hown5
    go_wp2_with (at_builtin; refine wpList_append_row rfl _ _ 41 rfl w.heap.size 65 i0 (.agg #[.int .i64 0, .int .i64 0]) 2 16 Tryz.underlying41 hi hz0 hz1 hz2 rfl (by decide) _ _ _ rfl (hown5'.alloc _) _ 1 _ rfl (Row.of_owns (Prs.lit w5 0 a b (Nat.zero_le _))) ?d1 ?d2 ?d3 ?d4 ?_)
    case d1 => exact prV_oneCell _
    case d2 => unfold maxLen; omega
    case d3 => omega
    case d4 => simp; omega
    intro v6 w6 hown6 hg6
    have hb6 := below_app hb5 (Nat.le_refl _) hown5' hg6
    clear hg6 hown5' hb5
    go_wp2
    go_ret
    refine ⟨_, rfl, ?_, .inr fun g hg => (hown6.lt g hg).1, hb6⟩
    rw [HP.out]
    rw [← prV_append] at hown6
    exact Prs.of_owns hown6
  · have HP : Hid (putP l a b = l) := Lib.hid (by unfold putP; rw [hh]; rfl)
    rw [hh] at C
    have CH := Lib.hid C
    clear C hh
    go_enter Tryz.func98, Tryz.ntmps98
    go_wp2_with fail
    refine (CH.out).mono ?_
    rintro e w' ⟨rfl, rfl⟩
    go_wp2_with fail
    go_ret
    exact ⟨_, rfl, by rw [HP.out]; exact hv, .inl ⟨rfl, HP.out⟩, Below.refl _ _⟩
def vlenP : Value → Nat | .slice _ n _ => n | _ => 0
def vbitP : Value → Nat | .bool true => 1 | _ => 0
set_option maxHeartbeats 32000000 in
theorem with14_any (va vr vm : Value) (h : List TxnV) (x : Nat) (hx : x < 64) (r : List Nat) (m : List Pr) (k : Nat) (hc : checkI h = 0) (hk : k < h.length) (hkr : k ∉ r) (hlt : ∀ a ∈ r, a < h.length) (g : RowG h x r)
    (hbs : ∀ j, (baseN h x k).testBit j = true → (plS r).testBit j = true) (w : World) (hT : Txns w va h) (hl : Ints w vr (r.reverse.map Int.ofNat)) (hm : Prs w vm m) (hR : Rep (seesR h x r) m) :
    Calls Tryz.prog 31 #[va, .int .i64 x, vr, vm, .int .i64 k] w fun e w' => (∃ (v' : Value) (m' : List Pr), e = .returned v' ∧ Prs w' v' m' ∧ Rep (seesR h x (k :: r)) m' ∧ ((v' = vm ∧ m' = m) ∨ ∀ g, v'.ownBlock = some g → w.heap.size ≤ g)) ∧ Below w.heap.size w w' := by
  have CS := Lib.hid (fun (m1 : List Pr) (v1 : Value) (i : Nat) (hi : i ∈ r) wx (hb : Below w.heap.size w wx) (h1 : Prs wx v1 m1) => sees14_any va vr v1 h x hx (r.reverse.map Int.ofNat) m1 i k (hlt i hi) hk (fun e => hkr (by rw [← e]; exact hi)) wx (hT.below hb) (hl.below hb) h1)
  have CH := Lib.hid (fun (m1 : List Pr) (v1 : Value) (i : Nat) wx (h1 : Prs wx v1 m1) => phas_any v1 m1 (i : Int) (k : Int) wx h1)
  have CP := Lib.hid (fun (m1 : List Pr) (v1 : Value) (i : Nat) wx (h1 : Prs wx v1 m1) (hl : m1.length ≤ 4096) => put_own v1 m1 (i : Int) (k : Int) wx h1 (by omega))
  have HPUT := Lib.hid (fun (m1 : List Pr) (i : Nat) (hi : i ∈ r) (hw : WI h x r k m1) => wi_put hc hx g hlt hk hkr hbs hw hi)
  have HDONE := Lib.hid (fun (m1 : List Pr) (hw : WI h x r k m1) => wi_done hc hx g hlt hk hkr hbs hw)
  have HW0 := Lib.hid (wi_start (k := k) hkr hR)
  have HLEN : Hid (∀ m1, WI h x r k m1 → m1.length ≤ 4096) := Lib.hid (fun m1 hw => hw.len)
  obtain ⟨L, hL⟩ : ∃ L, L = r.reverse := ⟨_, rfl⟩
  have HMEM := Lib.hid (fun (i : Nat) => show i ∈ L ↔ i ∈ r by rw [hL]; exact List.mem_reverse)
  have HI := Lib.hid (fun wx (hx : Below w.heap.size w wx) => hl.below hx)
  rw [← hL] at hl CS HPUT HDONE HI
  obtain ⟨ao, cap, rfl, hal⟩ := hT.form
  obtain ⟨ro, rcap, rfl, hrl⟩ := hl.form
  rw [List.length_map] at hrl CS HI ⊢
  have hb := Below.refl w.heap.size w
  generalize WI h x r k = WIx at *
  generalize hse : seesB h x (L.map Int.ofNat) = SB at *
  clear hse hT hl hR hbs g hkr hlt hL hc
  go_enter Tryz.func31, Tryz.ntmps31
  go_wp2_with fail
  go_loopw [3, 11] (fun vv bv wr => ∃ (m1 : List Pr) (bo : Bool), bv = .bool bo ∧ Prs wr vv m1 ∧ Hid ((vv = vm ∧ m1 = m) ∨ ∀ g, vv.ownBlock = some g → w.heap.size ≤ g) ∧ Hid (WIx m1) ∧ Hid (m1.length ≤ 4096) ∧ Hid (bo = false → ∀ i ∈ r, hasP m1 (i : Int) (k : Int) = false → SB m1 i k = false) ∧ Below w.heap.size w wr) (fun vv bv _ => 4096 - vlenP vv + vbitP bv)
  case atStart => exact ⟨m, true, rfl, hm, Lib.hid (.inl ⟨rfl, rfl⟩), HW0, Lib.hid (HLEN.out _ HW0.out), Lib.hid (fun e => by cases e), hb⟩
  case round =>
    clear hb hm HW0
    obtain ⟨m1, bo, rfl, hm1, HO, HW, HL1, HD, hb⟩ := hrel
    obtain ⟨mo, mcap, rfl, hml⟩ := hm1.form
    cases bo with
    | false =>
      have HD2 := Lib.hid (HDONE.out m1 HW.out (HD.out rfl))
      clear HD HDONE
      go_wp2_with fail
      go_ret
      exact ⟨⟨_, m1, rfl, hm1, HD2.out, HO.out⟩, hb⟩
    | true =>
      clear HD
      go_wp2_with fail
      go_loopw [3, 11, 12] (fun v2 b2 jv wx => ∃ (j : Nat) (m2 : List Pr) (bo2 : Bool), j ≤ L.length ∧ jv = .int .i64 j ∧ b2 = .bool bo2 ∧ Prs wx v2 m2 ∧ Hid ((v2 = vm ∧ m2 = m) ∨ ∀ g, v2.ownBlock = some g → w.heap.size ≤ g) ∧ Hid (WIx m2) ∧ Hid (m2.length ≤ 4096) ∧ Hid (bo2 = false → m2 = m1 ∧ ∀ (t : Nat) (ht : t < L.length), t < j → hasP m2 (L[t] : Int) (k : Int) = false → SB m2 L[t] k = false) ∧ Hid (bo2 = true → m1.length < m2.length) ∧ Below w.heap.size w wx) (fun _ _ jv _ => L.length - (intOf jv).toNat)
      case atStart => exact ⟨0, m1, false, by omega, rfl, rfl, hm1, HO, HW, HL1, Lib.hid (fun _ => ⟨rfl, fun t _ h0 => by omega⟩), Lib.hid (fun e => by cases e), hb⟩
      case round =>
        clear hb hm1 HW HO
        obtain ⟨j, m2, bo2, hj, rfl, rfl, hm2, HO, HW, HL2, HF, HG, hb⟩ := hrel
        obtain ⟨mo2, mcap2, rfl, hml2⟩ := hm2.form
        by_cases hlt : j < L.length
        · have hji : (j : Int) < (L.length : Int) := by omega
          obtain ⟨gb, o, hao, c1⟩ := ints_at (HI.out _ hb) hlt
          cases hao
          have D1 := Lib.hid (CH.out m2 _ L[j] _ hm2)
          have D2 := Lib.hid (CS.out m2 _ L[j] ((HMEM.out _).1 (List.getElem_mem hlt)) _ hb hm2)
          have D3 := Lib.hid (CP.out m2 (.slice mo2 m2.length mcap2) L[j])
          have HP1 : Hid (hasP m2 (L[j] : Int) (k : Int) = false → SB m2 L[j] k = true → WIx (putP m2 (L[j] : Int) (k : Int)) ∧ (putP m2 (L[j] : Int) (k : Int)).length = m2.length + 1) := Lib.hid (fun e1 e2 => ⟨HPUT.out m2 L[j] ((HMEM.out _).1 (List.getElem_mem hlt)) HW.out e2, putP_new e1⟩)
          have HN1 : Hid ((hasP m2 (L[j] : Int) (k : Int) = false → SB m2 L[j] k = false) → (bo2 = false → m2 = m1 ∧ ∀ (t : Nat) (ht : t < L.length), t < j + 1 → hasP m2 (L[t] : Int) (k : Int) = false → SB m2 L[t] k = false)) := Lib.hid (fun e1 e2 => ⟨(HF.out e2).1, fun t ht htj => by
            by_cases q : t = j
            · subst q; exact e1
            · exact (HF.out e2).2 t ht (by omega)⟩)
          have HG2 : Hid (m1.length ≤ m2.length) := Lib.hid (by
            cases bo2 with
            | false => rw [(HF.out rfl).1]; exact Nat.le_refl _
            | true => exact Nat.le_of_lt (HG.out rfl))
          generalize hasP m2 (L[j] : Int) (k : Int) = q1 at *
          generalize SB m2 L[j] k = q2 at *
          generalize putP m2 (L[j] : Int) (k : Int) = m3 at *
          generalize L[j] = y at *
          clear CS CH CP HPUT HDONE HMEM HF
          go_wp2_with fail
          refine (D1.out).mono ?_
          rintro e w2 ⟨rfl, rfl⟩
          cases q1 with
          | true =>
            have HN2 := Lib.hid (HN1.out (fun e => by cases e))
            clear HN1 HP1 D1 D2 D3 c1
            go_wp2_with fail
            go_roundw
            case rel => exact ⟨j + 1, m2, bo2, by omega, by go_num, rfl, hm2, HO, HW, HL2, HN2, HG, hb⟩
            case measure => simp [intOf]; omega
          | false =>
            go_wp2_with fail
            refine (D2.out).mono ?_
            rintro e w2 ⟨rfl, hn⟩
            cases q2 with
            | false =>
              have HN2 := Lib.hid (HN1.out (by first | exact fun _ => rfl | trivial))
              have hb3 := below_then hb hn
              have hm3 := hm2.below hn
              clear HN1 HP1 D1 D2 D3 c1 hn hb hm2
              go_wp2_with fail
              go_roundw
              case rel => exact ⟨j + 1, m2, bo2, by omega, by go_num, rfl, hm3, HO, HW, HL2, HN2, HG, hb3⟩
              case measure => simp [intOf]; omega
            | true =>
              obtain ⟨z1, z2⟩ := HP1.out (by first | rfl | trivial) (by first | rfl | trivial)
              have Z1 := Lib.hid z1
              have Z2 : Hid (m1.length < m3.length) := Lib.hid (by have := HG2.out; omega)
              have Z3 : Hid (m3.length ≤ 4096) := Lib.hid (HLEN.out _ z1)
              have hb3 := below_then hb hn
              have hm3 := hm2.below hn
              have D3 := Lib.hid (D3.out _ hm3 HL2.out)
              have c2 := (hn.cell (p := ⟨gb, o + j, none⟩) (block_lt c1)).trans c1
              clear HN1 HP1 D1 D2 c1 hn hb hm2 hm3 HW HL2 HG HG2
              go_wp2_with fail
              refine (D3.out).mono ?_
              rintro e w3 ⟨v3, rfl, hm4, ho, hn⟩
              have HO3 : Hid ((v3 = vm ∧ m3 = m) ∨ ∀ g, v3.ownBlock = some g → w.heap.size ≤ g) := Lib.hid (by
                rcases ho with ⟨q1, q2⟩ | q
                · rw [q1, q2]; exact HO.out
                · exact .inr fun g hg => Nat.le_trans hb3.size (q g hg))
              clear ho
              have hb4 := below_then hb3 hn
              clear hn hb3 D3 c2
              go_wp2_with fail
              go_roundw
              case rel => exact ⟨j + 1, m3, true, by omega, by go_num, rfl, hm4, HO3, Z1, Z3, Lib.hid (fun e => by cases e), Lib.hid (fun _ => Z2.out), hb4⟩
              case measure => simp [intOf]; omega
        · have hj2 : j = L.length := by omega
          subst hj2
          cases bo2 with
          | false =>
            have HN2 : Hid (∀ i ∈ r, hasP m2 (i : Int) (k : Int) = false → SB m2 i k = false) := Lib.hid (fun i hi e => by
              obtain ⟨t, ht, rfl⟩ := List.getElem_of_mem ((HMEM.out i).2 hi)
              exact (HF.out rfl).2 t ht ht e)
            have HQ : Hid (m2.length = m1.length) := Lib.hid (by rw [(HF.out rfl).1])
            clear HF HG CS CH CP HPUT HDONE HMEM
            go_wp2_with fail
            go_roundw
            case rel => exact ⟨m2, false, rfl, hm2, HO, HW, HL2, Lib.hid (fun _ => HN2.out), hb⟩
            case measure => have := HQ.out; have := HL2.out; simp [vlenP, vbitP]; omega
          | true =>
            have HQ : Hid (m1.length < m2.length) := Lib.hid (HG.out rfl)
            clear HF HG CS CH CP HPUT HDONE HMEM
            go_wp2_with fail
            go_roundw
            case rel => exact ⟨m2, true, rfl, hm2, HO, HW, HL2, Lib.hid (fun e => by cases e), hb⟩
            case measure => have := HQ.out; have := HL2.out; simp [vlenP, vbitP]; omega
end Go.Proofs.YtfancjmhdbaoeaaGreatDoor
