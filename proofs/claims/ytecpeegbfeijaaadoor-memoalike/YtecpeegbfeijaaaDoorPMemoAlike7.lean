/- Walks and plain facts that the proof of the statement MemoAlike uses, joined: OrdL MemI PlaN PlaP LeaI LeaJ PlaO. Conditions: each theorem's own. -/
import Derived.Deep.RegionHeld
import Derived.Deep.CutRange
import Derived.Deep.MidRow
import Derived.Test.YtecpeegbfeijaaaDoorPMemoAlike2
import Derived.Test.YtecpeegbfeijaaaDoorPMemoAlike4
import Derived.Test.YtecpeegbfeijaaaDoorPMemoAlike5
import Derived.Test.YtecpeegbfeijaaaDoorPMemoAlike6
namespace Go.Proofs.YtecpeegbfeijaaaDoor
set_option maxRecDepth 100000
open Go.RowKit

theorem takeQ {P : Program} {ops : Array Oper} {Q : Exit → Act → World → Prop} {md : Region.Mode} {S : World → Prop} (d : Option Tmp) {i : Nat} {oi : Oper} {v : Value} {fuel : Nat} {listed : Array Bool} {a : Act} {w : World} (hi : ops[i]? = some oi) (hd : oi.dst = d)
    (hs : Region.noSelect ops = true) (hf : Region.free md ops listed i = true) (hr : (Region.ready md ops listed).contains i = true)
    (hQ : ∀ c a w, Q (.panic c) (a.put oi.dst v) w → Q (.panic c) a w) (hy : YieldsIf P ops S oi v a) (hS : S w)
    (h : wpAnyH P md ops Q S fuel (listed.setIfInBounds i true) (a.put d v) w) : wpAnyH P md ops Q S (fuel + 1) listed a w := by
  subst hd; exact wpAnyH_take hi hs hf hr hQ hy hS h
set_option maxHeartbeats 16000000 in
theorem of_done (va : Value) (h : List TxnV) (w : World) (hT : Txns w va h) (hok : ∀ t ∈ h, t.ok) (hsh : Short h) (hc : checkI h = 0) :
    Calls Tryd.prog 16 #[va] w fun e w' => (∃ B, e = .returned (.tuple #[.pointer (some ⟨B, 0, none⟩), .int .i64 0]) ∧ w.heap.size ≤ B ∧ OrdIs w' B (B + 2) h) ∧ Below w.heap.size w w' := by
  obtain ⟨ao, cap, rfl, hal⟩ := hT.form
  obtain ⟨hlen, hops, hW, hks⟩ := check_zero hc
  have hb0 := box_below w (.cells #[.slice ao h.length cap] 22)
  have CH := Lib.hid (hcheck_any _ h _ (hT.below hb0) hok hsh)
  rw [hc] at CH
  have CW := Lib.hid (fun wx (hx : Below w.heap.size w wx) => hwrites_any _ h wx (hT.below hx) hok hks (by omega) (by omega))
  have HT := Lib.hid (fun wx (hx : Below w.heap.size w wx) => hT.below hx)
  have HOK := Lib.hid hok
  have HKS := Lib.hid hks
  have HW := Lib.hid hW
  have HOPS := Lib.hid hops
  obtain ⟨i1, hi1, hza1, hzb1, hzc1⟩ := info_parts infoLI
  obtain ⟨i2, hi2, hza2, hzb2, hzc2⟩ := info_parts infoLR
  have hA0 : (w.alloc (.cells #[.slice ao h.length cap] 22)).cell? ⟨w.heap.size, 0, none⟩ = some (.slice ao h.length cap) := by rw [cell_of_row _ _ _ _ _ _ (heap_alloc_new w _)]; rfl
  clear hT hok hsh hks hW hc hops
  go_enter Tryd.func16, Tryd.ntmps16
  go_wp2_with fail
  refine (CH.out).mono ?_
  rintro e w1 ⟨rfl, hb1⟩
  have hA1 := (hb1.cell (p := ⟨w.heap.size, 0, none⟩) (block_lt hA0)).trans hA0
  have hb2 := below_then hb0 hb1
  clear CH hb1 hb0 hA0
  go_wp2_with fail
  refine (CW.out _ hb2).mono ?_
  rintro e w2 ⟨hb3, ⟨hno, _⟩ | ⟨_, bm, m, rfl, hbm, hM⟩⟩
  · exact absurd hno (by rw [HW.out]; simp)
  have hA2 := (hb3.cell (p := ⟨w.heap.size, 0, none⟩) (block_lt hA1)).trans hA1
  have hb4 := below_then hb2 hb3
  clear CW hb3 hb2 hA1
  have hlt := block_lt hA2
  simp only at hlt
  have hO3 := (OrdAt.made w2 (h.length : Int) 73 rfl rfl).alloc (.cells #[.pointer (some ⟨w2.heap.size, 0, none⟩)] 31)
  have hb3 := ((Below.refl w2.heap.size w2).alloc (Nat.le_refl _) (.cells ((Tryd.zeroCells73.setIfInBounds 0 (.int .i64 h.length)).setIfInBounds 196 (.bool true)) 73)).alloc (by simp) (.cells #[.pointer (some ⟨w2.heap.size, 0, none⟩)] 31)
  have hA3 := (hb3.cell (p := ⟨w.heap.size, 0, none⟩) hlt).trans hA2
  have hC3 : ((w2.alloc (.cells ((Tryd.zeroCells73.setIfInBounds 0 (.int .i64 h.length)).setIfInBounds 196 (.bool true)) 73)).alloc (.cells #[.pointer (some ⟨w2.heap.size, 0, none⟩)] 31)).cell? ⟨w2.heap.size + 1, 0, none⟩ = some (.pointer (some ⟨w2.heap.size, 0, none⟩)) := by
    rw [cell_of_row _ _ _ _ _ _ (heap_alloc2_new w2 _ _)]; rfl
  have hs3 : w2.heap.size + 2 ≤ ((w2.alloc (.cells ((Tryd.zeroCells73.setIfInBounds 0 (.int .i64 h.length)).setIfInBounds 196 (.bool true)) 73)).alloc (.cells #[.pointer (some ⟨w2.heap.size, 0, none⟩)] 31)).heap.size := by simp
  go_wp2_with fail
  generalize ((w2.alloc (.cells ((Tryd.zeroCells73.setIfInBounds 0 (.int .i64 h.length)).setIfInBounds 196 (.bool true)) 73)).alloc (.cells #[.pointer (some ⟨w2.heap.size, 0, none⟩)] 31)) = w3 at *
  generalize (Tryd.zeroCells73.setIfInBounds 0 (.int .i64 h.length)).setIfInBounds 196 (.bool true) = Z at *
  go_loopw [26] (fun i wr => ∃ (k : Nat) (vk vr : Value) (sd : Bool) (K : List KRow) (R : List RRow), k ≤ h.length ∧ i = .int .i64 k ∧ K.map (·.2) = keysTo h k ∧ R.map (·.2) = readsTo h k ∧ sd = soundTo h k ∧ OrdAt wr w2.heap.size h.length noR noR noR (.map none) vk vr sd ∧
      wr.cell? ⟨w2.heap.size + 1, 0, none⟩ = some (.pointer (some ⟨w2.heap.size, 0, none⟩)) ∧ OfR (w2.heap.size + 2) wr vk vr K R ∧ Below w2.heap.size w2 wr ∧ w2.heap.size + 2 ≤ wr.heap.size) (fun i _ => h.length - (intOf i).toNat)
  case atStart => exact ⟨0, _, _, _, [], [], by omega, rfl, rfl, rfl, rfl, hO3, hC3, OfR.nil _ _, hb3, hs3⟩
  case round =>
    clear hO3 hC3 hb3 hs3 hA3
    obtain ⟨k, vk, vr, sd, K, R, hk, rfl, hK, hR, hsd, hO, hC, hF, hb, hsz⟩ := hrel
    have HK := Lib.hid (And.intro hK (And.intro hR hsd))
    clear hK hR hsd
    by_cases hlk : k < h.length
    · have hki : (k : Int) < (h.length : Int) := by omega
      have hbw := below_then hb4 hb
      obtain ⟨g, o, hao, c0, c1, c2, c3⟩ := (HT.out _ hbw).at hlk
      cases hao
      have hOps := (HT.out _ hbw).ops hlk
      have HOPF := Lib.hid (fun wx (hx : Below w2.heap.size w2 wx) => (HT.out wx (below_then hb4 hx)).ops hlk)
      generalize h[k].s = ts at *
      generalize h[k].b = tb at *
      generalize h[k].c = tc at *
      have HLK : Hid (opsAt h k = h[k].l) := Lib.hid (opsAt_eq hlk)
      have hll : h[k].l.length ≤ 1024 := by
        have h1 := opsN_take h k hlk
        have h2 := opsN_le h (k + 1)
        have h3 := HOPS.out
        omega
      have HOL := Lib.hid (HOK.out _ (List.getElem_mem hlk)).2
      have HKL := Lib.hid (HKS.out _ (List.getElem_mem hlk))
      generalize h[k].v = tv at *
      generalize h[k].l = l at *
      obtain ⟨a2, cap2, rfl, hl2⟩ := hOps.form
      obtain ⟨b0, b1, b2, b3⟩ := txnBlock wr (.int .i64 ts) (.int .i64 tb) (.int .i64 tc) (.slice a2 l.length cap2) 58
      have hbx := (Below.refl wr.heap.size wr).alloc (Nat.le_refl _) (.cells #[.int .i64 ts, .int .i64 tb, .int .i64 tc, .slice a2 l.length cap2] 58)
      have hOps1 := hOps.below hbx
      have hO1 := hO.below hbx hO.lt
      have hC1 := (hbx.cell (p := ⟨w2.heap.size + 1, 0, none⟩) (block_lt hC)).trans hC
      have hF1 := hF.below hbx
      have hb1 := hb.trans (hbx.mono hb.size)
      have hs1 : w2.heap.size + 2 ≤ (wr.alloc (.cells #[.int .i64 ts, .int .i64 tb, .int .i64 tc, .slice a2 l.length cap2] 58)).heap.size := by simp; omega
      have hgx : w2.heap.size + 2 ≤ wr.heap.size := hsz
      have hX1 := heap_alloc_new wr (.cells #[.int .i64 ts, .int .i64 tb, .int .i64 tc, .slice a2 l.length cap2] 58)
      have hX : OfS w2 wr.heap.size ts tb tc (.slice a2 l.length cap2) h.length vk vr sd K R (wr.alloc (.cells #[.int .i64 ts, .int .i64 tb, .int .i64 tc, .slice a2 l.length cap2] 58)) := ⟨hO1, ⟨hC1, b0, b1, b2, b3⟩, hF1, hb1, hs1, ⟨_, hX1⟩, hgx⟩
      have hTf := fun wx (hx : Below w2.heap.size w2 wx) => HT.out wx (below_then hb4 hx)
      go_upto_region 9 with fail
      clear hOps hO hC hF hb hbx hbw hsz c0 c1 c2 c3 hO1 hC1 hF1 hb1 hs1 hX1 b0 b1 b2 b3
      generalize wr.alloc (.cells #[.int .i64 ts, .int .i64 tb, .int .i64 tc, .slice a2 l.length cap2] 58) = w4 at *
      generalize wr.heap.size = gx at *
      clear wr
      have hKl : K.length ≤ 64 := by have := congrArg List.length HK.out.1; simp [keysTo] at this; omega
      have hRl : R.length ≤ 64 := by have := congrArg List.length HK.out.2.1; simp [readsTo] at this; omega
      obtain ⟨aK, cK, rfl⟩ := owns_form hX.r.kr
      obtain ⟨aR, cR, rfl⟩ := owns_form hX.r.rr
      go_cut [41] from 31 to 41 (fun u wx => ∃ (v5 : Value) (vx : Value), u = .pointer (some ⟨w2.heap.size, 194, none⟩) ∧ OfS w2 gx ts tb tc (.slice a2 l.length cap2) h.length v5 (.slice aR R.length cR) sd (K ++ [(vx, keysOf l)]) R wx)
      case first =>
        have kd := (Below.refl w4.heap.size w4).drew
        have CK : Hid (∀ wx, Below w4.heap.size w4 wx → Calls Tryd.prog 34 #[.agg #[.int .i64 ts, .int .i64 tb, .int .i64 tc, .slice a2 l.length cap2]] wx fun e w' => ∃ v, e = .returned v ∧ w'.ownsRow (w2.heap.size + 2) 3 1 v (keysOf l).length ((keysOf l).map (Value.int .i64)) ∧ Below wx.heap.size wx w') := Lib.hid (fun wx hx => (okeys_any ts tb tc _ l wx (hOps1.below hx) HOL.out (by omega)).mono (fun e w' ⟨v, out, he, ho, hr, _, hbb⟩ => by
          obtain rfl := hr.eq (refWrites_rise HKL.out)
          refine ⟨v, he, own_base' ?_ (show w2.heap.size + 2 ≤ wx.heap.size by have h1 := hx.size; have h2 := hX.z; omega), hbb⟩
          unfold keysOf
          rw [List.length_map, List.map_map]
          exact ho))
        have HS : Hid (∀ wx, Below w4.heap.size w4 wx → SB (w2.heap.size + 1) w2.heap.size gx ts tb tc (.slice a2 l.length cap2) wx) := Lib.hid (fun wx hx => hX.s.below hx)
        have hc0 := hX.o.cK
        have HCL : Hid (∀ wx, Below w4.heap.size w4 wx → wx.cell? ⟨w2.heap.size, 194, none⟩ = some (.slice aK K.length cK)) := Lib.hid (fun wx hx => (hx.cell (p := ⟨w2.heap.size, 194, none⟩) (block_lt hc0)).trans hc0)
        have HCA : Hid (∀ wx, Below w4.heap.size w4 wx → ∀ o, (wx.alloc o).cell? ⟨w2.heap.size, 194, none⟩ = some (.slice aK K.length cK)) := Lib.hid (fun wx hx o => HCL.out _ (hx.alloc hx.size o))
        have HRO : Hid (∀ wx, Below w4.heap.size w4 wx → wx.ownsRow (w2.heap.size + 2) 26 1 (.slice aK K.length cK) K.length (K.map (·.1))) := Lib.hid (fun wx hx => owns_below hX.r.kr hx)
        have HSZ : Hid (∀ wx (o : Obj), Below w4.heap.size w4 wx → w2.heap.size + 2 ≤ (wx.alloc o).heap.size) := Lib.hid (fun wx o hx => by have h1 := hx.size; have h2 := hX.z; simp; omega)
        have HFIN := Lib.hid (fun wx w5 v v5 hx => hX.addK (wx := wx) (w5 := w5) (v := v) (v5 := v5) (t := 26) (l := keysOf l) hx)
        have n3 : Hid (K.length + 1 ≤ maxLen) := Lib.hid (by unfold maxLen; omega)
        have n4 : Hid ((K.length + 1) * 24 ≤ 140737488355328) := Lib.hid (by omega)
        refine wp_region_held_drew (S := SB (w2.heap.size + 1) w2.heap.size gx ts tb tc (.slice a2 l.length cap2)) (by kernel_rfl) hX.s.drew (fun hS0 => ?_)
        refine takeQ (some 31) (i := 0) (v := ?v1) rfl rfl (by kernel_rfl) (by kernel_rfl) (by kernel_rfl) (fun _ _ _ h => h) (Or.inl ⟨by rfl, ?h1⟩) hS0 ?r1
        case h1 => (intro w hw; obtain ⟨q0, q1, q2, q3, q4⟩ := hw; go_simp; try (with_reducible rfl))
        try simp only [Act.put, List.setIfInBounds_toArray, List.set_cons_zero, List.set_cons_succ]
        refine takeQ (some 32) (i := 1) (v := ?v2) rfl rfl (by kernel_rfl) (by kernel_rfl) (by kernel_rfl) (fun _ _ _ h => h) (Or.inl ⟨by rfl, ?h2⟩) hS0 ?r2
        case h2 => (intro w hw; obtain ⟨q0, q1, q2, q3, q4⟩ := hw; go_simp; try (with_reducible rfl))
        try simp only [Act.put, List.setIfInBounds_toArray, List.set_cons_zero, List.set_cons_succ]
        refine takeQ (some 36) (i := 5) (v := ?v3) rfl rfl (by kernel_rfl) (by kernel_rfl) (by kernel_rfl) (fun _ _ _ h => h) (Or.inl ⟨by rfl, ?h3⟩) hS0 ?r3
        case h3 => (intro w hw; obtain ⟨q0, q1, q2, q3, q4⟩ := hw; go_simp; try (with_reducible rfl))
        try simp only [Act.put, List.setIfInBounds_toArray, List.set_cons_zero, List.set_cons_succ]
        refine takeQ (some 33) (i := 2) (v := ?v4) rfl rfl (by kernel_rfl) (by kernel_rfl) (by kernel_rfl) (fun _ _ _ h => h) (Or.inl ⟨by rfl, ?h4⟩) hS0 ?r4
        case h4 => (intro w hw; obtain ⟨q0, q1, q2, q3, q4⟩ := hw; go_simp; try (with_reducible rfl))
        try simp only [Act.put, List.setIfInBounds_toArray, List.set_cons_zero, List.set_cons_succ]
        refine takeQ (some 34) (i := 3) (v := ?v5) rfl rfl (by kernel_rfl) (by kernel_rfl) (by kernel_rfl) (fun _ _ _ h => h) (Or.inl ⟨by rfl, ?h5⟩) hS0 ?r5
        case h5 => (intro w hw; obtain ⟨q0, q1, q2, q3, q4⟩ := hw; go_simp; try (with_reducible rfl))
        try simp only [Act.put, List.setIfInBounds_toArray, List.set_cons_zero, List.set_cons_succ]
        refine wpAnyH_ready (rs := [4, 6]) (by kernel_rfl) (by simp) ?_
        refine AllReadyH.cons rfl ?_ (AllReadyH.cons rfl ?_ AllReadyH.nil)
        · intro KK hKK
          go_simp
          refine hKK.out _ _ hS0 (fun _ => ?_)
          clear hKK KK
          refine wpAnyH_ready (rs := [6]) (by kernel_rfl) (by simp) ?_
          refine AllReadyH.cons rfl ?_ AllReadyH.nil
          intro KK hKK
          go_simp
          refine (CK.out _ kd).mono ?_
          rintro e wx ⟨vx, rfl, hox, hbx⟩
          obtain ⟨ax, cx, hvx⟩ := owns_form hox
          subst hvx
          show KK _ _
          have kk := below_then kd hbx
          have hS1 := HS.out _ kk
          have hcw := HCL.out _ kk
          refine hKK.out _ _ hS1 (fun _ => ?_)
          clear hKK KK
          refine wpAnyH_ready (rs := [7]) (by kernel_rfl) (by simp) ?_
          refine AllReadyH.cons rfl ?_ AllReadyH.nil
          intro KK hKK
          go_simp
          have hS2 := hS1.alloc (.cells #[.slice ax (keysOf l).length cx] 26)
          have hcw := HCA.out _ kk (.cells #[.slice ax (keysOf l).length cx] 26)
          refine hKK.out _ _ hS2 (fun _ => ?_)
          clear hKK KK
          refine wpAnyH_ready (rs := [8]) (by kernel_rfl) (by simp) ?_
          refine AllReadyH.cons rfl ?_ AllReadyH.nil
          intro KK hKK
          refine step_app _ rfl (.tmp 35) (.tmp 38) 70 rfl (w2.heap.size + 2) 26 i1 (.slice none 0 0) 1 24 Tryd.underlying70 hi1 hza1 hzb1 hzc1 rfl (by decide) (.slice aK K.length cK) K.length (K.map (·.1)) (by simp [Act.eval]) ((HRO.out _ kk).alloc _) ⟨_, 0, none⟩ 1 1 [.slice ax (keysOf l).length cx] (by rfl) rfl (cell_one_new _ _ _) (by intro u hu; simp at hu; subst hu; rfl) n3.out n4.out (HSZ.out _ _ kk) ?_
          intro v5 w5 hown5 hg5
          obtain ⟨a5, c5, hv5⟩ := owns_form hown5
          subst hv5
          obtain ⟨hfin, hS5, hfz, hcz⟩ := HFIN.out _ _ _ _ kk hox hown5 hg5
          show KK _ _
          refine hKK.out _ _ hS5 (fun _ => ?_)
          clear hKK KK
          refine takeQ (some 40) (i := 9) (v := ?v6) rfl rfl (by kernel_rfl) (by kernel_rfl) (by kernel_rfl) (fun _ _ _ h => h) (Or.inl ⟨by rfl, ?h6⟩) hS5 ?r6
          case h6 => (intro w hw; obtain ⟨q0, q1, q2, q3, q4⟩ := hw; go_simp; try (with_reducible rfl))
          try simp only [Act.put, List.setIfInBounds_toArray]
          refine takeQ (some 41) (i := 10) (v := ?v7) rfl rfl (by kernel_rfl) (by kernel_rfl) (by kernel_rfl) (fun _ _ _ h => h) (Or.inl ⟨by rfl, ?h7⟩) hS5 ?r7
          case h7 => (intro w hw; obtain ⟨q0, q1, q2, q3, q4⟩ := hw; go_simp; try (with_reducible rfl))
          try simp only [Act.put]
          refine wpAnyH_ready (rs := [11]) (by kernel_rfl) (by simp) ?_
          refine AllReadyH.cons rfl ?_ AllReadyH.nil
          intro KK hKK
          go_simp
          refine hKK.out _ _ hfin.s (fun _ => ?_)
          clear hKK KK
          refine wpAnyH_done (by kernel_rfl) ?_ _
          go_wp2_with fail
          go_meet
          exact ⟨_, _, rfl, hfin⟩
        · intro KK hKK
          go_simp
          refine (CK.out _ kd).mono ?_
          rintro e wx ⟨vx, rfl, hox, hbx⟩
          obtain ⟨ax, cx, hvx⟩ := owns_form hox
          subst hvx
          show KK _ _
          have kk := below_then kd hbx
          have hS1 := HS.out _ kk
          have hcw := HCL.out _ kk
          refine hKK.out _ _ hS1 (fun _ => ?_)
          clear hKK KK
          refine wpAnyH_ready (rs := [4, 7]) (by kernel_rfl) (by simp) ?_
          refine AllReadyH.cons rfl ?_ (AllReadyH.cons rfl ?_ AllReadyH.nil)
          · intro KK hKK
            go_simp
            refine hKK.out _ _ hS1 (fun _ => ?_)
            clear hKK KK
            refine wpAnyH_ready (rs := [7]) (by kernel_rfl) (by simp) ?_
            refine AllReadyH.cons rfl ?_ AllReadyH.nil
            intro KK hKK
            go_simp
            have hS2 := hS1.alloc (.cells #[.slice ax (keysOf l).length cx] 26)
            have hcw := HCA.out _ kk (.cells #[.slice ax (keysOf l).length cx] 26)
            refine hKK.out _ _ hS2 (fun _ => ?_)
            clear hKK KK
            refine wpAnyH_ready (rs := [8]) (by kernel_rfl) (by simp) ?_
            refine AllReadyH.cons rfl ?_ AllReadyH.nil
            intro KK hKK
            refine step_app _ rfl (.tmp 35) (.tmp 38) 70 rfl (w2.heap.size + 2) 26 i1 (.slice none 0 0) 1 24 Tryd.underlying70 hi1 hza1 hzb1 hzc1 rfl (by decide) (.slice aK K.length cK) K.length (K.map (·.1)) (by simp [Act.eval]) ((HRO.out _ kk).alloc _) ⟨_, 0, none⟩ 1 1 [.slice ax (keysOf l).length cx] (by rfl) rfl (cell_one_new _ _ _) (by intro u hu; simp at hu; subst hu; rfl) n3.out n4.out (HSZ.out _ _ kk) ?_
            intro v5 w5 hown5 hg5
            obtain ⟨a5, c5, hv5⟩ := owns_form hown5
            subst hv5
            obtain ⟨hfin, hS5, hfz, hcz⟩ := HFIN.out _ _ _ _ kk hox hown5 hg5
            show KK _ _
            refine hKK.out _ _ hS5 (fun _ => ?_)
            clear hKK KK
            refine takeQ (some 40) (i := 9) (v := ?v8) rfl rfl (by kernel_rfl) (by kernel_rfl) (by kernel_rfl) (fun _ _ _ h => h) (Or.inl ⟨by rfl, ?h8⟩) hS5 ?r8
            case h8 => (intro w hw; obtain ⟨q0, q1, q2, q3, q4⟩ := hw; go_simp; try (with_reducible rfl))
            try simp only [Act.put, List.setIfInBounds_toArray]
            refine takeQ (some 41) (i := 10) (v := ?v9) rfl rfl (by kernel_rfl) (by kernel_rfl) (by kernel_rfl) (fun _ _ _ h => h) (Or.inl ⟨by rfl, ?h9⟩) hS5 ?r9
            case h9 => (intro w hw; obtain ⟨q0, q1, q2, q3, q4⟩ := hw; go_simp; try (with_reducible rfl))
            try simp only [Act.put]
            refine wpAnyH_ready (rs := [11]) (by kernel_rfl) (by simp) ?_
            refine AllReadyH.cons rfl ?_ AllReadyH.nil
            intro KK hKK
            go_simp
            refine hKK.out _ _ hfin.s (fun _ => ?_)
            clear hKK KK
            refine wpAnyH_done (by kernel_rfl) ?_ _
            go_wp2_with fail
            go_meet
            exact ⟨_, _, rfl, hfin⟩
          · intro KK hKK
            go_simp
            have hS2 := hS1.alloc (.cells #[.slice ax (keysOf l).length cx] 26)
            have hcw := HCA.out _ kk (.cells #[.slice ax (keysOf l).length cx] 26)
            refine hKK.out _ _ hS2 (fun _ => ?_)
            clear hKK KK
            refine wpAnyH_ready (rs := [4]) (by kernel_rfl) (by simp) ?_
            refine AllReadyH.cons rfl ?_ AllReadyH.nil
            intro KK hKK
            go_simp
            refine hKK.out _ _ hS2 (fun _ => ?_)
            clear hKK KK
            refine wpAnyH_ready (rs := [8]) (by kernel_rfl) (by simp) ?_
            refine AllReadyH.cons rfl ?_ AllReadyH.nil
            intro KK hKK
            refine step_app _ rfl (.tmp 35) (.tmp 38) 70 rfl (w2.heap.size + 2) 26 i1 (.slice none 0 0) 1 24 Tryd.underlying70 hi1 hza1 hzb1 hzc1 rfl (by decide) (.slice aK K.length cK) K.length (K.map (·.1)) (by simp [Act.eval]) ((HRO.out _ kk).alloc _) ⟨_, 0, none⟩ 1 1 [.slice ax (keysOf l).length cx] (by rfl) rfl (cell_one_new _ _ _) (by intro u hu; simp at hu; subst hu; rfl) n3.out n4.out (HSZ.out _ _ kk) ?_
            intro v5 w5 hown5 hg5
            obtain ⟨a5, c5, hv5⟩ := owns_form hown5
            subst hv5
            obtain ⟨hfin, hS5, hfz, hcz⟩ := HFIN.out _ _ _ _ kk hox hown5 hg5
            show KK _ _
            refine hKK.out _ _ hS5 (fun _ => ?_)
            clear hKK KK
            refine takeQ (some 40) (i := 9) (v := ?v10) rfl rfl (by kernel_rfl) (by kernel_rfl) (by kernel_rfl) (fun _ _ _ h => h) (Or.inl ⟨by rfl, ?h10⟩) hS5 ?r10
            case h10 => (intro w hw; obtain ⟨q0, q1, q2, q3, q4⟩ := hw; go_simp; try (with_reducible rfl))
            try simp only [Act.put, List.setIfInBounds_toArray]
            refine takeQ (some 41) (i := 10) (v := ?v11) rfl rfl (by kernel_rfl) (by kernel_rfl) (by kernel_rfl) (fun _ _ _ h => h) (Or.inl ⟨by rfl, ?h11⟩) hS5 ?r11
            case h11 => (intro w hw; obtain ⟨q0, q1, q2, q3, q4⟩ := hw; go_simp; try (with_reducible rfl))
            try simp only [Act.put]
            refine wpAnyH_ready (rs := [11]) (by kernel_rfl) (by simp) ?_
            refine AllReadyH.cons rfl ?_ AllReadyH.nil
            intro KK hKK
            go_simp
            refine hKK.out _ _ hfin.s (fun _ => ?_)
            clear hKK KK
            refine wpAnyH_done (by kernel_rfl) ?_ _
            go_wp2_with fail
            go_meet
            exact ⟨_, _, rfl, hfin⟩
      case rest =>
        obtain ⟨vk5, vx, rfl, hX5⟩ := hcut
        clear hX hOps1
        have hX := hX5
        clear hX5
        have HRD : Hid (∃ rd, rd = rdFr (wrTo h h.length) (k : Int) (refReads l)) := Lib.hid ⟨_, rfl⟩
        obtain ⟨rd, hrd⟩ := HRD.out
        have HRD2 := Lib.hid hrd
        clear hrd HRD
        go_upto_region 10 with fail
        go_cut [54] from 42 to 54 (fun u wx => ∃ (v5 : Value) (vy : Value), u = .pointer (some ⟨w2.heap.size, 195, none⟩) ∧ OfS w2 gx ts tb tc (.slice a2 l.length cap2) h.length vk5 v5 sd (K ++ [(vx, keysOf l)]) (R ++ [(vy, rd)]) wx)
        case first =>
          have hOps1 := HOPF.out wc hX.b
          have hMc := hM.below hX.b
          have kd := (Below.refl wc.heap.size wc).drew
          have CK : Hid (∀ wx, Below wc.heap.size wc wx → Calls Tryd.prog 35 #[.int .i64 k, .agg #[.int .i64 ts, .int .i64 tb, .int .i64 tc, .slice a2 l.length cap2], .map (some bm)] wx fun e w' => ∃ v, e = .returned v ∧ w'.ownsRow (w2.heap.size + 2) 93 2 v rd.length (frV rd) ∧ Below wx.heap.size wx w') := Lib.hid (fun wx hx => (oreads_any (k : Int) ts tb tc _ l (wrTo h h.length) bm _ _ wx (hOps1.below hx) HOL.out (by omega) (hMc.below hx)).mono (fun e w' ⟨v, out, he, ho, hr, _, hbb⟩ => by
            obtain rfl := hr.eq (refReads_rise HKL.out)
            rw [← HRD2.out] at ho
            exact ⟨v, he, own_base' ho (show w2.heap.size + 2 ≤ wx.heap.size by have h1 := hx.size; have h2 := hX.z; omega), hbb⟩))
          have HS : Hid (∀ wx, Below wc.heap.size wc wx → SB (w2.heap.size + 1) w2.heap.size gx ts tb tc (.slice a2 l.length cap2) wx) := Lib.hid (fun wx hx => hX.s.below hx)
          have hc0 := hX.o.cR
          have HCL : Hid (∀ wx, Below wc.heap.size wc wx → wx.cell? ⟨w2.heap.size, 195, none⟩ = some (.slice aR R.length cR)) := Lib.hid (fun wx hx => (hx.cell (p := ⟨w2.heap.size, 195, none⟩) (block_lt hc0)).trans hc0)
          have HCA : Hid (∀ wx, Below wc.heap.size wc wx → ∀ o, (wx.alloc o).cell? ⟨w2.heap.size, 195, none⟩ = some (.slice aR R.length cR)) := Lib.hid (fun wx hx o => HCL.out _ (hx.alloc hx.size o))
          have HRO : Hid (∀ wx, Below wc.heap.size wc wx → wx.ownsRow (w2.heap.size + 2) 85 1 (.slice aR R.length cR) R.length (R.map (·.1))) := Lib.hid (fun wx hx => owns_below hX.r.rr hx)
          have HSZ : Hid (∀ wx (o : Obj), Below wc.heap.size wc wx → w2.heap.size + 2 ≤ (wx.alloc o).heap.size) := Lib.hid (fun wx o hx => by have h1 := hx.size; have h2 := hX.z; simp; omega)
          have HFIN := Lib.hid (fun wx w5 v v5 hx => hX.addR (wx := wx) (w5 := w5) (v := v) (v5 := v5) (t := 85) (l := rd) hx)
          have n3 : Hid (R.length + 1 ≤ maxLen) := Lib.hid (by unfold maxLen; omega)
          have n4 : Hid ((R.length + 1) * 24 ≤ 140737488355328) := Lib.hid (by omega)
          refine wp_region_held_drew (S := SB (w2.heap.size + 1) w2.heap.size gx ts tb tc (.slice a2 l.length cap2)) (by kernel_rfl) hX.s.drew (fun hS0 => ?_)
          refine takeQ (some 42) (i := 0) (v := ?v101) rfl rfl (by kernel_rfl) (by kernel_rfl) (by kernel_rfl) (fun _ _ _ h => h) (Or.inl ⟨by rfl, ?h101⟩) hS0 ?r101
          case h101 => (intro w hw; obtain ⟨q0, q1, q2, q3, q4⟩ := hw; go_simp; try (with_reducible rfl))
          try simp only [Act.put, List.setIfInBounds_toArray, List.set_cons_zero, List.set_cons_succ]
          refine takeQ (some 43) (i := 1) (v := ?v102) rfl rfl (by kernel_rfl) (by kernel_rfl) (by kernel_rfl) (fun _ _ _ h => h) (Or.inl ⟨by rfl, ?h102⟩) hS0 ?r102
          case h102 => (intro w hw; obtain ⟨q0, q1, q2, q3, q4⟩ := hw; go_simp; try (with_reducible rfl))
          try simp only [Act.put, List.setIfInBounds_toArray, List.set_cons_zero, List.set_cons_succ]
          refine takeQ (some 47) (i := 5) (v := ?v103) rfl rfl (by kernel_rfl) (by kernel_rfl) (by kernel_rfl) (fun _ _ _ h => h) (Or.inl ⟨by rfl, ?h103⟩) hS0 ?r103
          case h103 => (intro w hw; obtain ⟨q0, q1, q2, q3, q4⟩ := hw; go_simp; try (with_reducible rfl))
          try simp only [Act.put, List.setIfInBounds_toArray, List.set_cons_zero, List.set_cons_succ]
          refine takeQ (some 48) (i := 6) (v := ?v104) rfl rfl (by kernel_rfl) (by kernel_rfl) (by kernel_rfl) (fun _ _ _ h => h) (Or.inl ⟨by rfl, ?h104⟩) hS0 ?r104
          case h104 => (intro w hw; obtain ⟨q0, q1, q2, q3, q4⟩ := hw; go_simp; try (with_reducible rfl))
          try simp only [Act.put, List.setIfInBounds_toArray, List.set_cons_zero, List.set_cons_succ]
          refine takeQ (some 49) (i := 7) (v := ?v105) rfl rfl (by kernel_rfl) (by kernel_rfl) (by kernel_rfl) (fun _ _ _ h => h) (Or.inl ⟨by rfl, ?h105⟩) hS0 ?r105
          case h105 => (intro w hw; obtain ⟨q0, q1, q2, q3, q4⟩ := hw; go_simp; try (with_reducible rfl))
          try simp only [Act.put, List.setIfInBounds_toArray, List.set_cons_zero, List.set_cons_succ]
          refine takeQ (some 44) (i := 2) (v := ?v106) rfl rfl (by kernel_rfl) (by kernel_rfl) (by kernel_rfl) (fun _ _ _ h => h) (Or.inl ⟨by rfl, ?h106⟩) hS0 ?r106
          case h106 => (intro w hw; obtain ⟨q0, q1, q2, q3, q4⟩ := hw; go_simp; try (with_reducible rfl))
          try simp only [Act.put, List.setIfInBounds_toArray, List.set_cons_zero, List.set_cons_succ]
          refine takeQ (some 45) (i := 3) (v := ?v107) rfl rfl (by kernel_rfl) (by kernel_rfl) (by kernel_rfl) (fun _ _ _ h => h) (Or.inl ⟨by rfl, ?h107⟩) hS0 ?r107
          case h107 => (intro w hw; obtain ⟨q0, q1, q2, q3, q4⟩ := hw; go_simp; try (with_reducible rfl))
          try simp only [Act.put, List.setIfInBounds_toArray, List.set_cons_zero, List.set_cons_succ]
          refine wpAnyH_ready (rs := [4, 8]) (by kernel_rfl) (by simp) ?_
          refine AllReadyH.cons rfl ?_ (AllReadyH.cons rfl ?_ AllReadyH.nil)
          · intro KK hKK
            go_simp
            refine hKK.out _ _ hS0 (fun _ => ?_)
            clear hKK KK
            refine wpAnyH_ready (rs := [8]) (by kernel_rfl) (by simp) ?_
            refine AllReadyH.cons rfl ?_ AllReadyH.nil
            intro KK hKK
            go_simp
            refine (CK.out _ kd).mono ?_
            rintro e wx ⟨vx, rfl, hox, hbx⟩
            obtain ⟨ax, cx, hvx⟩ := owns_form hox
            subst hvx
            show KK _ _
            have kk := below_then kd hbx
            have hS1 := HS.out _ kk
            have hcw := HCL.out _ kk
            refine hKK.out _ _ hS1 (fun _ => ?_)
            clear hKK KK
            refine wpAnyH_ready (rs := [9]) (by kernel_rfl) (by simp) ?_
            refine AllReadyH.cons rfl ?_ AllReadyH.nil
            intro KK hKK
            go_simp
            have hS2 := hS1.alloc (.cells #[.slice ax rd.length cx] 85)
            have hcw := HCA.out _ kk (.cells #[.slice ax rd.length cx] 85)
            refine hKK.out _ _ hS2 (fun _ => ?_)
            clear hKK KK
            refine wpAnyH_ready (rs := [10]) (by kernel_rfl) (by simp) ?_
            refine AllReadyH.cons rfl ?_ AllReadyH.nil
            intro KK hKK
            refine step_app _ rfl (.tmp 46) (.tmp 51) 71 rfl (w2.heap.size + 2) 85 i2 (.slice none 0 0) 1 24 Tryd.underlying71 hi2 hza2 hzb2 hzc2 rfl (by decide) (.slice aR R.length cR) R.length (R.map (·.1)) (by simp [Act.eval]) ((HRO.out _ kk).alloc _) ⟨_, 0, none⟩ 1 1 [.slice ax rd.length cx] (by rfl) rfl (cell_one_new _ _ _) (by intro u hu; simp at hu; subst hu; rfl) n3.out n4.out (HSZ.out _ _ kk) ?_
            intro v5 w5 hown5 hg5
            obtain ⟨a5, c5, hv5⟩ := owns_form hown5
            subst hv5
            obtain ⟨hfin, hS5, hfz, hcz⟩ := HFIN.out _ _ _ _ kk hox hown5 hg5
            show KK _ _
            refine hKK.out _ _ hS5 (fun _ => ?_)
            clear hKK KK
            refine takeQ (some 53) (i := 11) (v := ?v108) rfl rfl (by kernel_rfl) (by kernel_rfl) (by kernel_rfl) (fun _ _ _ h => h) (Or.inl ⟨by rfl, ?h108⟩) hS5 ?r108
            case h108 => (intro w hw; obtain ⟨q0, q1, q2, q3, q4⟩ := hw; go_simp; try (with_reducible rfl))
            try simp only [Act.put, List.setIfInBounds_toArray]
            refine takeQ (some 54) (i := 12) (v := ?v109) rfl rfl (by kernel_rfl) (by kernel_rfl) (by kernel_rfl) (fun _ _ _ h => h) (Or.inl ⟨by rfl, ?h109⟩) hS5 ?r109
            case h109 => (intro w hw; obtain ⟨q0, q1, q2, q3, q4⟩ := hw; go_simp; try (with_reducible rfl))
            try simp only [Act.put]
            refine wpAnyH_ready (rs := [13]) (by kernel_rfl) (by simp) ?_
            refine AllReadyH.cons rfl ?_ AllReadyH.nil
            intro KK hKK
            go_simp
            refine hKK.out _ _ hfin.s (fun _ => ?_)
            clear hKK KK
            refine wpAnyH_done (by kernel_rfl) ?_ _
            go_wp2_with fail
            go_meet
            exact ⟨_, _, rfl, hfin⟩
          · intro KK hKK
            go_simp
            refine (CK.out _ kd).mono ?_
            rintro e wx ⟨vx, rfl, hox, hbx⟩
            obtain ⟨ax, cx, hvx⟩ := owns_form hox
            subst hvx
            show KK _ _
            have kk := below_then kd hbx
            have hS1 := HS.out _ kk
            have hcw := HCL.out _ kk
            refine hKK.out _ _ hS1 (fun _ => ?_)
            clear hKK KK
            refine wpAnyH_ready (rs := [4, 9]) (by kernel_rfl) (by simp) ?_
            refine AllReadyH.cons rfl ?_ (AllReadyH.cons rfl ?_ AllReadyH.nil)
            · intro KK hKK
              go_simp
              refine hKK.out _ _ hS1 (fun _ => ?_)
              clear hKK KK
              refine wpAnyH_ready (rs := [9]) (by kernel_rfl) (by simp) ?_
              refine AllReadyH.cons rfl ?_ AllReadyH.nil
              intro KK hKK
              go_simp
              have hS2 := hS1.alloc (.cells #[.slice ax rd.length cx] 85)
              have hcw := HCA.out _ kk (.cells #[.slice ax rd.length cx] 85)
              refine hKK.out _ _ hS2 (fun _ => ?_)
              clear hKK KK
              refine wpAnyH_ready (rs := [10]) (by kernel_rfl) (by simp) ?_
              refine AllReadyH.cons rfl ?_ AllReadyH.nil
              intro KK hKK
              refine step_app _ rfl (.tmp 46) (.tmp 51) 71 rfl (w2.heap.size + 2) 85 i2 (.slice none 0 0) 1 24 Tryd.underlying71 hi2 hza2 hzb2 hzc2 rfl (by decide) (.slice aR R.length cR) R.length (R.map (·.1)) (by simp [Act.eval]) ((HRO.out _ kk).alloc _) ⟨_, 0, none⟩ 1 1 [.slice ax rd.length cx] (by rfl) rfl (cell_one_new _ _ _) (by intro u hu; simp at hu; subst hu; rfl) n3.out n4.out (HSZ.out _ _ kk) ?_
              intro v5 w5 hown5 hg5
              obtain ⟨a5, c5, hv5⟩ := owns_form hown5
              subst hv5
              obtain ⟨hfin, hS5, hfz, hcz⟩ := HFIN.out _ _ _ _ kk hox hown5 hg5
              show KK _ _
              refine hKK.out _ _ hS5 (fun _ => ?_)
              clear hKK KK
              refine takeQ (some 53) (i := 11) (v := ?v110) rfl rfl (by kernel_rfl) (by kernel_rfl) (by kernel_rfl) (fun _ _ _ h => h) (Or.inl ⟨by rfl, ?h110⟩) hS5 ?r110
              case h110 => (intro w hw; obtain ⟨q0, q1, q2, q3, q4⟩ := hw; go_simp; try (with_reducible rfl))
              try simp only [Act.put, List.setIfInBounds_toArray]
              refine takeQ (some 54) (i := 12) (v := ?v111) rfl rfl (by kernel_rfl) (by kernel_rfl) (by kernel_rfl) (fun _ _ _ h => h) (Or.inl ⟨by rfl, ?h111⟩) hS5 ?r111
              case h111 => (intro w hw; obtain ⟨q0, q1, q2, q3, q4⟩ := hw; go_simp; try (with_reducible rfl))
              try simp only [Act.put]
              refine wpAnyH_ready (rs := [13]) (by kernel_rfl) (by simp) ?_
              refine AllReadyH.cons rfl ?_ AllReadyH.nil
              intro KK hKK
              go_simp
              refine hKK.out _ _ hfin.s (fun _ => ?_)
              clear hKK KK
              refine wpAnyH_done (by kernel_rfl) ?_ _
              go_wp2_with fail
              go_meet
              exact ⟨_, _, rfl, hfin⟩
            · intro KK hKK
              go_simp
              have hS2 := hS1.alloc (.cells #[.slice ax rd.length cx] 85)
              have hcw := HCA.out _ kk (.cells #[.slice ax rd.length cx] 85)
              refine hKK.out _ _ hS2 (fun _ => ?_)
              clear hKK KK
              refine wpAnyH_ready (rs := [4]) (by kernel_rfl) (by simp) ?_
              refine AllReadyH.cons rfl ?_ AllReadyH.nil
              intro KK hKK
              go_simp
              refine hKK.out _ _ hS2 (fun _ => ?_)
              clear hKK KK
              refine wpAnyH_ready (rs := [10]) (by kernel_rfl) (by simp) ?_
              refine AllReadyH.cons rfl ?_ AllReadyH.nil
              intro KK hKK
              refine step_app _ rfl (.tmp 46) (.tmp 51) 71 rfl (w2.heap.size + 2) 85 i2 (.slice none 0 0) 1 24 Tryd.underlying71 hi2 hza2 hzb2 hzc2 rfl (by decide) (.slice aR R.length cR) R.length (R.map (·.1)) (by simp [Act.eval]) ((HRO.out _ kk).alloc _) ⟨_, 0, none⟩ 1 1 [.slice ax rd.length cx] (by rfl) rfl (cell_one_new _ _ _) (by intro u hu; simp at hu; subst hu; rfl) n3.out n4.out (HSZ.out _ _ kk) ?_
              intro v5 w5 hown5 hg5
              obtain ⟨a5, c5, hv5⟩ := owns_form hown5
              subst hv5
              obtain ⟨hfin, hS5, hfz, hcz⟩ := HFIN.out _ _ _ _ kk hox hown5 hg5
              show KK _ _
              refine hKK.out _ _ hS5 (fun _ => ?_)
              clear hKK KK
              refine takeQ (some 53) (i := 11) (v := ?v112) rfl rfl (by kernel_rfl) (by kernel_rfl) (by kernel_rfl) (fun _ _ _ h => h) (Or.inl ⟨by rfl, ?h112⟩) hS5 ?r112
              case h112 => (intro w hw; obtain ⟨q0, q1, q2, q3, q4⟩ := hw; go_simp; try (with_reducible rfl))
              try simp only [Act.put, List.setIfInBounds_toArray]
              refine takeQ (some 54) (i := 12) (v := ?v113) rfl rfl (by kernel_rfl) (by kernel_rfl) (by kernel_rfl) (fun _ _ _ h => h) (Or.inl ⟨by rfl, ?h113⟩) hS5 ?r113
              case h113 => (intro w hw; obtain ⟨q0, q1, q2, q3, q4⟩ := hw; go_simp; try (with_reducible rfl))
              try simp only [Act.put]
              refine wpAnyH_ready (rs := [13]) (by kernel_rfl) (by simp) ?_
              refine AllReadyH.cons rfl ?_ AllReadyH.nil
              intro KK hKK
              go_simp
              refine hKK.out _ _ hfin.s (fun _ => ?_)
              clear hKK KK
              refine wpAnyH_done (by kernel_rfl) ?_ _
              go_wp2_with fail
              go_meet
              exact ⟨_, _, rfl, hfin⟩
        case rest =>
          obtain ⟨vr5, vy, rfl, hX5⟩ := hcut
          clear hX
          have hX := hX5
          clear hX5
          have hOps1 := HOPF.out wc hX.b
          have hMc := hM.below hX.b
          have kd := (Below.refl wc.heap.size wc).drew
          have HSO : Hid (∃ so, so = (!(refReads l).any (badFr (wrTo h h.length) (k : Int)) && steadyL l)) := Lib.hid ⟨_, rfl⟩
          obtain ⟨so, hso⟩ := HSO.out
          have HSO2 := Lib.hid hso
          clear hso HSO
          have CK : Hid (∀ wx, Below wc.heap.size wc wx → Calls Tryd.prog 36 #[.int .i64 k, .agg #[.int .i64 ts, .int .i64 tb, .int .i64 tc, .slice a2 l.length cap2], .map (some bm)] wx fun e w' => e = .returned (.bool so) ∧ Below wx.heap.size wx w') := Lib.hid (fun wx hx => (osound_any (k : Int) ts tb tc _ l (wrTo h h.length) bm _ _ wx (hOps1.below hx) HOL.out (by omega) (hMc.below hx)).mono (fun e w' ⟨out, he, hr, _, hbb⟩ => by
            obtain rfl := hr.eq (refReads_rise HKL.out)
            rw [← HSO2.out] at he
            exact ⟨he, hbb⟩))
          have HK0 : Hid ((K ++ [(vx, keysOf l)]).map (·.2) = keysTo h (k + 1) ∧ (R ++ [(vy, rd)]).map (·.2) = readsTo h (k + 1) ∧ (sd && so) = soundTo h (k + 1)) := Lib.hid (by
            refine ⟨?_, ?_, ?_⟩
            · rw [List.map_append, keysTo_succ, ← HK.out.1, HLK.out]; rfl
            · rw [List.map_append, readsTo_succ, ← HK.out.2.1]
              unfold readsOf
              rw [HLK.out, ← HRD2.out]; rfl
            · rw [soundTo_succ, ← HK.out.2.2]
              unfold soundOf
              rw [HLK.out, ← HSO2.out])
          go_upto_region 11 with fail
          cases sd
          · have HK1 : Hid ((K ++ [(vx, keysOf l)]).map (·.2) = keysTo h (k + 1) ∧ (R ++ [(vy, rd)]).map (·.2) = readsTo h (k + 1) ∧ false = soundTo h (k + 1)) := Lib.hid HK0.out
            clear HK0
            refine wp_region_held_drew (S := SB (w2.heap.size + 1) w2.heap.size gx ts tb tc (.slice a2 l.length cap2)) (by kernel_rfl) hX.s.drew (fun hS0 => ?_)
            have hc0 := hX.o.cS
            refine takeQ (some 55) (i := 0) (v := ?v201) rfl rfl (by kernel_rfl) (by kernel_rfl) (by kernel_rfl) (fun _ _ _ h => h) (Or.inl ⟨by rfl, ?h201⟩) hS0 ?r201
            case h201 => (intro w hw; obtain ⟨q0, q1, q2, q3, q4⟩ := hw; go_simp; try (with_reducible rfl))
            try simp only [Act.put, List.setIfInBounds_toArray, List.set_cons_zero, List.set_cons_succ]
            refine takeQ (some 56) (i := 1) (v := ?v202) rfl rfl (by kernel_rfl) (by kernel_rfl) (by kernel_rfl) (fun _ _ _ h => h) (Or.inl ⟨by rfl, ?h202⟩) hS0 ?r202
            case h202 => (intro w hw; obtain ⟨q0, q1, q2, q3, q4⟩ := hw; go_simp; try (with_reducible rfl))
            try simp only [Act.put, List.setIfInBounds_toArray, List.set_cons_zero, List.set_cons_succ]
            refine takeQ (some 57) (i := 2) (v := ?v203) rfl rfl (by kernel_rfl) (by kernel_rfl) (by kernel_rfl) (fun _ _ _ h => h) (Or.inl ⟨by rfl, ?h203⟩) hS0 ?r203
            case h203 => (intro w hw; obtain ⟨q0, q1, q2, q3, q4⟩ := hw; go_simp; try (with_reducible rfl))
            try simp only [Act.put, List.setIfInBounds_toArray, List.set_cons_zero, List.set_cons_succ]
            refine takeQ (some 58) (i := 3) (v := ?v204) rfl rfl (by kernel_rfl) (by kernel_rfl) (by kernel_rfl) (fun _ _ _ h => h) (Or.inl ⟨by rfl, ?h204⟩) hS0 ?r204
            case h204 => (intro w hw; obtain ⟨q0, q1, q2, q3, q4⟩ := hw; go_simp; try (with_reducible rfl))
            try simp only [Act.put, List.setIfInBounds_toArray, List.set_cons_zero, List.set_cons_succ]
            refine wpAnyH_ready (rs := [4]) (by kernel_rfl) (by simp) ?_
            refine AllReadyH.cons rfl ?_ AllReadyH.nil
            intro KK hKK
            go_simp
            refine hKK.out _ _ hS0 (fun _ => ?_)
            clear hKK KK
            refine takeQ (some 60) (i := 5) (v := ?v205) rfl rfl (by kernel_rfl) (by kernel_rfl) (by kernel_rfl) (fun _ _ _ h => h) (Or.inl ⟨by rfl, ?h205⟩) hS0 ?r205
            case h205 => (intro w hw; obtain ⟨q0, q1, q2, q3, q4⟩ := hw; go_simp; try (with_reducible rfl))
            try simp only [Act.put, List.setIfInBounds_toArray, List.set_cons_zero, List.set_cons_succ]
            refine takeQ (some 61) (i := 6) (v := undef) rfl rfl (by kernel_rfl) (by kernel_rfl) (by kernel_rfl) (fun _ _ _ h => h) (Or.inr ⟨by rfl, rfl⟩) hS0 ?_
            try simp only [Act.put, List.setIfInBounds_toArray, List.set_cons_zero, List.set_cons_succ]
            refine takeQ (some 62) (i := 7) (v := undef) rfl rfl (by kernel_rfl) (by kernel_rfl) (by kernel_rfl) (fun _ _ _ h => h) (Or.inr ⟨by rfl, rfl⟩) hS0 ?_
            try simp only [Act.put, List.setIfInBounds_toArray, List.set_cons_zero, List.set_cons_succ]
            refine takeQ (some 63) (i := 8) (v := undef) rfl rfl (by kernel_rfl) (by kernel_rfl) (by kernel_rfl) (fun _ _ _ h => h) (Or.inr ⟨by rfl, rfl⟩) hS0 ?_
            try simp only [Act.put, List.setIfInBounds_toArray, List.set_cons_zero, List.set_cons_succ]
            refine wpAnyH_ready (rs := [9]) (by kernel_rfl) (by simp) ?_
            refine AllReadyH.cons rfl ?_ AllReadyH.nil
            intro KK hKK
            go_simp
            have hY := hX.below kd
            have hf := hY.o.free (i := 196) (by omega)
            have hc := hY.o.cS
            refine hKK.out _ _ hS0 (fun _ => ?_)
            clear hKK KK
            refine takeQ (some 65) (i := 10) (v := ?v206) rfl rfl (by kernel_rfl) (by kernel_rfl) (by kernel_rfl) (fun _ _ _ h => h) (Or.inl ⟨by rfl, ?h206⟩) hS0 ?r206
            case h206 => (intro w hw; obtain ⟨q0, q1, q2, q3, q4⟩ := hw; go_simp; try (with_reducible rfl))
            try simp only [Act.put, List.setIfInBounds_toArray, List.set_cons_zero, List.set_cons_succ]
            refine takeQ (some 66) (i := 11) (v := ?v207) rfl rfl (by kernel_rfl) (by kernel_rfl) (by kernel_rfl) (fun _ _ _ h => h) (Or.inl ⟨by rfl, ?h207⟩) hS0 ?r207
            case h207 => (intro w hw; obtain ⟨q0, q1, q2, q3, q4⟩ := hw; go_simp; try (with_reducible rfl))
            try simp only [Act.put, List.setIfInBounds_toArray, List.set_cons_zero, List.set_cons_succ]
            refine takeQ (some 67) (i := 12) (v := ?v208) rfl rfl (by kernel_rfl) (by kernel_rfl) (by kernel_rfl) (fun _ _ _ h => h) (Or.inl ⟨by rfl, ?h208⟩) hS0 ?r208
            case h208 => (intro w hw; obtain ⟨q0, q1, q2, q3, q4⟩ := hw; go_simp; try (with_reducible rfl))
            try simp only [Act.put, List.setIfInBounds_toArray, List.set_cons_zero, List.set_cons_succ]
            refine wpAnyH_ready (rs := [13]) (by kernel_rfl) (by simp) ?_
            refine AllReadyH.cons rfl ?_ AllReadyH.nil
            intro KK hKK
            go_simp
            have hZ := hY.setS false
            refine hKK.out _ _ hZ.s (fun _ => ?_)
            clear hKK KK
            refine wpAnyH_done (by kernel_rfl) ?_ _
            clear hX hY CK kd hc hf hS0
            go_wp2_with fail
            go_roundw
            case rel => exact ⟨k + 1, _, _, _, _, _, by omega, by go_num, HK1.out.1, HK1.out.2.1, HK1.out.2.2, hZ.o, hZ.s.1, hZ.r, hZ.b, hZ.z⟩
            case measure => simp [intOf]; omega
          · have HK1 : Hid ((K ++ [(vx, keysOf l)]).map (·.2) = keysTo h (k + 1) ∧ (R ++ [(vy, rd)]).map (·.2) = readsTo h (k + 1) ∧ so = soundTo h (k + 1)) := Lib.hid HK0.out
            clear HK0
            refine wp_region_held_drew (S := SB (w2.heap.size + 1) w2.heap.size gx ts tb tc (.slice a2 l.length cap2)) (by kernel_rfl) hX.s.drew (fun hS0 => ?_)
            have hc0 := hX.o.cS
            refine takeQ (some 55) (i := 0) (v := ?v301) rfl rfl (by kernel_rfl) (by kernel_rfl) (by kernel_rfl) (fun _ _ _ h => h) (Or.inl ⟨by rfl, ?h301⟩) hS0 ?r301
            case h301 => (intro w hw; obtain ⟨q0, q1, q2, q3, q4⟩ := hw; go_simp; try (with_reducible rfl))
            try simp only [Act.put, List.setIfInBounds_toArray, List.set_cons_zero, List.set_cons_succ]
            refine takeQ (some 56) (i := 1) (v := ?v302) rfl rfl (by kernel_rfl) (by kernel_rfl) (by kernel_rfl) (fun _ _ _ h => h) (Or.inl ⟨by rfl, ?h302⟩) hS0 ?r302
            case h302 => (intro w hw; obtain ⟨q0, q1, q2, q3, q4⟩ := hw; go_simp; try (with_reducible rfl))
            try simp only [Act.put, List.setIfInBounds_toArray, List.set_cons_zero, List.set_cons_succ]
            refine takeQ (some 57) (i := 2) (v := ?v303) rfl rfl (by kernel_rfl) (by kernel_rfl) (by kernel_rfl) (fun _ _ _ h => h) (Or.inl ⟨by rfl, ?h303⟩) hS0 ?r303
            case h303 => (intro w hw; obtain ⟨q0, q1, q2, q3, q4⟩ := hw; go_simp; try (with_reducible rfl))
            try simp only [Act.put, List.setIfInBounds_toArray, List.set_cons_zero, List.set_cons_succ]
            refine takeQ (some 58) (i := 3) (v := ?v304) rfl rfl (by kernel_rfl) (by kernel_rfl) (by kernel_rfl) (fun _ _ _ h => h) (Or.inl ⟨by rfl, ?h304⟩) hS0 ?r304
            case h304 => (intro w hw; obtain ⟨q0, q1, q2, q3, q4⟩ := hw; go_simp; try (with_reducible rfl))
            try simp only [Act.put, List.setIfInBounds_toArray, List.set_cons_zero, List.set_cons_succ]
            refine wpAnyH_ready (rs := [4]) (by kernel_rfl) (by simp) ?_
            refine AllReadyH.cons rfl ?_ AllReadyH.nil
            intro KK hKK
            go_simp
            refine hKK.out _ _ hS0 (fun _ => ?_)
            clear hKK KK
            refine takeQ (some 60) (i := 5) (v := ?v305) rfl rfl (by kernel_rfl) (by kernel_rfl) (by kernel_rfl) (fun _ _ _ h => h) (Or.inl ⟨by rfl, ?h305⟩) hS0 ?r305
            case h305 => (intro w hw; obtain ⟨q0, q1, q2, q3, q4⟩ := hw; go_simp; try (with_reducible rfl))
            try simp only [Act.put, List.setIfInBounds_toArray, List.set_cons_zero, List.set_cons_succ]
            refine takeQ (some 61) (i := 6) (v := ?v306) rfl rfl (by kernel_rfl) (by kernel_rfl) (by kernel_rfl) (fun _ _ _ h => h) (Or.inl ⟨by rfl, ?h306⟩) hS0 ?r306
            case h306 => (intro w hw; obtain ⟨q0, q1, q2, q3, q4⟩ := hw; go_simp; try (with_reducible rfl))
            try simp only [Act.put, List.setIfInBounds_toArray, List.set_cons_zero, List.set_cons_succ]
            refine takeQ (some 62) (i := 7) (v := ?v307) rfl rfl (by kernel_rfl) (by kernel_rfl) (by kernel_rfl) (fun _ _ _ h => h) (Or.inl ⟨by rfl, ?h307⟩) hS0 ?r307
            case h307 => (intro w hw; obtain ⟨q0, q1, q2, q3, q4⟩ := hw; go_simp; try (with_reducible rfl))
            try simp only [Act.put, List.setIfInBounds_toArray, List.set_cons_zero, List.set_cons_succ]
            refine takeQ (some 63) (i := 8) (v := ?v308) rfl rfl (by kernel_rfl) (by kernel_rfl) (by kernel_rfl) (fun _ _ _ h => h) (Or.inl ⟨by rfl, ?h308⟩) hS0 ?r308
            case h308 => (intro w hw; obtain ⟨q0, q1, q2, q3, q4⟩ := hw; go_simp; try (with_reducible rfl))
            try simp only [Act.put, List.setIfInBounds_toArray, List.set_cons_zero, List.set_cons_succ]
            refine wpAnyH_ready (rs := [9]) (by kernel_rfl) (by simp) ?_
            refine AllReadyH.cons rfl ?_ AllReadyH.nil
            intro KK hKK
            go_simp
            refine (CK.out _ kd).mono ?_
            rintro e wx ⟨rfl, hbx⟩
            show KK _ _
            have kk := below_then kd hbx
            have hY := hX.below kk
            have hf := hY.o.free (i := 196) (by omega)
            have hc := hY.o.cS
            refine hKK.out _ _ hY.s (fun _ => ?_)
            clear hKK KK
            refine takeQ (some 65) (i := 10) (v := ?v309) rfl rfl (by kernel_rfl) (by kernel_rfl) (by kernel_rfl) (fun _ _ _ h => h) (Or.inl ⟨by rfl, ?h309⟩) hY.s ?r309
            case h309 => (intro w hw; obtain ⟨q0, q1, q2, q3, q4⟩ := hw; go_simp; try (with_reducible rfl))
            try simp only [Act.put, List.setIfInBounds_toArray, List.set_cons_zero, List.set_cons_succ]
            refine takeQ (some 66) (i := 11) (v := ?v310) rfl rfl (by kernel_rfl) (by kernel_rfl) (by kernel_rfl) (fun _ _ _ h => h) (Or.inl ⟨by rfl, ?h310⟩) hY.s ?r310
            case h310 => (intro w hw; obtain ⟨q0, q1, q2, q3, q4⟩ := hw; go_simp; try (with_reducible rfl))
            try simp only [Act.put, List.setIfInBounds_toArray, List.set_cons_zero, List.set_cons_succ]
            refine takeQ (some 67) (i := 12) (v := ?v311) rfl rfl (by kernel_rfl) (by kernel_rfl) (by kernel_rfl) (fun _ _ _ h => h) (Or.inl ⟨by rfl, ?h311⟩) hY.s ?r311
            case h311 => (intro w hw; obtain ⟨q0, q1, q2, q3, q4⟩ := hw; go_simp; try (with_reducible rfl))
            try simp only [Act.put, List.setIfInBounds_toArray, List.set_cons_zero, List.set_cons_succ]
            refine wpAnyH_ready (rs := [13]) (by kernel_rfl) (by simp) ?_
            refine AllReadyH.cons rfl ?_ AllReadyH.nil
            intro KK hKK
            go_simp
            have hZ := hY.setS so
            refine hKK.out _ _ hZ.s (fun _ => ?_)
            clear hKK KK
            refine wpAnyH_done (by kernel_rfl) ?_ _
            clear hX hY CK kd hc hf hS0 kk hbx
            go_wp2_with fail
            go_roundw
            case rel => exact ⟨k + 1, _, _, _, _, _, by omega, by go_num, HK1.out.1, HK1.out.2.1, HK1.out.2.2, hZ.o, hZ.s.1, hZ.r, hZ.b, hZ.z⟩
            case measure => simp [intOf]; omega
    · have hkl : k = h.length := by omega
      subst hkl
      have hA4 := (hb.cell (p := ⟨w.heap.size, 0, none⟩) hlt).trans hA2
      have hbw := below_then hb4 hb
      have hX : OfT w2 w.heap.size (.slice ao h.length cap) h.length noR noR noR (.map none) vk vr sd K R wr := ⟨hO, ⟨hC, hA4⟩, hF, hb, hlt⟩
      have hKl : K.length ≤ 64 := by have := congrArg List.length HK.out.1; simp [keysTo] at this; omega
      obtain ⟨aK, cK, rfl⟩ := owns_form hX.r.kr
      obtain ⟨aR, cR, rfl⟩ := owns_form hX.r.rr
      have HKE : Hid (∀ p ∈ K, p.2.length ≤ 64 ∧ ∀ x ∈ p.2, InI x) := Lib.hid (fun p hp => by
        have hm : p.2 ∈ keysTo h h.length := by rw [← HK.out.1]; exact List.mem_map.2 ⟨p, hp, rfl⟩
        unfold keysTo at hm
        obtain ⟨i, hi, he⟩ := List.mem_map.1 hm
        have hil := List.mem_range.1 hi
        rw [← he]
        unfold keysOf
        refine ⟨by rw [List.length_map]; exact upTo_len _ 64, fun x hx => ?_⟩
        obtain ⟨q, hq, rfl⟩ := List.mem_map.1 hx
        have hq2 := lastW_key ((((refWrites_rise (by rw [opsAt_eq hil]; exact HKS.out _ (List.getElem_mem hil))).2 q).1 hq).1)
        exact inI_of (((HOK.out _ (List.getElem_mem hil)).2 q (by rw [← opsAt_eq hil]; exact hq2.2.2)).1))
      have kd := (Below.refl wr.heap.size wr).drew
      have CWR : Hid (∀ wx, Below wr.heap.size wr wx → Calls Tryd.prog 37 #[.slice aK K.length cK] wx fun e w' => ∃ b n c, e = .returned (.map (some b)) ∧ wx.heap.size ≤ b ∧ MapI eS Tryd.prog 3 w' b n (wrsTo K K.length) c ∧ AllSet (wrsTo K K.length) ∧ Below wx.heap.size wx w') := Lib.hid (fun wx hx => owriters_any _ K wx ((hX.r.below hx).rws) (by omega) (fun p hp => by have := (HKE.out p hp).1; omega) (fun p hp => (HKE.out p hp).2))
      have hmf : ∀ (fn : Fn) (first cap : Array Value) (w : World), (Instr.makeFunc fn first cap).run Tryd.prog w = .ok (.func fn first cap) w := fun _ _ _ _ => rfl
      clear hO hC hF hb hA4 hbw
      go_wp2_with fail
      refine wp_region_held_drew (S := SA (w2.heap.size + 1) w2.heap.size w.heap.size (.slice ao h.length cap)) (by kernel_rfl) hX.drew.s (fun hS0 => ?_)
      have hc0 := hX.o.cK
      refine takeQ (some 69) (i := 0) (v := ?v401) rfl rfl (by kernel_rfl) (by kernel_rfl) (by kernel_rfl) (fun _ _ _ h => h) (Or.inl ⟨by rfl, ?h401⟩) hS0 ?r401
      case h401 => (intro w hw; obtain ⟨q0, q1⟩ := hw; go_simp; try (with_reducible rfl))
      try simp only [Act.put, List.setIfInBounds_toArray, List.set_cons_zero, List.set_cons_succ]
      refine takeQ (some 70) (i := 1) (v := ?v402) rfl rfl (by kernel_rfl) (by kernel_rfl) (by kernel_rfl) (fun _ _ _ h => h) (Or.inl ⟨by rfl, ?h402⟩) hS0 ?r402
      case h402 => (intro w hw; obtain ⟨q0, q1⟩ := hw; go_simp; try (with_reducible rfl))
      try simp only [Act.put, List.setIfInBounds_toArray, List.set_cons_zero, List.set_cons_succ]
      refine takeQ (some 71) (i := 2) (v := ?v403) rfl rfl (by kernel_rfl) (by kernel_rfl) (by kernel_rfl) (fun _ _ _ h => h) (Or.inl ⟨by rfl, ?h403⟩) hS0 ?r403
      case h403 => (intro w hw; obtain ⟨q0, q1⟩ := hw; go_simp; try (with_reducible rfl))
      try simp only [Act.put, List.setIfInBounds_toArray, List.set_cons_zero, List.set_cons_succ]
      refine takeQ (some 72) (i := 3) (v := ?v404) rfl rfl (by kernel_rfl) (by kernel_rfl) (by kernel_rfl) (fun _ _ _ h => h) (Or.inl ⟨by rfl, ?h404⟩) hS0 ?r404
      case h404 => (intro w hw; obtain ⟨q0, q1⟩ := hw; go_simp; try (with_reducible rfl))
      try simp only [Act.put, List.setIfInBounds_toArray, List.set_cons_zero, List.set_cons_succ]
      refine wpAnyH_ready (rs := [4]) (by kernel_rfl) (by simp) ?_
      refine AllReadyH.cons rfl ?_ AllReadyH.nil
      intro KK hKK
      go_simp
      refine hKK.out _ _ hS0 (fun _ => ?_)
      clear hKK KK
      refine wpAnyH_ready (rs := [5]) (by kernel_rfl) (by simp) ?_
      refine AllReadyH.cons rfl ?_ AllReadyH.nil
      intro KK hKK
      go_simp
      refine (CWR.out _ kd).mono ?_
      rintro e wx ⟨bw, nw, cw, rfl, hbw, hMw, hAw, hbx⟩
      show KK _ _
      have hY := hX.below (below_then kd hbx)
      have hbB : w2.heap.size < bw := by have h1 := hX.b.size; have h2 := hX.o.lt; have h3 := kd.size; omega
      have hf := hY.o.free (i := 193) (by omega)
      have hc := hY.o.cM
      refine hKK.out _ _ hY.s (fun _ => ?_)
      clear hKK KK
      refine takeQ (some 75) (i := 6) (v := ?v405) rfl rfl (by kernel_rfl) (by kernel_rfl) (by kernel_rfl) (fun _ _ _ h => h) (Or.inl ⟨by rfl, ?h405⟩) hY.s ?r405
      case h405 => (intro w hw; obtain ⟨q0, q1⟩ := hw; go_simp; try (with_reducible rfl))
      try simp only [Act.put, List.setIfInBounds_toArray, List.set_cons_zero, List.set_cons_succ]
      refine takeQ (some 76) (i := 7) (v := ?v406) rfl rfl (by kernel_rfl) (by kernel_rfl) (by kernel_rfl) (fun _ _ _ h => h) (Or.inl ⟨by rfl, ?h406⟩) hY.s ?r406
      case h406 => (intro w hw; obtain ⟨q0, q1⟩ := hw; go_simp; try (with_reducible rfl))
      try simp only [Act.put, List.setIfInBounds_toArray, List.set_cons_zero, List.set_cons_succ]
      refine wpAnyH_ready (rs := [8]) (by kernel_rfl) (by simp) ?_
      refine AllReadyH.cons rfl ?_ AllReadyH.nil
      intro KK hKK
      go_simp
      have hX13 := hY.setM (.map (some bw))
      have hM13 := hMw.cell (a := ⟨w2.heap.size, 193, none⟩) (by simp; omega) (.map (some bw))
      refine hKK.out _ _ hX13.s (fun _ => ?_)
      clear hKK KK
      refine wpAnyH_done (by kernel_rfl) ?_ _
      clear hX hY kd CWR hc hf hc0 hS0 hMw
      generalize wx.setCell ⟨w2.heap.size, 193, none⟩ (.map (some bw)) = w3 at *
      have hX := hX13
      have hM3 := hM13
      clear hX13 hM13
      have kd := (Below.refl w3.heap.size w3).drew
      have CP : Hid (∀ wx, Below w3.heap.size w3 wx → Calls Tryd.prog 38 #[.int .i64 h.length, .func (.func 39) #[] #[.pointer (some ⟨w.heap.size, 0, none⟩)]] wx fun e w' => e = .returned (.agg (rowsA (sesM h))) ∧ Below wx.heap.size wx w') := Lib.hid (fun wx hx => pairs_any (sesP h) h.length (by omega) _ _ wx enters_ses (fun a b wy ha hb hy => ses_calls _ h _ a b wy ((hX.below (below_then hx hy)).s.2) (HT.out _ (below_then hb4 (hX.below (below_then hx hy)).b)) ha hb))
      go_wp2_with fail
      refine wp_region_held_drew (S := SA (w2.heap.size + 1) w2.heap.size w.heap.size (.slice ao h.length cap)) (by kernel_rfl) hX.drew.s (fun hS0 => ?_)
      refine takeQ (some 77) (i := 0) (v := ?v501) rfl rfl (by kernel_rfl) (by kernel_rfl) (by kernel_rfl) (fun _ _ _ h => h) (Or.inl ⟨by rfl, ?h501⟩) hS0 ?r501
      case h501 => (intro w hw; obtain ⟨q0, q1⟩ := hw; go_simp; try (with_reducible rfl))
      try simp only [Act.put, List.setIfInBounds_toArray, List.set_cons_zero, List.set_cons_succ]
      refine takeQ (some 78) (i := 1) (v := ?v502) rfl rfl (by kernel_rfl) (by kernel_rfl) (by kernel_rfl) (fun _ _ _ h => h) (Or.inl ⟨by rfl, ?h502⟩) hS0 ?r502
      case h502 => (intro w hw; obtain ⟨q0, q1⟩ := hw; go_simp; try (with_reducible rfl))
      try simp only [Act.put, List.setIfInBounds_toArray, List.set_cons_zero, List.set_cons_succ]
      refine takeQ (some 79) (i := 2) (v := ?v503) rfl rfl (by kernel_rfl) (by kernel_rfl) (by kernel_rfl) (fun _ _ _ h => h) (Or.inl ⟨by rfl, ?h503⟩) hS0 ?r503
      case h503 => (intro w hw; obtain ⟨q0, q1⟩ := hw; go_simp; try (with_reducible rfl))
      try simp only [Act.put, List.setIfInBounds_toArray, List.set_cons_zero, List.set_cons_succ]
      refine takeQ (some 80) (i := 3) (v := ?v504) rfl rfl (by kernel_rfl) (by kernel_rfl) (by kernel_rfl) (fun _ _ _ h => h) (Or.inl ⟨by rfl, ?h504⟩) hS0 ?r504
      case h504 => (intro w hw; obtain ⟨q0, q1⟩ := hw; go_simp; try (with_reducible rfl))
      try simp only [Act.put, List.setIfInBounds_toArray, List.set_cons_zero, List.set_cons_succ]
      refine wpAnyH_ready (rs := [4]) (by kernel_rfl) (by simp) ?_
      refine AllReadyH.cons rfl ?_ AllReadyH.nil
      intro KK hKK
      go_simp
      refine (CP.out _ kd).mono ?_
      rintro e wx ⟨rfl, hbx⟩
      show KK _ _
      have kk := below_then kd hbx
      have hY := hX.below kk
      have hMY := hM3.below kk
      refine hKK.out _ _ hY.s (fun _ => ?_)
      clear hKK KK
      refine takeQ (some 82) (i := 5) (v := ?v505) rfl rfl (by kernel_rfl) (by kernel_rfl) (by kernel_rfl) (fun _ _ _ h => h) (Or.inl ⟨by rfl, ?h505⟩) hY.s ?r505
      case h505 => (intro w hw; obtain ⟨q0, q1⟩ := hw; go_simp; try (with_reducible rfl))
      try simp only [Act.put, List.setIfInBounds_toArray]
      refine takeQ (some 83) (i := 6) (v := ?v506) rfl rfl (by kernel_rfl) (by kernel_rfl) (by kernel_rfl) (fun _ _ _ h => h) (Or.inl ⟨by rfl, ?h506⟩) hY.s ?r506
      case h506 => (intro w hw; obtain ⟨q0, q1⟩ := hw; go_simp; try (with_reducible rfl))
      try simp only [Act.put]
      refine wpAnyH_ready (rs := [7]) (by kernel_rfl) (by simp) ?_
      refine AllReadyH.cons rfl ?_ AllReadyH.nil
      intro KK hKK
      rw [if_pos (by rfl)]
      refine wp_store_mid 68 (.tmp 83) (.tmp 81) rfl w2.heap.size 1 (rowsA (sesM h)) rfl rfl (by rw [rowsA_size]; exact hY.o.there 1 (by omega)) (infoRel' _) (rows_one _) ?_
      have hXn := hY.setS (sesM h)
      have hMn := MapI.cells (g := w2.heap.size) (by omega) (rowsA (sesM h)).toList 1 _ hMY
      refine hKK.out _ _ hXn.s (fun _ => ?_)
      clear hKK KK
      refine wpAnyH_done (by kernel_rfl) ?_ _
      clear hX hM3 hY kd CP hS0 hMY kk hbx
      generalize wx.setCells w2.heap.size 1 (rowsA (sesM h)).toList = w3 at *
      have hX := hXn
      have hM3 := hMn
      clear hXn hMn
      have kd := (Below.refl w3.heap.size w3).drew
      have CP : Hid (∀ wx, Below w3.heap.size w3 wx → Calls Tryd.prog 38 #[.int .i64 h.length, .func (.func 40) #[] #[.pointer (some ⟨w.heap.size, 0, none⟩)]] wx fun e w' => e = .returned (.agg (rowsA (timM h))) ∧ Below wx.heap.size wx w') := Lib.hid (fun wx hx => pairs_any (timP h) h.length (by omega) _ _ wx enters_tim (fun a b wy ha hb hy => tim_calls _ h _ a b wy ((hX.below (below_then hx hy)).s.2) (HT.out _ (below_then hb4 (hX.below (below_then hx hy)).b)) ha hb))
      go_wp2_with fail
      refine wp_region_held_drew (S := SA (w2.heap.size + 1) w2.heap.size w.heap.size (.slice ao h.length cap)) (by kernel_rfl) hX.drew.s (fun hS0 => ?_)
      refine takeQ (some 84) (i := 0) (v := ?v601) rfl rfl (by kernel_rfl) (by kernel_rfl) (by kernel_rfl) (fun _ _ _ h => h) (Or.inl ⟨by rfl, ?h601⟩) hS0 ?r601
      case h601 => (intro w hw; obtain ⟨q0, q1⟩ := hw; go_simp; try (with_reducible rfl))
      try simp only [Act.put, List.setIfInBounds_toArray, List.set_cons_zero, List.set_cons_succ]
      refine takeQ (some 85) (i := 1) (v := ?v602) rfl rfl (by kernel_rfl) (by kernel_rfl) (by kernel_rfl) (fun _ _ _ h => h) (Or.inl ⟨by rfl, ?h602⟩) hS0 ?r602
      case h602 => (intro w hw; obtain ⟨q0, q1⟩ := hw; go_simp; try (with_reducible rfl))
      try simp only [Act.put]
      refine takeQ (some 86) (i := 2) (v := ?v603) rfl rfl (by kernel_rfl) (by kernel_rfl) (by kernel_rfl) (fun _ _ _ h => h) (Or.inl ⟨by rfl, ?h603⟩) hS0 ?r603
      case h603 => (intro w hw; obtain ⟨q0, q1⟩ := hw; go_simp; try (with_reducible rfl))
      try simp only [Act.put]
      refine takeQ (some 87) (i := 3) (v := ?v604) rfl rfl (by kernel_rfl) (by kernel_rfl) (by kernel_rfl) (fun _ _ _ h => h) (Or.inl ⟨by rfl, ?h604⟩) hS0 ?r604
      case h604 => (intro w hw; obtain ⟨q0, q1⟩ := hw; go_simp; try (with_reducible rfl))
      try simp only [Act.put]
      refine wpAnyH_ready (rs := [4]) (by kernel_rfl) (by simp) ?_
      refine AllReadyH.cons rfl ?_ AllReadyH.nil
      intro KK hKK
      go_simp
      refine (CP.out _ kd).mono ?_
      rintro e wx ⟨rfl, hbx⟩
      show KK _ _
      have kk := below_then kd hbx
      have hY := hX.below kk
      have hMY := hM3.below kk
      refine hKK.out _ _ hY.s (fun _ => ?_)
      clear hKK KK
      refine takeQ (some 89) (i := 5) (v := ?v605) rfl rfl (by kernel_rfl) (by kernel_rfl) (by kernel_rfl) (fun _ _ _ h => h) (Or.inl ⟨by rfl, ?h605⟩) hY.s ?r605
      case h605 => (intro w hw; obtain ⟨q0, q1⟩ := hw; go_simp; try (with_reducible rfl))
      try simp only [Act.put, List.setIfInBounds_toArray]
      refine takeQ (some 90) (i := 6) (v := ?v606) rfl rfl (by kernel_rfl) (by kernel_rfl) (by kernel_rfl) (fun _ _ _ h => h) (Or.inl ⟨by rfl, ?h606⟩) hY.s ?r606
      case h606 => (intro w hw; obtain ⟨q0, q1⟩ := hw; go_simp; try (with_reducible rfl))
      try simp only [Act.put]
      refine wpAnyH_ready (rs := [7]) (by kernel_rfl) (by simp) ?_
      refine AllReadyH.cons rfl ?_ AllReadyH.nil
      intro KK hKK
      rw [if_pos (by rfl)]
      refine wp_store_mid 68 (.tmp 90) (.tmp 88) rfl w2.heap.size 65 (rowsA (timM h)) rfl rfl (by rw [rowsA_size]; exact hY.o.there 65 (by omega)) (infoRel' _) (rows_one _) ?_
      have hXn := hY.setT (timM h)
      have hMn := MapI.cells (g := w2.heap.size) (by omega) (rowsA (timM h)).toList 65 _ hMY
      refine hKK.out _ _ hXn.s (fun _ => ?_)
      clear hKK KK
      refine wpAnyH_done (by kernel_rfl) ?_ _
      clear hX hM3 hY kd CP hS0 hMY kk hbx
      generalize wx.setCells w2.heap.size 65 (rowsA (timM h)).toList = w3 at *
      have hX := hXn
      have hM3 := hMn
      clear hXn hMn
      have kd := (Below.refl w3.heap.size w3).drew
      have CP : Hid (∀ wx, Below w3.heap.size w3 wx → Calls Tryd.prog 38 #[.int .i64 h.length, .func (.func 41) #[] #[.pointer (some ⟨w2.heap.size + 1, 0, none⟩)]] wx fun e w' => e = .returned (.agg (rowsA (froM h))) ∧ Below wx.heap.size wx w') := Lib.hid (fun wx hx => pairs_any (froP h) h.length (by omega) _ _ wx enters_fro (fun a b wy ha hb hy => fro_calls _ h R _ _ a b wy ((hX.below (below_then hx hy)).s.1) ((hX.below (below_then hx hy)).o.cR) ((hX.below (below_then hx hy)).r.frws) HK.out.2.1 hb))
      go_wp2_with fail
      refine wp_region_held_drew (S := SA (w2.heap.size + 1) w2.heap.size w.heap.size (.slice ao h.length cap)) (by kernel_rfl) hX.drew.s (fun hS0 => ?_)
      refine takeQ (some 91) (i := 0) (v := ?v701) rfl rfl (by kernel_rfl) (by kernel_rfl) (by kernel_rfl) (fun _ _ _ h => h) (Or.inl ⟨by rfl, ?h701⟩) hS0 ?r701
      case h701 => (intro w hw; obtain ⟨q0, q1⟩ := hw; go_simp; try (with_reducible rfl))
      try simp only [Act.put, List.setIfInBounds_toArray, List.set_cons_zero, List.set_cons_succ]
      refine takeQ (some 92) (i := 1) (v := ?v702) rfl rfl (by kernel_rfl) (by kernel_rfl) (by kernel_rfl) (fun _ _ _ h => h) (Or.inl ⟨by rfl, ?h702⟩) hS0 ?r702
      case h702 => (intro w hw; obtain ⟨q0, q1⟩ := hw; go_simp; try (with_reducible rfl))
      try simp only [Act.put]
      refine takeQ (some 93) (i := 2) (v := ?v703) rfl rfl (by kernel_rfl) (by kernel_rfl) (by kernel_rfl) (fun _ _ _ h => h) (Or.inl ⟨by rfl, ?h703⟩) hS0 ?r703
      case h703 => (intro w hw; obtain ⟨q0, q1⟩ := hw; go_simp; try (with_reducible rfl))
      try simp only [Act.put]
      refine takeQ (some 94) (i := 3) (v := ?v704) rfl rfl (by kernel_rfl) (by kernel_rfl) (by kernel_rfl) (fun _ _ _ h => h) (Or.inl ⟨by rfl, ?h704⟩) hS0 ?r704
      case h704 => (intro w hw; obtain ⟨q0, q1⟩ := hw; go_simp; try (with_reducible rfl))
      try simp only [Act.put]
      refine wpAnyH_ready (rs := [4]) (by kernel_rfl) (by simp) ?_
      refine AllReadyH.cons rfl ?_ AllReadyH.nil
      intro KK hKK
      go_simp
      refine (CP.out _ kd).mono ?_
      rintro e wx ⟨rfl, hbx⟩
      show KK _ _
      have kk := below_then kd hbx
      have hY := hX.below kk
      have hMY := hM3.below kk
      refine hKK.out _ _ hY.s (fun _ => ?_)
      clear hKK KK
      refine takeQ (some 96) (i := 5) (v := ?v705) rfl rfl (by kernel_rfl) (by kernel_rfl) (by kernel_rfl) (fun _ _ _ h => h) (Or.inl ⟨by rfl, ?h705⟩) hY.s ?r705
      case h705 => (intro w hw; obtain ⟨q0, q1⟩ := hw; go_simp; try (with_reducible rfl))
      try simp only [Act.put, List.setIfInBounds_toArray]
      refine takeQ (some 97) (i := 6) (v := ?v706) rfl rfl (by kernel_rfl) (by kernel_rfl) (by kernel_rfl) (fun _ _ _ h => h) (Or.inl ⟨by rfl, ?h706⟩) hY.s ?r706
      case h706 => (intro w hw; obtain ⟨q0, q1⟩ := hw; go_simp; try (with_reducible rfl))
      try simp only [Act.put]
      refine wpAnyH_ready (rs := [7]) (by kernel_rfl) (by simp) ?_
      refine AllReadyH.cons rfl ?_ AllReadyH.nil
      intro KK hKK
      rw [if_pos (by rfl)]
      refine wp_store_mid 68 (.tmp 97) (.tmp 95) rfl w2.heap.size 129 (rowsA (froM h)) rfl rfl (by rw [rowsA_size]; exact hY.o.there 129 (by omega)) (infoRel' _) (rows_one _) ?_
      have hXn := hY.setF (froM h)
      have hMn := MapI.cells (g := w2.heap.size) (by omega) (rowsA (froM h)).toList 129 _ hMY
      refine hKK.out _ _ hXn.s (fun _ => ?_)
      clear hKK KK
      refine wpAnyH_done (by kernel_rfl) ?_ _
      clear hX hM3 hY kd CP hS0 hMY kk hbx
      generalize wx.setCells w2.heap.size 129 (rowsA (froM h)).toList = w3 at *
      have hq := hXn.s.1
      go_wp2_with fail
      go_ret2
      exact ⟨⟨_, rfl, by have := hb4.size; omega, _, _, _, _, _, K, R, HK.out.2.2 ▸ hXn.o, hMn, hAw, hXn.r, HK.out.1, HK.out.2.1⟩, below_then hb4 hXn.b⟩
end Go.Proofs.YtecpeegbfeijaaaDoor

namespace Go.Proofs.YtecpeegbfeijaaaDoor
set_option maxRecDepth 100000
open Go.RowKit

def sp15 (v1 v2 : Value) : List TxnV := [⟨0, 1, 4, v1, [⟨false, 0, 0⟩]⟩, ⟨1, 2, 3, v2, [⟨false, 1, 0⟩]⟩]
theorem sp15_ok (v1 v2 : Value) : ∀ t ∈ sp15 v1 v2, t.ok := by
  intro t ht
  simp [sp15] at ht
  rcases ht with rfl | rfl <;> refine ⟨?_, fun o ho => ?_⟩
  all_goals first
    | (refine ⟨?_, ?_, ?_⟩ <;> simp [IntOk])
    | (simp at ho; subst ho; refine ⟨?_, ?_⟩ <;> simp [IntOk])
theorem sp15_short (v1 v2 : Value) : Short (sp15 v1 v2) := by
  intro t ht
  simp [sp15] at ht
  rcases ht with rfl | rfl <;> simp
theorem sp15_check (v1 v2 : Value) : checkI (sp15 v1 v2) = 0 := by rfl
theorem sp15_cl : clI 4 = 6 := by rfl
theorem sp15_try (v1 v2 : Value) : tryP (sp15 v1 v2) 6 [] 0 = true ∧ tryP (sp15 v1 v2) 6 [0] 1 = true ∧ tryP (sp15 v1 v2) 6 [] 1 = true ∧ tryP (sp15 v1 v2) 6 [1] 0 = true := ⟨by kernel_rfl, by kernel_rfl, by kernel_rfl, by kernel_rfl⟩
theorem sp15_key (v1 v2 : Value) : keyB (sp15 v1 v2) 6 [1, 0] = byteB [0, 0] ∧ keyB (sp15 v1 v2) 6 [0, 1] = byteB [0, 0] ∧ keyB (sp15 v1 v2) 6 [1] = byteB [0] ∧ plS [1, 0] = 3 ∧ plS [0, 1] = 3 ∧ plS [1] = 2 := ⟨by kernel_rfl, by kernel_rfl, by kernel_rfl, by kernel_rfl, by kernel_rfl, by kernel_rfl⟩
theorem KyAt.lit (w : World) (p : Nat) (s : ByteArray) : KyAt (w.alloc (.cells #[.int .u64 (p : Int), .string s] 38)) w.heap.size p s := by
  have hn := heap_alloc_new w (.cells #[.int .u64 (p : Int), .string s] 38)
  refine ⟨?_, ?_, frozen_of_row _ _ _ _ _ hn, frozen_of_row _ _ _ _ _ hn⟩ <;> (rw [cell_of_row _ _ _ _ _ _ hn]; rfl)
section
variable {w0 w w' : World} {N S B b : Nat} {h : List TxnV} {C : Nat} {r : List Nat} {vb vr vr' : Value} {aF sF : Nat → Nat}
theorem mofx_any (p : PlX w0 N S B b h C r vb vr aF sF w) (hc : checkI h = 0) (hC : C < 9223372036854775808) :
    Calls Tryd.prog 9 #[.pointer (some ⟨B, 0, none⟩), .pointer (some ⟨S, 0, none⟩)] w fun e w' => e = .returned (kV (plS r) (keyB h C r)) ∧ Below w.heap.size w w' := by
  obtain ⟨W, _, _, q⟩ := p; exact mof_any q hc hC
theorem PlX.grow1 (p : PlX w0 N S B b h C r vb vr aF sF w) (hb : Below w0.heap.size w0 w) (k : PlStep S vr vr' w w') : Below w0.heap.size w0 w' := by
  have hl := p.lowS
  refine ⟨k.os.trans hb.os, k.tape.trans hb.tape, k.output.trans hb.output, Nat.le_trans hb.size k.size, fun j hj => ?_⟩
  rw [k.block j (Nat.lt_of_lt_of_le hj hb.size) (by omega) (fun e => by have := (p.own.2 j e).1; omega)]
  exact hb.block j hj
end
set_option maxRecDepth 100000 in
set_option maxHeartbeats 16000000 in
theorem speaks15_any (w : World) (ht : Tab w) :
    Calls Tryd.prog 6 #[] w fun e w' => e = .returned (.bool true) ∧ Below w.heap.size w w' := by
  have hg := ht.pos
  have HT : Hid (∀ wx, Below w.heap.size w wx → Tab wx) := Lib.hid (fun wx hb => ht.below hb hg)
  have C1 := fun (wx : World) => Lib.hid (read_any 0 0 wx)
  have C2 := fun (wx : World) => Lib.hid (read_any 1 0 wx)
  clear ht
  go_enter Tryd.func6, Tryd.ntmps6
  go_wp2_with fail
  refine ((C1 w).out).mono ?_
  rintro e w1 ⟨rfl, hb1⟩
  have hx1 := hb1.alloc hb1.size (.cells #[.bool false, .int .i64 0, .int .i64 0] 54)
  have hO1 : Ops _ (.slice (some ⟨w1.heap.size, 0, none⟩) 1 1) [⟨false, 0, 0⟩] := Row.of_owns (World.ownsRow_lit (base := 0) (e := 54) (size := 3) w1 #[.bool false, .int .i64 0, .int .i64 0] 1 (Nat.zero_le _) (by decide) rfl)
  clear hb1
  go_wp2_with fail
  refine ((C2 _).out).mono ?_
  rintro e w2 ⟨rfl, hb2⟩
  have hO1 := Row.below hO1 hb2
  have hx2 := below_then hx1 hb2
  have hO2 : Ops _ (.slice (some ⟨w2.heap.size, 0, none⟩) 1 1) [⟨false, 1, 0⟩] := Row.of_owns (World.ownsRow_lit (base := 0) (e := 54) (size := 3) w2 #[.bool false, .int .i64 1, .int .i64 0] 1 (Nat.zero_le _) (by decide) rfl)
  have hO1 := Row.below hO1 (box_below w2 (.cells #[.bool false, .int .i64 1, .int .i64 0] 54))
  have hx3 := hx2.alloc hx2.size (.cells #[.bool false, .int .i64 1, .int .i64 0] 54)
  have hR : Row _ _ 2 4 _ := Row.of_owns (World.ownsRow_lit (base := 0) (e := 58) (size := 4) (w2.alloc (.cells #[.bool false, .int .i64 1, .int .i64 0] 54)) #[.int .i64 0, .int .i64 1, .int .i64 4, .slice (some ⟨w1.heap.size, 0, none⟩) 1 1, .int .i64 1, .int .i64 2, .int .i64 3, .slice (some ⟨w2.heap.size, 0, none⟩) 1 1] 2 (Nat.zero_le _) (by decide) rfl)
  rw [show (w2.alloc (.cells #[.bool false, .int .i64 1, .int .i64 0] 54)).heap.size = w2.heap.size + 1 from by simp] at hR
  have hO1 := Row.below hO1 (box_below _ (.cells #[.int .i64 0, .int .i64 1, .int .i64 4, .slice (some ⟨w1.heap.size, 0, none⟩) 1 1, .int .i64 1, .int .i64 2, .int .i64 3, .slice (some ⟨w2.heap.size, 0, none⟩) 1 1] 58))
  have hO2 := Row.below hO2 (box_below _ (.cells #[.int .i64 0, .int .i64 1, .int .i64 4, .slice (some ⟨w1.heap.size, 0, none⟩) 1 1, .int .i64 1, .int .i64 2, .int .i64 3, .slice (some ⟨w2.heap.size, 0, none⟩) 1 1] 58))
  have hb4 := hx3.alloc hx3.size (.cells #[.int .i64 0, .int .i64 1, .int .i64 4, .slice (some ⟨w1.heap.size, 0, none⟩) 1 1, .int .i64 1, .int .i64 2, .int .i64 3, .slice (some ⟨w2.heap.size, 0, none⟩) 1 1] 58)
  clear hb2 hx1 hx2 hx3 C1 C2
  go_wp2_with fail
  generalize (w2.alloc (.cells #[.bool false, .int .i64 1, .int .i64 0] 54)).alloc (.cells #[.int .i64 0, .int .i64 1, .int .i64 4, .slice (some ⟨w1.heap.size, 0, none⟩) 1 1, .int .i64 1, .int .i64 2, .int .i64 3, .slice (some ⟨w2.heap.size, 0, none⟩) 1 1] 58) = w4 at *
  generalize w1.heap.size = a1 at *
  generalize w2.heap.size = a2 at *
  have hT : Txns w4 (.slice (some ⟨a2 + 1, 0, none⟩) 2 2) (sp15 (.slice (some ⟨a1, 0, none⟩) 1 1) (.slice (some ⟨a2, 0, none⟩) 1 1)) := ⟨hR, fun t ht => by
    simp [sp15] at ht
    rcases ht with rfl | rfl
    · exact hO1
    · exact hO2⟩
  have hck := sp15_check (.slice (some ⟨a1, 0, none⟩) 1 1) (.slice (some ⟨a2, 0, none⟩) 1 1)
  have CO := Lib.hid (of_done _ _ _ hT (sp15_ok _ _) (sp15_short _ _) hck)
  have HC := Lib.hid hck
  have HTR := Lib.hid (sp15_try (.slice (some ⟨a1, 0, none⟩) 1 1) (.slice (some ⟨a2, 0, none⟩) 1 1))
  have HKE := Lib.hid (sp15_key (.slice (some ⟨a1, 0, none⟩) 1 1) (.slice (some ⟨a2, 0, none⟩) 1 1))
  have HL : Hid ((sp15 (.slice (some ⟨a1, 0, none⟩) 1 1) (.slice (some ⟨a2, 0, none⟩) 1 1)).length = 2) := Lib.hid rfl
  clear hT hR hO1 hO2 hck
  generalize sp15 (.slice (some ⟨a1, 0, none⟩) 1 1) (.slice (some ⟨a2, 0, none⟩) 1 1) = h at *
  refine (CO.out).mono ?_
  rintro e w5 ⟨⟨B, rfl, hB, hO⟩, hb5⟩
  have hb5 := below_then hb4 hb5
  have hO5 := hO
  have ht5 := HT.out _ hb5
  have HW := Lib.hid (fun wx (hx : Below w5.heap.size w5 wx) => below_then hb5 hx)
  have CN := Lib.hid (fun wx (hx : Below w5.heap.size w5 wx) => xnew_any 4 hO HC.out ht5 (w := wx) hx)
  rw [sp15_cl] at CN
  have HOT : Hid (OrdIs w5 B (B + 2) h ∧ Tab w5 ∧ h.length ≤ 64) := Lib.hid ⟨hO, ht5, by rw [HL.out]; omega⟩
  clear CO hO hB hb4 hO5 ht5
  go_wp2_with fail
  refine (CN.out _ (Below.refl _ _)).mono ?_
  rintro e w6 ⟨S1, vb1, aF1, sF1, rfl, p1, h6⟩
  go_wp2_with fail
  refine (CN.out _ h6).mono ?_
  rintro e w7 ⟨S2, vb2, aF2, sF2, rfl, p2, h7⟩
  have T := Lib.hid (Two.made h7 p1 p2)
  have HB7 := Lib.hid (below_then h6 h7)
  clear CN p1 p2 h6 h7
  have CT := Lib.hid (xtry_yes T.out.p1 HC.out (by omega) 0 HTR.out.1)
  go_wp2_with fail
  refine CT.out.mono ?_
  rintro e w8 ⟨rfl, vr1, aF1, sF1, p, k⟩
  have HB8 := Lib.hid (T.out.p1.grow1 HB7.out k)
  have T := Lib.hid (T.out.step HOT.out.1 HOT.out.2.1 p k)
  have CT := Lib.hid (xtry_yes T.out.p1 HC.out (by omega) 1 HTR.out.2.1)
  clear p k HB7
  go_wp2_with fail
  refine CT.out.mono ?_
  rintro e w9 ⟨rfl, vr1, aF1, sF1, p, k⟩
  have HB9 := Lib.hid (T.out.p1.grow1 HB8.out k)
  have T := Lib.hid (T.out.step HOT.out.1 HOT.out.2.1 p k)
  have CT := Lib.hid (xtry_yes T.out.p2 HC.out (by omega) 1 HTR.out.2.2.1)
  clear p k HB8
  go_wp2_with fail
  refine CT.out.mono ?_
  rintro e w10 ⟨rfl, vr2, aF2, sF2, p, k⟩
  have HB10 := Lib.hid (T.out.p2.grow1 HB9.out k)
  have T := Lib.hid (T.out.symm.step HOT.out.1 HOT.out.2.1 p k).symm
  have CT := Lib.hid (xtry_yes T.out.p2 HC.out (by omega) 0 HTR.out.2.2.2)
  clear p k HB9
  go_wp2_with fail
  refine CT.out.mono ?_
  rintro e w11 ⟨rfl, vr2, aF2, sF2, p, k⟩
  have HB11 := Lib.hid (T.out.p2.grow1 HB10.out k)
  have T := Lib.hid (T.out.symm.step HOT.out.1 HOT.out.2.1 p k).symm
  clear p k HB10 CT
  have HMb : Hid (∀ g, PlOf S2 vb2 vr2 g → g < w11.heap.size) := Lib.hid (fun g hg => (T.out.p2.of hg).2)
  have hM := MemM.made w11
  have hx12 := box_below w11 (.map #[] 0)
  have T := Lib.hid (T.out.below hx12)
  have HB12 := Lib.hid (HB11.out.alloc HB11.out.size (.map #[] 0))
  have hmk := @run_makeMap Tryd.prog
  have HMB0 := HB11.out.size
  have HMQ := Lib.hid HMB0
  clear hx12 HB11
  go_upto_region 8 with fail
  generalize w11.alloc (.map #[] 0) = w12 at *
  generalize w11.heap.size = Mb at *
  have CO1 := Lib.hid (fun wx hx => mofx_any (T.out.p1.below (w' := wx) hx) HC.out (by omega))
  have CO2 := Lib.hid (fun wx hx => mofx_any (T.out.p2.below (w' := wx) hx) HC.out (by omega))
  rw [HKE.out.1, HKE.out.2.2.2.1] at CO1
  rw [HKE.out.2.1, HKE.out.2.2.2.2.1] at CO2
  unfold kV at CO1 CO2
  go_wp2_with fail
  refine (CO1.out _ (Below.refl _ _)).mono ?_
  rintro e w13 ⟨rfl, h13⟩
  go_wp2_with fail
  refine (CO2.out _ h13).mono ?_
  rintro e w14 ⟨rfl, h14⟩
  have h14 := below_then h13 h14
  have hx15 := box_below w14 (.cells #[.int .u64 3, .string (byteB [0, 0])] 38)
  have hx16 := box_below (w14.alloc (.cells #[.int .u64 3, .string (byteB [0, 0])] 38)) (.cells #[.int .u64 3, .string (byteB [0, 0])] 38)
  have k1 := (KyAt.lit w14 3 (byteB [0, 0])).below hx16
  have k2 := KyAt.lit (w14.alloc (.cells #[.int .u64 3, .string (byteB [0, 0])] 38)) 3 (byteB [0, 0])
  have h16 := below_then h14 (below_then hx15 hx16)
  have hM0 := hM.lt
  have T := Lib.hid (T.out.below h16)
  have hM := hM.below h16 hM.lt
  have HB16 := Lib.hid (HB12.out.trans (h16.mono HB12.out.size))
  have hs16 : (w14.alloc (.cells #[.int .u64 3, .string (byteB [0, 0])] 38)).heap.size = w14.heap.size + 1 := by simp
  have hg1 : w14.heap.size ≠ Mb := by have := h14.size; have := hM0; omega
  have hg2 : w14.heap.size + 1 ≠ Mb := by have := h14.size; have := hM0; omega
  rw [hs16] at k2
  go_upto_region 9 with fail
  clear hx15 hx16 h14 h13 HB12 hs16 h16 CO1 CO2 hmk
  generalize (w14.alloc (.cells #[.int .u64 3, .string (byteB [0, 0])] 38)).alloc (.cells #[.int .u64 3, .string (byteB [0, 0])] 38) = w16 at *
  generalize w14.heap.size = g1 at *
  have hks : (byteB [0, 0]).size ≤ maxLen := by decide +kernel
  have CA := Lib.hid (madd_yes hM (by decide +kernel) (p := 3) (s := byteB [0, 0]) (by decide) hks rfl)
  have hE := eqlK 3 3 (byteB [0, 0]) (byteB [0, 0])
  have hG := guardK
  rw [decide_eq_true ⟨rfl, rfl⟩] at hE
  unfold kV at CA
  have K1 := Lib.hid k1
  have K2 := Lib.hid k2
  obtain ⟨k10, k11, _, _⟩ := k1
  obtain ⟨k20, k21, _, _⟩ := k2
  go_wp2_with fail
  refine CA.out.mono ?_
  rintro e w17 ⟨rfl, hM17, hg17⟩
  have hMS : ∀ g, PlOf S2 vb2 vr2 g → g ≠ Mb := fun g hg => by have := HMb.out g hg; omega
  have PX := Lib.hid (T.out.p2.apart HOT.out.1 HOT.out.2.1 (ApartQ.of_grown hg17) (fun k hk => by rw [hk]; exact HMQ.out) (fun e => hMS _ (.inl rfl) e) (fun g hg e => hMS g (.inr (.inl hg)) e) (fun g hg e => hMS g (.inr (.inr hg)) e))
  have HMS := Lib.hid hMS
  have HB17 := Lib.hid (HB16.out.grown hg17 HB16.out.size (fun j hj => by cases hj; exact HMQ.out))
  have K1 := Lib.hid (K1.out.block (hg17.block _ K1.out.lt (fun e => hg1 (by injection e))))
  have K2 := Lib.hid (K2.out.block (hg17.block _ K2.out.lt (fun e => hg2 (by injection e))))
  have CA2 := Lib.hid (madd_no hM17 (p := 3) (s := byteB [0, 0]) (by decide) hks (by simp))
  have HM17 := Lib.hid hM17
  clear k10 k11 k20 k21 CA hM17 hg17 hMS T HB16 hM hM0
  obtain ⟨k10, k11, _, _⟩ := K1.out
  obtain ⟨k20, k21, _, _⟩ := K2.out
  unfold kV at CA2
  go_wp2_with fail
  refine CA2.out.mono ?_
  rintro e w18 ⟨rfl, h18⟩
  have PX := Lib.hid (PX.out.below h18)
  have HB18 := Lib.hid (HB17.out.trans (h18.mono HB17.out.size))
  have K1 := Lib.hid (K1.out.below h18)
  have K2 := Lib.hid (K2.out.below h18)
  have HM18 := Lib.hid (HM17.out.below h18 HM17.out.lt)
  have CH := Lib.hid (mhas_any HM18.out (p := 3) (s := byteB [0, 0]) (by decide) hks)
  rw [show (decide (3 = 3 ∧ byteB [0, 0] = byteB [0, 0]) || false) = true by simp] at CH
  clear k10 k11 k20 k21 CA2 h18 HB17 HM17
  obtain ⟨k10, k11, _, _⟩ := K1.out
  obtain ⟨k20, k21, _, _⟩ := K2.out
  unfold kV at CH
  go_wp2_with fail
  refine CH.out.mono ?_
  rintro e w19 ⟨rfl, h19⟩
  have PX := Lib.hid (PX.out.below h19)
  have HB19 := Lib.hid (HB18.out.trans (h19.mono HB18.out.size))
  have HM19 := Lib.hid (HM18.out.below h19 HM18.out.lt)
  have CU := Lib.hid (xundo_cons PX.out HOT.out.2.2)
  clear k10 k11 k20 k21 CH h19 HB18 HM18 K1 K2
  go_wp2_with fail
  refine CU.out.mono ?_
  rintro e w20 ⟨rfl, vr3, p, k⟩
  have HB20 := Lib.hid (PX.out.grow1 HB19.out k)
  have HM20 := Lib.hid (HM19.out.block (k.block Mb HM19.out.lt (fun e => HMS.out _ (.inl rfl) e.symm) (fun e => HMS.out _ (.inr (.inr e)) rfl)))
  have CO := Lib.hid (mofx_any p HC.out (by omega))
  rw [HKE.out.2.2.1, HKE.out.2.2.2.2.2] at CO
  unfold kV at CO
  clear p k PX CU HB19 HM19
  go_wp2_with fail
  refine CO.out.mono ?_
  rintro e w21 ⟨rfl, h21⟩
  have HB21 := Lib.hid (HB20.out.trans (h21.mono HB20.out.size))
  have HM21 := Lib.hid (HM20.out.below h21 HM20.out.lt)
  have CH := Lib.hid (mhas_any HM21.out (p := 2) (s := byteB [0]) (by decide) (by decide +kernel))
  rw [show (decide (2 = 3 ∧ byteB [0] = byteB [0, 0]) || false) = false by simp] at CH
  unfold kV at CH
  clear h21 HB20 HM20 CO
  go_wp2_with fail
  refine CH.out.mono ?_
  rintro e w22 ⟨rfl, h22⟩
  have HZ := Lib.hid (HW.out _ (HB21.out.trans (h22.mono HB21.out.size)))
  clear h22 HB21
  go_wp2_with fail
  go_ret
  exact ⟨rfl, HZ.out⟩
end Go.Proofs.YtecpeegbfeijaaaDoor

namespace Go.Proofs.YtecpeegbfeijaaaDoor
set_option maxRecDepth 100000
open Go.RowKit

set_option maxHeartbeats 16000000 in
theorem lrow_own (n : Nat) (hn : n ≤ 1000) (vb : Value) (bs : List Int) (w : World) (hB : Row w vb bs.length 1 (bs.map (Value.int .u8))) (hbs : ∀ x ∈ bs, 0 ≤ x ∧ x < 256) :
    Calls Tryd.prog 21 #[.int .i64 n, vb] w fun e w' => (∃ (v : Value) (L : List Nat), e = .returned v ∧ w'.ownsRow w.heap.size 3 1 v L.length (L.map fun i : Nat => Value.int .i64 (i : Int)) ∧ L.Perm (List.range n)) ∧ Below w.heap.size w w' := by
  obtain ⟨i0, hi, hz0, hz1, hz2⟩ := info_parts infoInt
  have HB := Lib.hid (fun wx (hx : Below w.heap.size w wx) => hB.below hx)
  have HBS := Lib.hid hbs
  obtain ⟨_, bo, bcap, rfl, hbm, _, _⟩ := hB
  clear hbs
  go_enter Tryd.func21, Tryd.ntmps21
  go_wp2_with fail
  go_loopw [5, 11] (fun v i wr => ∃ k : Nat, k ≤ n ∧ i = .int .i64 k ∧ wr.ownsRow w.heap.size 3 1 v k ((List.range k).map fun i : Nat => Value.int .i64 (i : Int)) ∧ Below w.heap.size w wr) (fun _ i _ => n - (intOf i).toNat)
  case atStart => exact ⟨0, by omega, rfl, World.ownsRow_nil _ _ _ _, Below.refl _ _⟩
  case round =>
    obtain ⟨k, hk, rfl, hown, hb⟩ := hrel
    by_cases hlt : k < n
    · have hki : (k : Int) < (n : Int) := by omega
      have HR : Hid ((List.range (k + 1)).map (fun i : Nat => Value.int .i64 (i : Int)) = (List.range k).map (fun i : Nat => Value.int .i64 (i : Int)) ++ [.int .i64 (k : Int)]) := Lib.hid (by rw [List.range_succ, List.map_append]; rfl)
      generalize (List.range k).map (fun i : Nat => Value.int .i64 (i : Int)) = xs at *
      go_wp2_with (at_builtin; refine wpList_append_own _ rfl _ _ 26 rfl w.heap.size 3 i0 (.int .i64 0) 1 8 Tryd.underlying26 hi hz0 hz1 hz2 rfl (by decide) _ _ _ rfl (hown.alloc _) ⟨_, 0, none⟩ 1 1 [.int .i64 (k : Int)] rfl rfl ?c1 ?c2 ?c3 ?c4 ?c5 ?_)
      try case c1 => exact cell_one_new _ _ _
      case c2 => first | rfl | (intro u hu; simp at hu; subst hu; rfl)
      case c3 => unfold maxLen; omega
      case c4 => omega
      case c5 => have := hb.size; simp; omega
      intro v6 w6 hown6 hg6 _
      have hsz := hb.size
      have hb6 : Below w.heap.size w w6 := hb.trans (below_app (Below.refl _ _) hsz hown hg6)
      clear hown hg6 hb
      go_wp2_with fail
      go_roundw
      case rel => exact ⟨k + 1, by omega, by go_num, by rw [HR.out]; exact hown6, hb6⟩
      case measure => simp [intOf]; omega
    · have hkn : k = n := by omega
      subst hkn
      have hI : Ints wr u5 ((List.range k).map Int.ofNat) := Ints.of_nats hown
      have HP : Hid (([] ++ List.range k).Perm (List.range k)) := Lib.hid (List.Perm.refl _)
      have hll : (List.range k).length = k := List.length_range
      obtain ⟨L0, hL0⟩ : ∃ L, L = List.range k := ⟨_, rfl⟩
      rw [← hL0] at hI
      have HP0 : Hid (([] ++ L0).Perm (List.range k)) := Lib.hid (by rw [hL0]; exact List.Perm.refl _)
      have hl0 : L0.length = k := by rw [hL0]; exact hll
      clear hown HP hll hL0 hlt
      obtain ⟨av, cv, rfl⟩ : ∃ a c, u5 = .slice a k c := by
        obtain ⟨a, c, e, _⟩ := hI.form
        rw [List.length_map, hl0] at e
        exact ⟨a, c, e⟩
      have hl0 := Lib.hid hl0
      go_wp2_with fail
      go_loopw [5, 6, 8] (fun vl vo iv wx => ∃ (L O : List Nat) (i : Nat), iv = .int .i64 i ∧ O.length = i ∧ wx.ownsRow w.heap.size 3 1 vo O.length (O.map fun i : Nat => Value.int .i64 (i : Int)) ∧ Ints wx vl (L.map Int.ofNat) ∧ (∀ b, vo.ownBlock = some b → vl.ownBlock ≠ some b) ∧ (O ++ L).Perm (List.range k) ∧ Below w.heap.size w wx)
        (fun vl _ _ _ => lenV vl)
      case atStart => exact ⟨L0, [], 0, rfl, rfl, World.ownsRow_nil _ _ _ _, hI, fun b h => by simp [Value.ownBlock] at h, HP0.out, hb⟩
      case round =>
        obtain ⟨L, O, i, rfl, hOi, hown, hI, hap, hperm, hb⟩ := hrel
        have HP := Lib.hid hperm
        have hlen : O.length + L.length = k := by have := hperm.length_eq; simpa using this
        have hik : i ≤ k := by omega
        have hok : O.length ≤ k := by omega
        have hLk : L.length ≤ k := by omega
        clear hperm HP0
        obtain ⟨lo, lcap, rfl, ⟨hlc, hlm⟩, hno⟩ := hI.full
        rw [List.length_map] at hlc hno
        rw [List.length_map] at hI ⊢
        rcases Nat.eq_zero_or_pos L.length with h0 | h0
        · have hL : L = [] := List.eq_nil_of_length_eq_zero h0
          subst hL
          have HR : Hid (O.Perm (List.range k)) := Lib.hid (by have := HP.out; rwa [List.append_nil] at this)
          have hIO := Ints.of_nats hown
          have HOWN := Lib.hid hown
          clear hOi hlen hI HP hown hap hIO
          go_wp2_with fail
          go_ret
          exact ⟨⟨_, O, rfl, HOWN.out, HR.out⟩, hb⟩
        · have hL0i : (0 : Int) < (L.length : Int) := by omega
          have HOI := Lib.hid hOi
          have HLN := Lib.hid hlen
          clear hOi hlen hl0 hno
          by_cases hbi : i < bs.length
          · have hbii : (i : Int) < (bs.length : Int) := by omega
            obtain ⟨x, hx⟩ : ∃ x, x = bs[i] := ⟨_, rfl⟩
            have hxr := HBS.out bs[i] (List.getElem_mem hbi)
            obtain ⟨gb, ob, hao, e0⟩ := bytes_at (HB.out _ hb) hbi
            cases hao
            rw [← hx] at hxr e0
            obtain ⟨hx0, hx1⟩ := hxr
            obtain ⟨j, hj⟩ : ∃ j : Nat, x % (L.length : Int) = (j : Int) := ⟨(x % (L.length : Int)).toNat, by have := Int.emod_nonneg x (show (L.length : Int) ≠ 0 by omega); omega⟩
            have hjl : j < L.length := by have := Int.emod_lt_of_pos x hL0i; omega
            clear hx
            go_upto_region 13 with fail
            rw [hj]
            clear e0 hj hx0 hx1
            obtain ⟨g, o, hgo, hcj⟩ := ints_at hI hjl
            cases hgo
            have hji : (j : Int) < (L.length : Int) := by omega
            have HPM : Hid ((O ++ [L[j]] ++ (L.take j ++ L.drop (j + 1))).Perm (List.range k)) := Lib.hid ((perm_take O L j hjl).trans HP.out)
            have HLM : Hid ((L.take j ++ L.drop (j + 1)).length + 1 = L.length) := Lib.hid (by simp; omega)
            generalize L[j] = y at *
            have HI := Lib.hid hI
            have HAP := Lib.hid hap
            clear hI hap
            go_wp2_with (at_builtin; refine wpList_append_own _ rfl _ _ 26 rfl w.heap.size 3 i0 (.int .i64 0) 1 8 Tryd.underlying26 hi hz0 hz1 hz2 rfl (by decide) _ _ _ rfl (hown.alloc _) ⟨_, 0, none⟩ 1 1 [.int .i64 (y : Int)] rfl rfl ?c1 ?c2 ?c3 ?c4 ?c5 ?_)
            try case c1 => exact cell_one_new _ _ _
            case c2 => first | rfl | (intro u hu; simp at hu; subst hu; rfl)
            case c3 => unfold maxLen; omega
            case c4 => omega
            case c5 => have := hb.size; simp; omega
            intro v6 w6 hown6 hg6 _
            have hsz := hb.size
            have hb6 : Below w.heap.size w w6 := hb.trans (below_app (Below.refl _ _) hsz hown hg6)
            have hI6 : Ints w6 (.slice (some ⟨g, o, none⟩) L.length lcap) (L.map Int.ofNat) := by
              have h := (HI.out.below ((Below.refl _ _).alloc (Nat.le_refl _) _)).grown hg6 HAP.out
              exact h
            clear hown hg6 hb hcj HI HAP
            have hs6 := hb6.size
            have hW : Below w6.heap.size w6 (w6.drew.alloc (.cells #[] 3)) := (⟨rfl, rfl, rfl, Nat.le_refl _, fun _ _ => rfl⟩ : Below w6.heap.size w6 w6.drew).alloc (Nat.le_refl _) _
            have HOW := Lib.hid (World.ownsRow_made (base := w6.heap.size) (e := 3) (size := 1) w6.drew #[] 0 (Nat.le_refl _) (by decide) rfl)
            obtain ⟨A, hA, HC2⟩ : ∃ A : Addr, (if lcap = j + 1 then some (⟨g, o, none⟩ : Addr) else some ⟨g, o + (j + 1), none⟩) = some A ∧ Hid (∀ w7, Below w6.heap.size w6 w7 → ∀ i u, ((L.drop (j + 1)).map fun i : Nat => Value.int .i64 (i : Int))[i]? = some u → w7.cell? (A.add i) = some u) := by
              by_cases h : lcap = j + 1
              · refine ⟨⟨g, o, none⟩, by simp [h], fun w7 hb7 i u hu => ?_⟩
                rw [List.drop_eq_nil_of_le (by omega)] at hu
                simp at hu
              · exact ⟨⟨g, o + (j + 1), none⟩, by simp [h], fun w7 hb7 => (hI6.below hb7).news (j + 1)⟩
            have HC1 : Hid (∀ i u, ((L.take j).map fun i : Nat => Value.int .i64 (i : Int))[i]? = some u → (w6.drew.alloc (.cells #[] 3)).cell? ((⟨g, o, none⟩ : Addr).add i) = some u) := Lib.hid (fun i u hu => by
              have hi : i < j := by
                have := (List.getElem?_eq_some_iff.1 hu).1
                simp at this; omega
              refine (hI6.below hW).news 0 i u ?_
              rw [List.drop_zero, ← hu, List.map_take, List.getElem?_take, if_pos hi])
            have s1 : Hid (((L.take j).map fun i : Nat => Value.int .i64 (i : Int)).length = j * 1) := Lib.hid (by simp; omega)
            have s2 : Hid (∀ u ∈ ((L.take j).map fun i : Nat => Value.int .i64 (i : Int)), u.oneCell' = true) := Lib.hid (fun u hu => by
              obtain ⟨x, _, rfl⟩ := List.mem_map.1 hu
              rfl)
            have t1 : Hid (((L.drop (j + 1)).map fun i : Nat => Value.int .i64 (i : Int)).length = (L.length - (j + 1)) * 1) := Lib.hid (by simp)
            have t2 : Hid (∀ u ∈ ((L.drop (j + 1)).map fun i : Nat => Value.int .i64 (i : Int)), u.oneCell' = true) := Lib.hid (fun u hu => by
              obtain ⟨x, _, rfl⟩ := List.mem_map.1 hu
              rfl)
            have HS5 : Hid (w6.heap.size ≤ (w6.drew.alloc (.cells #[] 3)).heap.size) := Lib.hid hW.size
            have HB7 : Hid (∀ w7, (w6.drew.alloc (.cells #[] 3)).grownBy w7 (some w6.heap.size) → Below w6.heap.size w6 w7) := Lib.hid (fun w7 hg => hW.grown hg hW.size (fun k hk => by cases hk; exact Nat.le_refl _))
            have hjc : j ≤ lcap := by omega
            have hwr : IntKind.i64.wrap ((j : Int) + 1) = (j : Int) + 1 := by rw [IntKind.wrap_i64]; omega
            have hp0 : (0 : Int) ≤ (j : Int) + 1 := by omega
            have hp1 : (j : Int) + 1 ≤ (L.length : Int) := by omega
            have hp2 : ((j : Int) + 1).toNat = j + 1 := by omega
            have HI6 := Lib.hid hI6
            have HO6 := Lib.hid hown6
            clear hI6 hown6 hW
            go_wp2_with fail
            go_region_law (first
              | (refine step_append_own _ rfl (.tmp 47) (.tmp 51) 26 rfl w6.heap.size 3 i0 (.int .i64 0) 1 8 Tryd.underlying26 hi hz0 hz1 hz2 rfl (by decide) v7 (0 + j) _ (by simp [Act.eval]) hown7 A (L.length - (j + 1)) (lcap - (j + 1)) _ (by simp [Act.eval]) t1.out (HC2.out _ (HB7.out _ hg7)) t2.out (by unfold maxLen; omega) (by omega) (Nat.le_trans HS5.out hg7.size) ?_
                 intro v8 w8 hown8 hg8)
              | (refine step_append_own _ rfl (.tmp 43) (.tmp 46) 26 rfl w6.heap.size 3 i0 (.int .i64 0) 1 8 Tryd.underlying26 hi hz0 hz1 hz2 rfl (by decide) _ 0 [] (by simp [Act.eval]) HOW.out ⟨g, o, none⟩ j lcap _ (by simp [Act.eval]) s1.out HC1.out s2.out (by unfold maxLen; omega) (by omega) HS5.out ?_
                 intro v7 w7 hown7 hg7))
            have hb8 : Below w6.heap.size w6 w8 := (HB7.out _ hg7).trans ((Below.refl _ _).grown hg8 (Nat.le_trans HS5.out hg7.size) (fun k hk => (hown7.lt k hk).1))
            have hI8 : Ints w8 v8 ((L.take j ++ L.drop (j + 1)).map Int.ofNat) := by
              refine Ints.of_nats (base := w6.heap.size) (e := 3) (n := 0 + j + (L.length - (j + 1))) ?_
              rw [List.map_append]
              exact hown8
            have hlv := owns_lenV hown8
            have hap8 : ∀ b, v6.ownBlock = some b → v8.ownBlock ≠ some b := fun b h6 h8 => by
              have := (HO6.out.lt b h6).2
              have := (hown8.lt b h8).1
              omega
            have ho8 := owns_below HO6.out hb8
            have hbe := hb6.trans (hb8.mono hs6)
            clear HB7 HC1 HC2 HOW HI6 HO6 hown7 hg7 hown8 hg8 hb8
            go_simp
            go_wp2
            go_roundw
            case rel => exact ⟨L.take j ++ L.drop (j + 1), O ++ [y], i + 1, by go_num, by have := HOI.out; rw [List.length_append]; simp; omega, by simpa using ho8, hI8, hap8, HPM.out, hbe⟩
            case measure => rw [hlv]; simp [lenV]; omega
          · have hbii : ¬ (i : Int) < (bs.length : Int) := by omega
            obtain ⟨j, hj⟩ : ∃ j : Nat, (0 : Int) = (j : Int) ∧ j < L.length := ⟨0, rfl, h0⟩
            obtain ⟨hj0, hjl⟩ := hj
            go_upto_region 13 with fail
            rw [hj0]
            clear hj0
            obtain ⟨g, o, hgo, hcj⟩ := ints_at hI hjl
            cases hgo
            have hji : (j : Int) < (L.length : Int) := by omega
            have HPM : Hid ((O ++ [L[j]] ++ (L.take j ++ L.drop (j + 1))).Perm (List.range k)) := Lib.hid ((perm_take O L j hjl).trans HP.out)
            have HLM : Hid ((L.take j ++ L.drop (j + 1)).length + 1 = L.length) := Lib.hid (by simp; omega)
            generalize L[j] = y at *
            have HI := Lib.hid hI
            have HAP := Lib.hid hap
            clear hI hap
            go_wp2_with (at_builtin; refine wpList_append_own _ rfl _ _ 26 rfl w.heap.size 3 i0 (.int .i64 0) 1 8 Tryd.underlying26 hi hz0 hz1 hz2 rfl (by decide) _ _ _ rfl (hown.alloc _) ⟨_, 0, none⟩ 1 1 [.int .i64 (y : Int)] rfl rfl ?c1 ?c2 ?c3 ?c4 ?c5 ?_)
            try case c1 => exact cell_one_new _ _ _
            case c2 => first | rfl | (intro u hu; simp at hu; subst hu; rfl)
            case c3 => unfold maxLen; omega
            case c4 => omega
            case c5 => have := hb.size; simp; omega
            intro v6 w6 hown6 hg6 _
            have hsz := hb.size
            have hb6 : Below w.heap.size w w6 := hb.trans (below_app (Below.refl _ _) hsz hown hg6)
            have hI6 : Ints w6 (.slice (some ⟨g, o, none⟩) L.length lcap) (L.map Int.ofNat) := by
              have h := (HI.out.below ((Below.refl _ _).alloc (Nat.le_refl _) _)).grown hg6 HAP.out
              exact h
            clear hown hg6 hb hcj HI HAP
            have hs6 := hb6.size
            have hW : Below w6.heap.size w6 (w6.drew.alloc (.cells #[] 3)) := (⟨rfl, rfl, rfl, Nat.le_refl _, fun _ _ => rfl⟩ : Below w6.heap.size w6 w6.drew).alloc (Nat.le_refl _) _
            have HOW := Lib.hid (World.ownsRow_made (base := w6.heap.size) (e := 3) (size := 1) w6.drew #[] 0 (Nat.le_refl _) (by decide) rfl)
            obtain ⟨A, hA, HC2⟩ : ∃ A : Addr, (if lcap = j + 1 then some (⟨g, o, none⟩ : Addr) else some ⟨g, o + (j + 1), none⟩) = some A ∧ Hid (∀ w7, Below w6.heap.size w6 w7 → ∀ i u, ((L.drop (j + 1)).map fun i : Nat => Value.int .i64 (i : Int))[i]? = some u → w7.cell? (A.add i) = some u) := by
              by_cases h : lcap = j + 1
              · refine ⟨⟨g, o, none⟩, by simp [h], fun w7 hb7 i u hu => ?_⟩
                rw [List.drop_eq_nil_of_le (by omega)] at hu
                simp at hu
              · exact ⟨⟨g, o + (j + 1), none⟩, by simp [h], fun w7 hb7 => (hI6.below hb7).news (j + 1)⟩
            have HC1 : Hid (∀ i u, ((L.take j).map fun i : Nat => Value.int .i64 (i : Int))[i]? = some u → (w6.drew.alloc (.cells #[] 3)).cell? ((⟨g, o, none⟩ : Addr).add i) = some u) := Lib.hid (fun i u hu => by
              have hi : i < j := by
                have := (List.getElem?_eq_some_iff.1 hu).1
                simp at this; omega
              refine (hI6.below hW).news 0 i u ?_
              rw [List.drop_zero, ← hu, List.map_take, List.getElem?_take, if_pos hi])
            have s1 : Hid (((L.take j).map fun i : Nat => Value.int .i64 (i : Int)).length = j * 1) := Lib.hid (by simp; omega)
            have s2 : Hid (∀ u ∈ ((L.take j).map fun i : Nat => Value.int .i64 (i : Int)), u.oneCell' = true) := Lib.hid (fun u hu => by
              obtain ⟨x, _, rfl⟩ := List.mem_map.1 hu
              rfl)
            have t1 : Hid (((L.drop (j + 1)).map fun i : Nat => Value.int .i64 (i : Int)).length = (L.length - (j + 1)) * 1) := Lib.hid (by simp)
            have t2 : Hid (∀ u ∈ ((L.drop (j + 1)).map fun i : Nat => Value.int .i64 (i : Int)), u.oneCell' = true) := Lib.hid (fun u hu => by
              obtain ⟨x, _, rfl⟩ := List.mem_map.1 hu
              rfl)
            have HS5 : Hid (w6.heap.size ≤ (w6.drew.alloc (.cells #[] 3)).heap.size) := Lib.hid hW.size
            have HB7 : Hid (∀ w7, (w6.drew.alloc (.cells #[] 3)).grownBy w7 (some w6.heap.size) → Below w6.heap.size w6 w7) := Lib.hid (fun w7 hg => hW.grown hg hW.size (fun k hk => by cases hk; exact Nat.le_refl _))
            have hjc : j ≤ lcap := by omega
            have hwr : IntKind.i64.wrap ((j : Int) + 1) = (j : Int) + 1 := by rw [IntKind.wrap_i64]; omega
            have hp0 : (0 : Int) ≤ (j : Int) + 1 := by omega
            have hp1 : (j : Int) + 1 ≤ (L.length : Int) := by omega
            have hp2 : ((j : Int) + 1).toNat = j + 1 := by omega
            have HI6 := Lib.hid hI6
            have HO6 := Lib.hid hown6
            clear hI6 hown6 hW
            go_wp2_with fail
            go_region_law (first
              | (refine step_append_own _ rfl (.tmp 47) (.tmp 51) 26 rfl w6.heap.size 3 i0 (.int .i64 0) 1 8 Tryd.underlying26 hi hz0 hz1 hz2 rfl (by decide) v7 (0 + j) _ (by simp [Act.eval]) hown7 A (L.length - (j + 1)) (lcap - (j + 1)) _ (by simp [Act.eval]) t1.out (HC2.out _ (HB7.out _ hg7)) t2.out (by unfold maxLen; omega) (by omega) (Nat.le_trans HS5.out hg7.size) ?_
                 intro v8 w8 hown8 hg8)
              | (refine step_append_own _ rfl (.tmp 43) (.tmp 46) 26 rfl w6.heap.size 3 i0 (.int .i64 0) 1 8 Tryd.underlying26 hi hz0 hz1 hz2 rfl (by decide) _ 0 [] (by simp [Act.eval]) HOW.out ⟨g, o, none⟩ j lcap _ (by simp [Act.eval]) s1.out HC1.out s2.out (by unfold maxLen; omega) (by omega) HS5.out ?_
                 intro v7 w7 hown7 hg7))
            have hb8 : Below w6.heap.size w6 w8 := (HB7.out _ hg7).trans ((Below.refl _ _).grown hg8 (Nat.le_trans HS5.out hg7.size) (fun k hk => (hown7.lt k hk).1))
            have hI8 : Ints w8 v8 ((L.take j ++ L.drop (j + 1)).map Int.ofNat) := by
              refine Ints.of_nats (base := w6.heap.size) (e := 3) (n := 0 + j + (L.length - (j + 1))) ?_
              rw [List.map_append]
              exact hown8
            have hlv := owns_lenV hown8
            have hap8 : ∀ b, v6.ownBlock = some b → v8.ownBlock ≠ some b := fun b h6 h8 => by
              have := (HO6.out.lt b h6).2
              have := (hown8.lt b h8).1
              omega
            have ho8 := owns_below HO6.out hb8
            have hbe := hb6.trans (hb8.mono hs6)
            clear HB7 HC1 HC2 HOW HI6 HO6 hown7 hg7 hown8 hg8 hb8
            go_simp
            go_wp2
            go_roundw
            case rel => exact ⟨L.take j ++ L.drop (j + 1), O ++ [y], i + 1, by go_num, by have := HOI.out; rw [List.length_append]; simp; omega, by simpa using ho8, hI8, hap8, HPM.out, hbe⟩
            case measure => rw [hlv]; simp [lenV]; omega
end Go.Proofs.YtecpeegbfeijaaaDoor

namespace Go.Proofs.YtecpeegbfeijaaaDoor
set_option maxRecDepth 100000
open Go.RowKit

/-- What lies in the block of the case that is handed in. -/
def CaseS (p : Nat) (vh : Value) (a : Nat) (vb : Value) (w : World) : Prop := w.cell? ⟨p, 0, none⟩ = some vh ∧ w.cell? ⟨p, 1, none⟩ = some (.int .u8 a) ∧ w.cell? ⟨p, 2, none⟩ = some vb
theorem CaseS.below {p a : Nat} {vh vb : Value} {w w' : World} (h : CaseS p vh a vb w) (hb : Below w.heap.size w w') : CaseS p vh a vb w' := by
  obtain ⟨h0, h1, h2⟩ := h
  exact ⟨(hb.cell (p := ⟨p, 0, none⟩) (block_lt h0)).trans h0, (hb.cell (p := ⟨p, 1, none⟩) (block_lt h1)).trans h1, (hb.cell (p := ⟨p, 2, none⟩) (block_lt h2)).trans h2⟩
end Go.Proofs.YtecpeegbfeijaaaDoor

namespace Go.Proofs.YtecpeegbfeijaaaDoor
set_option maxRecDepth 100000
open Go.RowKit

theorem rowx_at {S n cap : Nat} {vr : Value} {w : World} {ao : Option Addr} {L : List Nat} (h : RowX S vr w (.slice ao n cap) L.length 1 (L.map fun i : Nat => Value.int .i64 (i : Int))) {k : Nat} (hk : k < L.length) : ∃ g o, ao = some ⟨g, o, none⟩ ∧ w.cell? ⟨g, o + k, none⟩ = some (.int .i64 (L[k] : Int)) := by
  obtain ⟨⟨_, ao', cap', he, hm, _, hc⟩, _⟩ := h
  obtain ⟨rfl, _, _⟩ : ao = ao' ∧ n = L.length ∧ cap = cap' := by simpa using he
  obtain ⟨b, off, rfl, hcell⟩ := hc (by omega)
  refine ⟨b, off, rfl, ?_⟩
  rw [hcell k (by omega)]
  simp [List.getElem?_eq_getElem hk]
end Go.Proofs.YtecpeegbfeijaaaDoor
