/- Walks and plain facts that the proof of the statement OrderReads uses, joined: OrdL OrdN OrdAK. Conditions: each theorem's own. -/
import Derived.Deep.RegionHeld
import Derived.Deep.CutRange
import Derived.Deep.MidRow
import Derived.Test.YtflalehpdngklaaPOrderReads1
import Derived.Test.YtflalehpdngklaaPOrderReads2
import Derived.Test.YtflalehpdngklaaPOrderReads3
namespace Go.Proofs.Ytflalehpdngklaa
set_option maxRecDepth 100000
open Go.RowKit

theorem takeQ {P : Program} {ops : Array Oper} {Q : Exit → Act → World → Prop} {md : Region.Mode} {S : World → Prop} (d : Option Tmp) {i : Nat} {oi : Oper} {v : Value} {fuel : Nat} {listed : Array Bool} {a : Act} {w : World} (hi : ops[i]? = some oi) (hd : oi.dst = d)
    (hs : Region.noSelect ops = true) (hf : Region.free md ops listed i = true) (hr : (Region.ready md ops listed).contains i = true)
    (hQ : ∀ c a w, Q (.panic c) (a.put oi.dst v) w → Q (.panic c) a w) (hy : YieldsIf P ops S oi v a) (hS : S w)
    (h : wpAnyH P md ops Q S fuel (listed.setIfInBounds i true) (a.put d v) w) : wpAnyH P md ops Q S (fuel + 1) listed a w := by
  subst hd; exact wpAnyH_take hi hs hf hr hQ hy hS h
set_option maxHeartbeats 16000000 in
theorem of_done (va : Value) (h : List TxnV) (w : World) (hT : Txns w va h) (hok : ∀ t ∈ h, t.ok) (hsh : Short h) (hc : checkI h = 0) :
    Calls Try.prog 7 #[va] w fun e w' => (∃ B, e = .returned (.tuple #[.pointer (some ⟨B, 0, none⟩), .int .i64 0]) ∧ w.heap.size ≤ B ∧ OrdIs w' B (B + 2) h) ∧ Below w.heap.size w w' := by
  obtain ⟨ao, cap, rfl, hal⟩ := hT.form
  obtain ⟨hlen, hops, hW, hks⟩ := check_zero hc
  have hb0 := box_below w (.cells #[.slice ao h.length cap] 22)
  have CH := Lib.hid (hcheck_any _ h _ (hT.below hb0) hok hsh)
  rw [hc] at CH
  have CW := Lib.hid (fun wx (hx : Below w.heap.size w wx) => hwrites_any _ h wx (hT.below hx) hok hks (by omega) (by omega))
  have HT := Lib.hid (fun wx (hx : Below w.heap.size w wx) => hT.below hx)
  have HOK := Lib.hid hok
  have HKS := Lib.hid hks
  have HW := Lib.hid hW
  have HOPS := Lib.hid hops
  obtain ⟨i1, hi1, hza1, hzb1, hzc1⟩ := info_parts infoLI
  obtain ⟨i2, hi2, hza2, hzb2, hzc2⟩ := info_parts infoLR
  have hA0 : (w.alloc (.cells #[.slice ao h.length cap] 22)).cell? ⟨w.heap.size, 0, none⟩ = some (.slice ao h.length cap) := by rw [cell_of_row _ _ _ _ _ _ (heap_alloc_new w _)]; rfl
  clear hT hok hsh hks hW hc hops
  go_enter Try.func7, Try.ntmps7
  go_wp2_with fail
  refine (CH.out).mono ?_
  rintro e w1 ⟨rfl, hb1⟩
  have hA1 := (hb1.cell (p := ⟨w.heap.size, 0, none⟩) (block_lt hA0)).trans hA0
  have hb2 := below_then hb0 hb1
  clear CH hb1 hb0 hA0
  go_wp2_with fail
  refine (CW.out _ hb2).mono ?_
  rintro e w2 ⟨hb3, ⟨hno, _⟩ | ⟨_, bm, m, rfl, hbm, hM⟩⟩
  · exact absurd hno (by rw [HW.out]; simp)
  have hA2 := (hb3.cell (p := ⟨w.heap.size, 0, none⟩) (block_lt hA1)).trans hA1
  have hb4 := below_then hb2 hb3
  clear CW hb3 hb2 hA1
  have hlt := block_lt hA2
  simp only at hlt
  have hO3 := (OrdAt.made w2 (h.length : Int) 37 rfl rfl).alloc (.cells #[.pointer (some ⟨w2.heap.size, 0, none⟩)] 25)
  have hb3 := ((Below.refl w2.heap.size w2).alloc (Nat.le_refl _) (.cells ((Try.zeroCells37.setIfInBounds 0 (.int .i64 h.length)).setIfInBounds 196 (.bool true)) 37)).alloc (by simp) (.cells #[.pointer (some ⟨w2.heap.size, 0, none⟩)] 25)
  have hA3 := (hb3.cell (p := ⟨w.heap.size, 0, none⟩) hlt).trans hA2
  have hC3 : ((w2.alloc (.cells ((Try.zeroCells37.setIfInBounds 0 (.int .i64 h.length)).setIfInBounds 196 (.bool true)) 37)).alloc (.cells #[.pointer (some ⟨w2.heap.size, 0, none⟩)] 25)).cell? ⟨w2.heap.size + 1, 0, none⟩ = some (.pointer (some ⟨w2.heap.size, 0, none⟩)) := by
    rw [cell_of_row _ _ _ _ _ _ (heap_alloc2_new w2 _ _)]; rfl
  have hs3 : w2.heap.size + 2 ≤ ((w2.alloc (.cells ((Try.zeroCells37.setIfInBounds 0 (.int .i64 h.length)).setIfInBounds 196 (.bool true)) 37)).alloc (.cells #[.pointer (some ⟨w2.heap.size, 0, none⟩)] 25)).heap.size := by simp
  go_wp2_with fail
  generalize ((w2.alloc (.cells ((Try.zeroCells37.setIfInBounds 0 (.int .i64 h.length)).setIfInBounds 196 (.bool true)) 37)).alloc (.cells #[.pointer (some ⟨w2.heap.size, 0, none⟩)] 25)) = w3 at *
  generalize (Try.zeroCells37.setIfInBounds 0 (.int .i64 h.length)).setIfInBounds 196 (.bool true) = Z at *
  go_loopw [26] (fun i wr => ∃ (k : Nat) (vk vr : Value) (sd : Bool) (K : List KRow) (R : List RRow), k ≤ h.length ∧ i = .int .i64 k ∧ K.map (·.2) = keysTo h k ∧ R.map (·.2) = readsTo h k ∧ sd = soundTo h k ∧ OrdAt wr w2.heap.size h.length noR noR noR (.map none) vk vr sd ∧
      wr.cell? ⟨w2.heap.size + 1, 0, none⟩ = some (.pointer (some ⟨w2.heap.size, 0, none⟩)) ∧ OfR (w2.heap.size + 2) wr vk vr K R ∧ Below w2.heap.size w2 wr ∧ w2.heap.size + 2 ≤ wr.heap.size) (fun i _ => h.length - (intOf i).toNat)
  case atStart => exact ⟨0, _, _, _, [], [], by omega, rfl, rfl, rfl, rfl, hO3, hC3, OfR.nil _ _, hb3, hs3⟩
  case round =>
    clear hO3 hC3 hb3 hs3 hA3
    obtain ⟨k, vk, vr, sd, K, R, hk, rfl, hK, hR, hsd, hO, hC, hF, hb, hsz⟩ := hrel
    have HK := Lib.hid (And.intro hK (And.intro hR hsd))
    clear hK hR hsd
    by_cases hlk : k < h.length
    · have hki : (k : Int) < (h.length : Int) := by omega
      have hbw := below_then hb4 hb
      obtain ⟨g, o, hao, c0, c1, c2, c3⟩ := (HT.out _ hbw).at hlk
      cases hao
      have hOps := (HT.out _ hbw).ops hlk
      have HOPF := Lib.hid (fun wx (hx : Below w2.heap.size w2 wx) => (HT.out wx (below_then hb4 hx)).ops hlk)
      generalize h[k].s = ts at *
      generalize h[k].b = tb at *
      generalize h[k].c = tc at *
      have HLK : Hid (opsAt h k = h[k].l) := Lib.hid (opsAt_eq hlk)
      have hll : h[k].l.length ≤ 1024 := by
        have h1 := opsN_take h k hlk
        have h2 := opsN_le h (k + 1)
        have h3 := HOPS.out
        omega
      have HOL := Lib.hid (HOK.out _ (List.getElem_mem hlk)).2
      have HKL := Lib.hid (HKS.out _ (List.getElem_mem hlk))
      generalize h[k].v = tv at *
      generalize h[k].l = l at *
      obtain ⟨a2, cap2, rfl, hl2⟩ := hOps.form
      obtain ⟨b0, b1, b2, b3⟩ := txnBlock wr (.int .i64 ts) (.int .i64 tb) (.int .i64 tc) (.slice a2 l.length cap2) 41
      have hbx := (Below.refl wr.heap.size wr).alloc (Nat.le_refl _) (.cells #[.int .i64 ts, .int .i64 tb, .int .i64 tc, .slice a2 l.length cap2] 41)
      have hOps1 := hOps.below hbx
      have hO1 := hO.below hbx hO.lt
      have hC1 := (hbx.cell (p := ⟨w2.heap.size + 1, 0, none⟩) (block_lt hC)).trans hC
      have hF1 := hF.below hbx
      have hb1 := hb.trans (hbx.mono hb.size)
      have hs1 : w2.heap.size + 2 ≤ (wr.alloc (.cells #[.int .i64 ts, .int .i64 tb, .int .i64 tc, .slice a2 l.length cap2] 41)).heap.size := by simp; omega
      have hgx : w2.heap.size + 2 ≤ wr.heap.size := hsz
      have hX1 := heap_alloc_new wr (.cells #[.int .i64 ts, .int .i64 tb, .int .i64 tc, .slice a2 l.length cap2] 41)
      have hX : OfS w2 wr.heap.size ts tb tc (.slice a2 l.length cap2) h.length vk vr sd K R (wr.alloc (.cells #[.int .i64 ts, .int .i64 tb, .int .i64 tc, .slice a2 l.length cap2] 41)) := ⟨hO1, ⟨hC1, b0, b1, b2, b3⟩, hF1, hb1, hs1, ⟨_, hX1⟩, hgx⟩
      have hTf := fun wx (hx : Below w2.heap.size w2 wx) => HT.out wx (below_then hb4 hx)
      go_upto_region 9 with fail
      clear hOps hO hC hF hb hbx hbw hsz c0 c1 c2 c3 hO1 hC1 hF1 hb1 hs1 hX1 b0 b1 b2 b3
      generalize wr.alloc (.cells #[.int .i64 ts, .int .i64 tb, .int .i64 tc, .slice a2 l.length cap2] 41) = w4 at *
      generalize wr.heap.size = gx at *
      clear wr
      have hKl : K.length ≤ 64 := by have := congrArg List.length HK.out.1; simp [keysTo] at this; omega
      have hRl : R.length ≤ 64 := by have := congrArg List.length HK.out.2.1; simp [readsTo] at this; omega
      obtain ⟨aK, cK, rfl⟩ := owns_form hX.r.kr
      obtain ⟨aR, cR, rfl⟩ := owns_form hX.r.rr
      go_cut [41] from 31 to 41 (fun u wx => ∃ (v5 : Value) (vx : Value), u = .pointer (some ⟨w2.heap.size, 194, none⟩) ∧ OfS w2 gx ts tb tc (.slice a2 l.length cap2) h.length v5 (.slice aR R.length cR) sd (K ++ [(vx, keysOf l)]) R wx)
      case first =>
        have kd := (Below.refl w4.heap.size w4).drew
        have CK : Hid (∀ wx, Below w4.heap.size w4 wx → Calls Try.prog 21 #[.agg #[.int .i64 ts, .int .i64 tb, .int .i64 tc, .slice a2 l.length cap2]] wx fun e w' => ∃ v, e = .returned v ∧ w'.ownsRow (w2.heap.size + 2) 3 1 v (keysOf l).length ((keysOf l).map (Value.int .i64)) ∧ Below wx.heap.size wx w') := Lib.hid (fun wx hx => (okeys_any ts tb tc _ l wx (hOps1.below hx) HOL.out (by omega)).mono (fun e w' ⟨v, out, he, ho, hr, _, hbb⟩ => by
          obtain rfl := hr.eq (refWrites_rise HKL.out)
          refine ⟨v, he, own_base' ?_ (show w2.heap.size + 2 ≤ wx.heap.size by have h1 := hx.size; have h2 := hX.z; omega), hbb⟩
          unfold keysOf
          rw [List.length_map, List.map_map]
          exact ho))
        have HS : Hid (∀ wx, Below w4.heap.size w4 wx → SB (w2.heap.size + 1) w2.heap.size gx ts tb tc (.slice a2 l.length cap2) wx) := Lib.hid (fun wx hx => hX.s.below hx)
        have hc0 := hX.o.cK
        have HCL : Hid (∀ wx, Below w4.heap.size w4 wx → wx.cell? ⟨w2.heap.size, 194, none⟩ = some (.slice aK K.length cK)) := Lib.hid (fun wx hx => (hx.cell (p := ⟨w2.heap.size, 194, none⟩) (block_lt hc0)).trans hc0)
        have HCA : Hid (∀ wx, Below w4.heap.size w4 wx → ∀ o, (wx.alloc o).cell? ⟨w2.heap.size, 194, none⟩ = some (.slice aK K.length cK)) := Lib.hid (fun wx hx o => HCL.out _ (hx.alloc hx.size o))
        have HRO : Hid (∀ wx, Below w4.heap.size w4 wx → wx.ownsRow (w2.heap.size + 2) 48 1 (.slice aK K.length cK) K.length (K.map (·.1))) := Lib.hid (fun wx hx => owns_below hX.r.kr hx)
        have HSZ : Hid (∀ wx (o : Obj), Below w4.heap.size w4 wx → w2.heap.size + 2 ≤ (wx.alloc o).heap.size) := Lib.hid (fun wx o hx => by have h1 := hx.size; have h2 := hX.z; simp; omega)
        have HFIN := Lib.hid (fun wx w5 v v5 hx => hX.addK (wx := wx) (w5 := w5) (v := v) (v5 := v5) (t := 48) (l := keysOf l) hx)
        have n3 : Hid (K.length + 1 ≤ maxLen) := Lib.hid (by unfold maxLen; omega)
        have n4 : Hid ((K.length + 1) * 24 ≤ 140737488355328) := Lib.hid (by omega)
        refine wp_region_held_drew (S := SB (w2.heap.size + 1) w2.heap.size gx ts tb tc (.slice a2 l.length cap2)) (by kernel_rfl) hX.s.drew (fun hS0 => ?_)
        refine takeQ (some 31) (i := 0) (v := ?v1) rfl rfl (by kernel_rfl) (by kernel_rfl) (by kernel_rfl) (fun _ _ _ h => h) (Or.inl ⟨by rfl, ?h1⟩) hS0 ?r1
        case h1 => (intro w hw; obtain ⟨q0, q1, q2, q3, q4⟩ := hw; go_simp; try (with_reducible rfl))
        try simp only [Act.put, List.setIfInBounds_toArray, List.set_cons_zero, List.set_cons_succ]
        refine takeQ (some 32) (i := 1) (v := ?v2) rfl rfl (by kernel_rfl) (by kernel_rfl) (by kernel_rfl) (fun _ _ _ h => h) (Or.inl ⟨by rfl, ?h2⟩) hS0 ?r2
        case h2 => (intro w hw; obtain ⟨q0, q1, q2, q3, q4⟩ := hw; go_simp; try (with_reducible rfl))
        try simp only [Act.put, List.setIfInBounds_toArray, List.set_cons_zero, List.set_cons_succ]
        refine takeQ (some 36) (i := 5) (v := ?v3) rfl rfl (by kernel_rfl) (by kernel_rfl) (by kernel_rfl) (fun _ _ _ h => h) (Or.inl ⟨by rfl, ?h3⟩) hS0 ?r3
        case h3 => (intro w hw; obtain ⟨q0, q1, q2, q3, q4⟩ := hw; go_simp; try (with_reducible rfl))
        try simp only [Act.put, List.setIfInBounds_toArray, List.set_cons_zero, List.set_cons_succ]
        refine takeQ (some 33) (i := 2) (v := ?v4) rfl rfl (by kernel_rfl) (by kernel_rfl) (by kernel_rfl) (fun _ _ _ h => h) (Or.inl ⟨by rfl, ?h4⟩) hS0 ?r4
        case h4 => (intro w hw; obtain ⟨q0, q1, q2, q3, q4⟩ := hw; go_simp; try (with_reducible rfl))
        try simp only [Act.put, List.setIfInBounds_toArray, List.set_cons_zero, List.set_cons_succ]
        refine takeQ (some 34) (i := 3) (v := ?v5) rfl rfl (by kernel_rfl) (by kernel_rfl) (by kernel_rfl) (fun _ _ _ h => h) (Or.inl ⟨by rfl, ?h5⟩) hS0 ?r5
        case h5 => (intro w hw; obtain ⟨q0, q1, q2, q3, q4⟩ := hw; go_simp; try (with_reducible rfl))
        try simp only [Act.put, List.setIfInBounds_toArray, List.set_cons_zero, List.set_cons_succ]
        refine wpAnyH_ready (rs := [4, 6]) (by kernel_rfl) (by simp) ?_
        refine AllReadyH.cons rfl ?_ (AllReadyH.cons rfl ?_ AllReadyH.nil)
        · intro KK hKK
          go_simp
          refine hKK.out _ _ hS0 (fun _ => ?_)
          clear hKK KK
          refine wpAnyH_ready (rs := [6]) (by kernel_rfl) (by simp) ?_
          refine AllReadyH.cons rfl ?_ AllReadyH.nil
          intro KK hKK
          go_simp
          refine (CK.out _ kd).mono ?_
          rintro e wx ⟨vx, rfl, hox, hbx⟩
          obtain ⟨ax, cx, hvx⟩ := owns_form hox
          subst hvx
          show KK _ _
          have kk := below_then kd hbx
          have hS1 := HS.out _ kk
          have hcw := HCL.out _ kk
          refine hKK.out _ _ hS1 (fun _ => ?_)
          clear hKK KK
          refine wpAnyH_ready (rs := [7]) (by kernel_rfl) (by simp) ?_
          refine AllReadyH.cons rfl ?_ AllReadyH.nil
          intro KK hKK
          go_simp
          have hS2 := hS1.alloc (.cells #[.slice ax (keysOf l).length cx] 48)
          have hcw := HCA.out _ kk (.cells #[.slice ax (keysOf l).length cx] 48)
          refine hKK.out _ _ hS2 (fun _ => ?_)
          clear hKK KK
          refine wpAnyH_ready (rs := [8]) (by kernel_rfl) (by simp) ?_
          refine AllReadyH.cons rfl ?_ AllReadyH.nil
          intro KK hKK
          refine step_app _ rfl (.tmp 35) (.tmp 38) 34 rfl (w2.heap.size + 2) 48 i1 (.slice none 0 0) 1 24 Try.underlying34 hi1 hza1 hzb1 hzc1 rfl (by decide) (.slice aK K.length cK) K.length (K.map (·.1)) (by simp [Act.eval]) ((HRO.out _ kk).alloc _) ⟨_, 0, none⟩ 1 1 [.slice ax (keysOf l).length cx] (by rfl) rfl (cell_one_new _ _ _) (by intro u hu; simp at hu; subst hu; rfl) n3.out n4.out (HSZ.out _ _ kk) ?_
          intro v5 w5 hown5 hg5
          obtain ⟨a5, c5, hv5⟩ := owns_form hown5
          subst hv5
          obtain ⟨hfin, hS5, hfz, hcz⟩ := HFIN.out _ _ _ _ kk hox hown5 hg5
          show KK _ _
          refine hKK.out _ _ hS5 (fun _ => ?_)
          clear hKK KK
          refine takeQ (some 40) (i := 9) (v := ?v6) rfl rfl (by kernel_rfl) (by kernel_rfl) (by kernel_rfl) (fun _ _ _ h => h) (Or.inl ⟨by rfl, ?h6⟩) hS5 ?r6
          case h6 => (intro w hw; obtain ⟨q0, q1, q2, q3, q4⟩ := hw; go_simp; try (with_reducible rfl))
          try simp only [Act.put, List.setIfInBounds_toArray]
          refine takeQ (some 41) (i := 10) (v := ?v7) rfl rfl (by kernel_rfl) (by kernel_rfl) (by kernel_rfl) (fun _ _ _ h => h) (Or.inl ⟨by rfl, ?h7⟩) hS5 ?r7
          case h7 => (intro w hw; obtain ⟨q0, q1, q2, q3, q4⟩ := hw; go_simp; try (with_reducible rfl))
          try simp only [Act.put]
          refine wpAnyH_ready (rs := [11]) (by kernel_rfl) (by simp) ?_
          refine AllReadyH.cons rfl ?_ AllReadyH.nil
          intro KK hKK
          go_simp
          refine hKK.out _ _ hfin.s (fun _ => ?_)
          clear hKK KK
          refine wpAnyH_done (by kernel_rfl) ?_ _
          go_wp2_with fail
          go_meet
          exact ⟨_, _, rfl, hfin⟩
        · intro KK hKK
          go_simp
          refine (CK.out _ kd).mono ?_
          rintro e wx ⟨vx, rfl, hox, hbx⟩
          obtain ⟨ax, cx, hvx⟩ := owns_form hox
          subst hvx
          show KK _ _
          have kk := below_then kd hbx
          have hS1 := HS.out _ kk
          have hcw := HCL.out _ kk
          refine hKK.out _ _ hS1 (fun _ => ?_)
          clear hKK KK
          refine wpAnyH_ready (rs := [4, 7]) (by kernel_rfl) (by simp) ?_
          refine AllReadyH.cons rfl ?_ (AllReadyH.cons rfl ?_ AllReadyH.nil)
          · intro KK hKK
            go_simp
            refine hKK.out _ _ hS1 (fun _ => ?_)
            clear hKK KK
            refine wpAnyH_ready (rs := [7]) (by kernel_rfl) (by simp) ?_
            refine AllReadyH.cons rfl ?_ AllReadyH.nil
            intro KK hKK
            go_simp
            have hS2 := hS1.alloc (.cells #[.slice ax (keysOf l).length cx] 48)
            have hcw := HCA.out _ kk (.cells #[.slice ax (keysOf l).length cx] 48)
            refine hKK.out _ _ hS2 (fun _ => ?_)
            clear hKK KK
            refine wpAnyH_ready (rs := [8]) (by kernel_rfl) (by simp) ?_
            refine AllReadyH.cons rfl ?_ AllReadyH.nil
            intro KK hKK
            refine step_app _ rfl (.tmp 35) (.tmp 38) 34 rfl (w2.heap.size + 2) 48 i1 (.slice none 0 0) 1 24 Try.underlying34 hi1 hza1 hzb1 hzc1 rfl (by decide) (.slice aK K.length cK) K.length (K.map (·.1)) (by simp [Act.eval]) ((HRO.out _ kk).alloc _) ⟨_, 0, none⟩ 1 1 [.slice ax (keysOf l).length cx] (by rfl) rfl (cell_one_new _ _ _) (by intro u hu; simp at hu; subst hu; rfl) n3.out n4.out (HSZ.out _ _ kk) ?_
            intro v5 w5 hown5 hg5
            obtain ⟨a5, c5, hv5⟩ := owns_form hown5
            subst hv5
            obtain ⟨hfin, hS5, hfz, hcz⟩ := HFIN.out _ _ _ _ kk hox hown5 hg5
            show KK _ _
            refine hKK.out _ _ hS5 (fun _ => ?_)
            clear hKK KK
            refine takeQ (some 40) (i := 9) (v := ?v8) rfl rfl (by kernel_rfl) (by kernel_rfl) (by kernel_rfl) (fun _ _ _ h => h) (Or.inl ⟨by rfl, ?h8⟩) hS5 ?r8
            case h8 => (intro w hw; obtain ⟨q0, q1, q2, q3, q4⟩ := hw; go_simp; try (with_reducible rfl))
            try simp only [Act.put, List.setIfInBounds_toArray]
            refine takeQ (some 41) (i := 10) (v := ?v9) rfl rfl (by kernel_rfl) (by kernel_rfl) (by kernel_rfl) (fun _ _ _ h => h) (Or.inl ⟨by rfl, ?h9⟩) hS5 ?r9
            case h9 => (intro w hw; obtain ⟨q0, q1, q2, q3, q4⟩ := hw; go_simp; try (with_reducible rfl))
            try simp only [Act.put]
            refine wpAnyH_ready (rs := [11]) (by kernel_rfl) (by simp) ?_
            refine AllReadyH.cons rfl ?_ AllReadyH.nil
            intro KK hKK
            go_simp
            refine hKK.out _ _ hfin.s (fun _ => ?_)
            clear hKK KK
            refine wpAnyH_done (by kernel_rfl) ?_ _
            go_wp2_with fail
            go_meet
            exact ⟨_, _, rfl, hfin⟩
          · intro KK hKK
            go_simp
            have hS2 := hS1.alloc (.cells #[.slice ax (keysOf l).length cx] 48)
            have hcw := HCA.out _ kk (.cells #[.slice ax (keysOf l).length cx] 48)
            refine hKK.out _ _ hS2 (fun _ => ?_)
            clear hKK KK
            refine wpAnyH_ready (rs := [4]) (by kernel_rfl) (by simp) ?_
            refine AllReadyH.cons rfl ?_ AllReadyH.nil
            intro KK hKK
            go_simp
            refine hKK.out _ _ hS2 (fun _ => ?_)
            clear hKK KK
            refine wpAnyH_ready (rs := [8]) (by kernel_rfl) (by simp) ?_
            refine AllReadyH.cons rfl ?_ AllReadyH.nil
            intro KK hKK
            refine step_app _ rfl (.tmp 35) (.tmp 38) 34 rfl (w2.heap.size + 2) 48 i1 (.slice none 0 0) 1 24 Try.underlying34 hi1 hza1 hzb1 hzc1 rfl (by decide) (.slice aK K.length cK) K.length (K.map (·.1)) (by simp [Act.eval]) ((HRO.out _ kk).alloc _) ⟨_, 0, none⟩ 1 1 [.slice ax (keysOf l).length cx] (by rfl) rfl (cell_one_new _ _ _) (by intro u hu; simp at hu; subst hu; rfl) n3.out n4.out (HSZ.out _ _ kk) ?_
            intro v5 w5 hown5 hg5
            obtain ⟨a5, c5, hv5⟩ := owns_form hown5
            subst hv5
            obtain ⟨hfin, hS5, hfz, hcz⟩ := HFIN.out _ _ _ _ kk hox hown5 hg5
            show KK _ _
            refine hKK.out _ _ hS5 (fun _ => ?_)
            clear hKK KK
            refine takeQ (some 40) (i := 9) (v := ?v10) rfl rfl (by kernel_rfl) (by kernel_rfl) (by kernel_rfl) (fun _ _ _ h => h) (Or.inl ⟨by rfl, ?h10⟩) hS5 ?r10
            case h10 => (intro w hw; obtain ⟨q0, q1, q2, q3, q4⟩ := hw; go_simp; try (with_reducible rfl))
            try simp only [Act.put, List.setIfInBounds_toArray]
            refine takeQ (some 41) (i := 10) (v := ?v11) rfl rfl (by kernel_rfl) (by kernel_rfl) (by kernel_rfl) (fun _ _ _ h => h) (Or.inl ⟨by rfl, ?h11⟩) hS5 ?r11
            case h11 => (intro w hw; obtain ⟨q0, q1, q2, q3, q4⟩ := hw; go_simp; try (with_reducible rfl))
            try simp only [Act.put]
            refine wpAnyH_ready (rs := [11]) (by kernel_rfl) (by simp) ?_
            refine AllReadyH.cons rfl ?_ AllReadyH.nil
            intro KK hKK
            go_simp
            refine hKK.out _ _ hfin.s (fun _ => ?_)
            clear hKK KK
            refine wpAnyH_done (by kernel_rfl) ?_ _
            go_wp2_with fail
            go_meet
            exact ⟨_, _, rfl, hfin⟩
      case rest =>
        obtain ⟨vk5, vx, rfl, hX5⟩ := hcut
        clear hX hOps1
        have hX := hX5
        clear hX5
        have HRD : Hid (∃ rd, rd = rdFr (wrTo h h.length) (k : Int) (refReads l)) := Lib.hid ⟨_, rfl⟩
        obtain ⟨rd, hrd⟩ := HRD.out
        have HRD2 := Lib.hid hrd
        clear hrd HRD
        go_upto_region 10 with fail
        go_cut [54] from 42 to 54 (fun u wx => ∃ (v5 : Value) (vy : Value), u = .pointer (some ⟨w2.heap.size, 195, none⟩) ∧ OfS w2 gx ts tb tc (.slice a2 l.length cap2) h.length vk5 v5 sd (K ++ [(vx, keysOf l)]) (R ++ [(vy, rd)]) wx)
        case first =>
          have hOps1 := HOPF.out wc hX.b
          have hMc := hM.below hX.b
          have kd := (Below.refl wc.heap.size wc).drew
          have CK : Hid (∀ wx, Below wc.heap.size wc wx → Calls Try.prog 22 #[.int .i64 k, .agg #[.int .i64 ts, .int .i64 tb, .int .i64 tc, .slice a2 l.length cap2], .map (some bm)] wx fun e w' => ∃ v, e = .returned v ∧ w'.ownsRow (w2.heap.size + 2) 46 2 v rd.length (frV rd) ∧ Below wx.heap.size wx w') := Lib.hid (fun wx hx => (oreads_any (k : Int) ts tb tc _ l (wrTo h h.length) bm _ _ wx (hOps1.below hx) HOL.out (by omega) (hMc.below hx)).mono (fun e w' ⟨v, out, he, ho, hr, _, hbb⟩ => by
            obtain rfl := hr.eq (refReads_rise HKL.out)
            rw [← HRD2.out] at ho
            exact ⟨v, he, own_base' ho (show w2.heap.size + 2 ≤ wx.heap.size by have h1 := hx.size; have h2 := hX.z; omega), hbb⟩))
          have HS : Hid (∀ wx, Below wc.heap.size wc wx → SB (w2.heap.size + 1) w2.heap.size gx ts tb tc (.slice a2 l.length cap2) wx) := Lib.hid (fun wx hx => hX.s.below hx)
          have hc0 := hX.o.cR
          have HCL : Hid (∀ wx, Below wc.heap.size wc wx → wx.cell? ⟨w2.heap.size, 195, none⟩ = some (.slice aR R.length cR)) := Lib.hid (fun wx hx => (hx.cell (p := ⟨w2.heap.size, 195, none⟩) (block_lt hc0)).trans hc0)
          have HCA : Hid (∀ wx, Below wc.heap.size wc wx → ∀ o, (wx.alloc o).cell? ⟨w2.heap.size, 195, none⟩ = some (.slice aR R.length cR)) := Lib.hid (fun wx hx o => HCL.out _ (hx.alloc hx.size o))
          have HRO : Hid (∀ wx, Below wc.heap.size wc wx → wx.ownsRow (w2.heap.size + 2) 44 1 (.slice aR R.length cR) R.length (R.map (·.1))) := Lib.hid (fun wx hx => owns_below hX.r.rr hx)
          have HSZ : Hid (∀ wx (o : Obj), Below wc.heap.size wc wx → w2.heap.size + 2 ≤ (wx.alloc o).heap.size) := Lib.hid (fun wx o hx => by have h1 := hx.size; have h2 := hX.z; simp; omega)
          have HFIN := Lib.hid (fun wx w5 v v5 hx => hX.addR (wx := wx) (w5 := w5) (v := v) (v5 := v5) (t := 44) (l := rd) hx)
          have n3 : Hid (R.length + 1 ≤ maxLen) := Lib.hid (by unfold maxLen; omega)
          have n4 : Hid ((R.length + 1) * 24 ≤ 140737488355328) := Lib.hid (by omega)
          refine wp_region_held_drew (S := SB (w2.heap.size + 1) w2.heap.size gx ts tb tc (.slice a2 l.length cap2)) (by kernel_rfl) hX.s.drew (fun hS0 => ?_)
          refine takeQ (some 42) (i := 0) (v := ?v101) rfl rfl (by kernel_rfl) (by kernel_rfl) (by kernel_rfl) (fun _ _ _ h => h) (Or.inl ⟨by rfl, ?h101⟩) hS0 ?r101
          case h101 => (intro w hw; obtain ⟨q0, q1, q2, q3, q4⟩ := hw; go_simp; try (with_reducible rfl))
          try simp only [Act.put, List.setIfInBounds_toArray, List.set_cons_zero, List.set_cons_succ]
          refine takeQ (some 43) (i := 1) (v := ?v102) rfl rfl (by kernel_rfl) (by kernel_rfl) (by kernel_rfl) (fun _ _ _ h => h) (Or.inl ⟨by rfl, ?h102⟩) hS0 ?r102
          case h102 => (intro w hw; obtain ⟨q0, q1, q2, q3, q4⟩ := hw; go_simp; try (with_reducible rfl))
          try simp only [Act.put, List.setIfInBounds_toArray, List.set_cons_zero, List.set_cons_succ]
          refine takeQ (some 47) (i := 5) (v := ?v103) rfl rfl (by kernel_rfl) (by kernel_rfl) (by kernel_rfl) (fun _ _ _ h => h) (Or.inl ⟨by rfl, ?h103⟩) hS0 ?r103
          case h103 => (intro w hw; obtain ⟨q0, q1, q2, q3, q4⟩ := hw; go_simp; try (with_reducible rfl))
          try simp only [Act.put, List.setIfInBounds_toArray, List.set_cons_zero, List.set_cons_succ]
          refine takeQ (some 48) (i := 6) (v := ?v104) rfl rfl (by kernel_rfl) (by kernel_rfl) (by kernel_rfl) (fun _ _ _ h => h) (Or.inl ⟨by rfl, ?h104⟩) hS0 ?r104
          case h104 => (intro w hw; obtain ⟨q0, q1, q2, q3, q4⟩ := hw; go_simp; try (with_reducible rfl))
          try simp only [Act.put, List.setIfInBounds_toArray, List.set_cons_zero, List.set_cons_succ]
          refine takeQ (some 49) (i := 7) (v := ?v105) rfl rfl (by kernel_rfl) (by kernel_rfl) (by kernel_rfl) (fun _ _ _ h => h) (Or.inl ⟨by rfl, ?h105⟩) hS0 ?r105
          case h105 => (intro w hw; obtain ⟨q0, q1, q2, q3, q4⟩ := hw; go_simp; try (with_reducible rfl))
          try simp only [Act.put, List.setIfInBounds_toArray, List.set_cons_zero, List.set_cons_succ]
          refine takeQ (some 44) (i := 2) (v := ?v106) rfl rfl (by kernel_rfl) (by kernel_rfl) (by kernel_rfl) (fun _ _ _ h => h) (Or.inl ⟨by rfl, ?h106⟩) hS0 ?r106
          case h106 => (intro w hw; obtain ⟨q0, q1, q2, q3, q4⟩ := hw; go_simp; try (with_reducible rfl))
          try simp only [Act.put, List.setIfInBounds_toArray, List.set_cons_zero, List.set_cons_succ]
          refine takeQ (some 45) (i := 3) (v := ?v107) rfl rfl (by kernel_rfl) (by kernel_rfl) (by kernel_rfl) (fun _ _ _ h => h) (Or.inl ⟨by rfl, ?h107⟩) hS0 ?r107
          case h107 => (intro w hw; obtain ⟨q0, q1, q2, q3, q4⟩ := hw; go_simp; try (with_reducible rfl))
          try simp only [Act.put, List.setIfInBounds_toArray, List.set_cons_zero, List.set_cons_succ]
          refine wpAnyH_ready (rs := [4, 8]) (by kernel_rfl) (by simp) ?_
          refine AllReadyH.cons rfl ?_ (AllReadyH.cons rfl ?_ AllReadyH.nil)
          · intro KK hKK
            go_simp
            refine hKK.out _ _ hS0 (fun _ => ?_)
            clear hKK KK
            refine wpAnyH_ready (rs := [8]) (by kernel_rfl) (by simp) ?_
            refine AllReadyH.cons rfl ?_ AllReadyH.nil
            intro KK hKK
            go_simp
            refine (CK.out _ kd).mono ?_
            rintro e wx ⟨vx, rfl, hox, hbx⟩
            obtain ⟨ax, cx, hvx⟩ := owns_form hox
            subst hvx
            show KK _ _
            have kk := below_then kd hbx
            have hS1 := HS.out _ kk
            have hcw := HCL.out _ kk
            refine hKK.out _ _ hS1 (fun _ => ?_)
            clear hKK KK
            refine wpAnyH_ready (rs := [9]) (by kernel_rfl) (by simp) ?_
            refine AllReadyH.cons rfl ?_ AllReadyH.nil
            intro KK hKK
            go_simp
            have hS2 := hS1.alloc (.cells #[.slice ax rd.length cx] 44)
            have hcw := HCA.out _ kk (.cells #[.slice ax rd.length cx] 44)
            refine hKK.out _ _ hS2 (fun _ => ?_)
            clear hKK KK
            refine wpAnyH_ready (rs := [10]) (by kernel_rfl) (by simp) ?_
            refine AllReadyH.cons rfl ?_ AllReadyH.nil
            intro KK hKK
            refine step_app _ rfl (.tmp 46) (.tmp 51) 35 rfl (w2.heap.size + 2) 44 i2 (.slice none 0 0) 1 24 Try.underlying35 hi2 hza2 hzb2 hzc2 rfl (by decide) (.slice aR R.length cR) R.length (R.map (·.1)) (by simp [Act.eval]) ((HRO.out _ kk).alloc _) ⟨_, 0, none⟩ 1 1 [.slice ax rd.length cx] (by rfl) rfl (cell_one_new _ _ _) (by intro u hu; simp at hu; subst hu; rfl) n3.out n4.out (HSZ.out _ _ kk) ?_
            intro v5 w5 hown5 hg5
            obtain ⟨a5, c5, hv5⟩ := owns_form hown5
            subst hv5
            obtain ⟨hfin, hS5, hfz, hcz⟩ := HFIN.out _ _ _ _ kk hox hown5 hg5
            show KK _ _
            refine hKK.out _ _ hS5 (fun _ => ?_)
            clear hKK KK
            refine takeQ (some 53) (i := 11) (v := ?v108) rfl rfl (by kernel_rfl) (by kernel_rfl) (by kernel_rfl) (fun _ _ _ h => h) (Or.inl ⟨by rfl, ?h108⟩) hS5 ?r108
            case h108 => (intro w hw; obtain ⟨q0, q1, q2, q3, q4⟩ := hw; go_simp; try (with_reducible rfl))
            try simp only [Act.put, List.setIfInBounds_toArray]
            refine takeQ (some 54) (i := 12) (v := ?v109) rfl rfl (by kernel_rfl) (by kernel_rfl) (by kernel_rfl) (fun _ _ _ h => h) (Or.inl ⟨by rfl, ?h109⟩) hS5 ?r109
            case h109 => (intro w hw; obtain ⟨q0, q1, q2, q3, q4⟩ := hw; go_simp; try (with_reducible rfl))
            try simp only [Act.put]
            refine wpAnyH_ready (rs := [13]) (by kernel_rfl) (by simp) ?_
            refine AllReadyH.cons rfl ?_ AllReadyH.nil
            intro KK hKK
            go_simp
            refine hKK.out _ _ hfin.s (fun _ => ?_)
            clear hKK KK
            refine wpAnyH_done (by kernel_rfl) ?_ _
            go_wp2_with fail
            go_meet
            exact ⟨_, _, rfl, hfin⟩
          · intro KK hKK
            go_simp
            refine (CK.out _ kd).mono ?_
            rintro e wx ⟨vx, rfl, hox, hbx⟩
            obtain ⟨ax, cx, hvx⟩ := owns_form hox
            subst hvx
            show KK _ _
            have kk := below_then kd hbx
            have hS1 := HS.out _ kk
            have hcw := HCL.out _ kk
            refine hKK.out _ _ hS1 (fun _ => ?_)
            clear hKK KK
            refine wpAnyH_ready (rs := [4, 9]) (by kernel_rfl) (by simp) ?_
            refine AllReadyH.cons rfl ?_ (AllReadyH.cons rfl ?_ AllReadyH.nil)
            · intro KK hKK
              go_simp
              refine hKK.out _ _ hS1 (fun _ => ?_)
              clear hKK KK
              refine wpAnyH_ready (rs := [9]) (by kernel_rfl) (by simp) ?_
              refine AllReadyH.cons rfl ?_ AllReadyH.nil
              intro KK hKK
              go_simp
              have hS2 := hS1.alloc (.cells #[.slice ax rd.length cx] 44)
              have hcw := HCA.out _ kk (.cells #[.slice ax rd.length cx] 44)
              refine hKK.out _ _ hS2 (fun _ => ?_)
              clear hKK KK
              refine wpAnyH_ready (rs := [10]) (by kernel_rfl) (by simp) ?_
              refine AllReadyH.cons rfl ?_ AllReadyH.nil
              intro KK hKK
              refine step_app _ rfl (.tmp 46) (.tmp 51) 35 rfl (w2.heap.size + 2) 44 i2 (.slice none 0 0) 1 24 Try.underlying35 hi2 hza2 hzb2 hzc2 rfl (by decide) (.slice aR R.length cR) R.length (R.map (·.1)) (by simp [Act.eval]) ((HRO.out _ kk).alloc _) ⟨_, 0, none⟩ 1 1 [.slice ax rd.length cx] (by rfl) rfl (cell_one_new _ _ _) (by intro u hu; simp at hu; subst hu; rfl) n3.out n4.out (HSZ.out _ _ kk) ?_
              intro v5 w5 hown5 hg5
              obtain ⟨a5, c5, hv5⟩ := owns_form hown5
              subst hv5
              obtain ⟨hfin, hS5, hfz, hcz⟩ := HFIN.out _ _ _ _ kk hox hown5 hg5
              show KK _ _
              refine hKK.out _ _ hS5 (fun _ => ?_)
              clear hKK KK
              refine takeQ (some 53) (i := 11) (v := ?v110) rfl rfl (by kernel_rfl) (by kernel_rfl) (by kernel_rfl) (fun _ _ _ h => h) (Or.inl ⟨by rfl, ?h110⟩) hS5 ?r110
              case h110 => (intro w hw; obtain ⟨q0, q1, q2, q3, q4⟩ := hw; go_simp; try (with_reducible rfl))
              try simp only [Act.put, List.setIfInBounds_toArray]
              refine takeQ (some 54) (i := 12) (v := ?v111) rfl rfl (by kernel_rfl) (by kernel_rfl) (by kernel_rfl) (fun _ _ _ h => h) (Or.inl ⟨by rfl, ?h111⟩) hS5 ?r111
              case h111 => (intro w hw; obtain ⟨q0, q1, q2, q3, q4⟩ := hw; go_simp; try (with_reducible rfl))
              try simp only [Act.put]
              refine wpAnyH_ready (rs := [13]) (by kernel_rfl) (by simp) ?_
              refine AllReadyH.cons rfl ?_ AllReadyH.nil
              intro KK hKK
              go_simp
              refine hKK.out _ _ hfin.s (fun _ => ?_)
              clear hKK KK
              refine wpAnyH_done (by kernel_rfl) ?_ _
              go_wp2_with fail
              go_meet
              exact ⟨_, _, rfl, hfin⟩
            · intro KK hKK
              go_simp
              have hS2 := hS1.alloc (.cells #[.slice ax rd.length cx] 44)
              have hcw := HCA.out _ kk (.cells #[.slice ax rd.length cx] 44)
              refine hKK.out _ _ hS2 (fun _ => ?_)
              clear hKK KK
              refine wpAnyH_ready (rs := [4]) (by kernel_rfl) (by simp) ?_
              refine AllReadyH.cons rfl ?_ AllReadyH.nil
              intro KK hKK
              go_simp
              refine hKK.out _ _ hS2 (fun _ => ?_)
              clear hKK KK
              refine wpAnyH_ready (rs := [10]) (by kernel_rfl) (by simp) ?_
              refine AllReadyH.cons rfl ?_ AllReadyH.nil
              intro KK hKK
              refine step_app _ rfl (.tmp 46) (.tmp 51) 35 rfl (w2.heap.size + 2) 44 i2 (.slice none 0 0) 1 24 Try.underlying35 hi2 hza2 hzb2 hzc2 rfl (by decide) (.slice aR R.length cR) R.length (R.map (·.1)) (by simp [Act.eval]) ((HRO.out _ kk).alloc _) ⟨_, 0, none⟩ 1 1 [.slice ax rd.length cx] (by rfl) rfl (cell_one_new _ _ _) (by intro u hu; simp at hu; subst hu; rfl) n3.out n4.out (HSZ.out _ _ kk) ?_
              intro v5 w5 hown5 hg5
              obtain ⟨a5, c5, hv5⟩ := owns_form hown5
              subst hv5
              obtain ⟨hfin, hS5, hfz, hcz⟩ := HFIN.out _ _ _ _ kk hox hown5 hg5
              show KK _ _
              refine hKK.out _ _ hS5 (fun _ => ?_)
              clear hKK KK
              refine takeQ (some 53) (i := 11) (v := ?v112) rfl rfl (by kernel_rfl) (by kernel_rfl) (by kernel_rfl) (fun _ _ _ h => h) (Or.inl ⟨by rfl, ?h112⟩) hS5 ?r112
              case h112 => (intro w hw; obtain ⟨q0, q1, q2, q3, q4⟩ := hw; go_simp; try (with_reducible rfl))
              try simp only [Act.put, List.setIfInBounds_toArray]
              refine takeQ (some 54) (i := 12) (v := ?v113) rfl rfl (by kernel_rfl) (by kernel_rfl) (by kernel_rfl) (fun _ _ _ h => h) (Or.inl ⟨by rfl, ?h113⟩) hS5 ?r113
              case h113 => (intro w hw; obtain ⟨q0, q1, q2, q3, q4⟩ := hw; go_simp; try (with_reducible rfl))
              try simp only [Act.put]
              refine wpAnyH_ready (rs := [13]) (by kernel_rfl) (by simp) ?_
              refine AllReadyH.cons rfl ?_ AllReadyH.nil
              intro KK hKK
              go_simp
              refine hKK.out _ _ hfin.s (fun _ => ?_)
              clear hKK KK
              refine wpAnyH_done (by kernel_rfl) ?_ _
              go_wp2_with fail
              go_meet
              exact ⟨_, _, rfl, hfin⟩
        case rest =>
          obtain ⟨vr5, vy, rfl, hX5⟩ := hcut
          clear hX
          have hX := hX5
          clear hX5
          have hOps1 := HOPF.out wc hX.b
          have hMc := hM.below hX.b
          have kd := (Below.refl wc.heap.size wc).drew
          have HSO : Hid (∃ so, so = (!(refReads l).any (badFr (wrTo h h.length) (k : Int)) && steadyL l)) := Lib.hid ⟨_, rfl⟩
          obtain ⟨so, hso⟩ := HSO.out
          have HSO2 := Lib.hid hso
          clear hso HSO
          have CK : Hid (∀ wx, Below wc.heap.size wc wx → Calls Try.prog 23 #[.int .i64 k, .agg #[.int .i64 ts, .int .i64 tb, .int .i64 tc, .slice a2 l.length cap2], .map (some bm)] wx fun e w' => e = .returned (.bool so) ∧ Below wx.heap.size wx w') := Lib.hid (fun wx hx => (osound_any (k : Int) ts tb tc _ l (wrTo h h.length) bm _ _ wx (hOps1.below hx) HOL.out (by omega) (hMc.below hx)).mono (fun e w' ⟨out, he, hr, _, hbb⟩ => by
            obtain rfl := hr.eq (refReads_rise HKL.out)
            rw [← HSO2.out] at he
            exact ⟨he, hbb⟩))
          have HK0 : Hid ((K ++ [(vx, keysOf l)]).map (·.2) = keysTo h (k + 1) ∧ (R ++ [(vy, rd)]).map (·.2) = readsTo h (k + 1) ∧ (sd && so) = soundTo h (k + 1)) := Lib.hid (by
            refine ⟨?_, ?_, ?_⟩
            · rw [List.map_append, keysTo_succ, ← HK.out.1, HLK.out]; rfl
            · rw [List.map_append, readsTo_succ, ← HK.out.2.1]
              unfold readsOf
              rw [HLK.out, ← HRD2.out]; rfl
            · rw [soundTo_succ, ← HK.out.2.2]
              unfold soundOf
              rw [HLK.out, ← HSO2.out])
          go_upto_region 11 with fail
          cases sd
          · have HK1 : Hid ((K ++ [(vx, keysOf l)]).map (·.2) = keysTo h (k + 1) ∧ (R ++ [(vy, rd)]).map (·.2) = readsTo h (k + 1) ∧ false = soundTo h (k + 1)) := Lib.hid HK0.out
            clear HK0
            refine wp_region_held_drew (S := SB (w2.heap.size + 1) w2.heap.size gx ts tb tc (.slice a2 l.length cap2)) (by kernel_rfl) hX.s.drew (fun hS0 => ?_)
            have hc0 := hX.o.cS
            refine takeQ (some 55) (i := 0) (v := ?v201) rfl rfl (by kernel_rfl) (by kernel_rfl) (by kernel_rfl) (fun _ _ _ h => h) (Or.inl ⟨by rfl, ?h201⟩) hS0 ?r201
            case h201 => (intro w hw; obtain ⟨q0, q1, q2, q3, q4⟩ := hw; go_simp; try (with_reducible rfl))
            try simp only [Act.put, List.setIfInBounds_toArray, List.set_cons_zero, List.set_cons_succ]
            refine takeQ (some 56) (i := 1) (v := ?v202) rfl rfl (by kernel_rfl) (by kernel_rfl) (by kernel_rfl) (fun _ _ _ h => h) (Or.inl ⟨by rfl, ?h202⟩) hS0 ?r202
            case h202 => (intro w hw; obtain ⟨q0, q1, q2, q3, q4⟩ := hw; go_simp; try (with_reducible rfl))
            try simp only [Act.put, List.setIfInBounds_toArray, List.set_cons_zero, List.set_cons_succ]
            refine takeQ (some 57) (i := 2) (v := ?v203) rfl rfl (by kernel_rfl) (by kernel_rfl) (by kernel_rfl) (fun _ _ _ h => h) (Or.inl ⟨by rfl, ?h203⟩) hS0 ?r203
            case h203 => (intro w hw; obtain ⟨q0, q1, q2, q3, q4⟩ := hw; go_simp; try (with_reducible rfl))
            try simp only [Act.put, List.setIfInBounds_toArray, List.set_cons_zero, List.set_cons_succ]
            refine takeQ (some 58) (i := 3) (v := ?v204) rfl rfl (by kernel_rfl) (by kernel_rfl) (by kernel_rfl) (fun _ _ _ h => h) (Or.inl ⟨by rfl, ?h204⟩) hS0 ?r204
            case h204 => (intro w hw; obtain ⟨q0, q1, q2, q3, q4⟩ := hw; go_simp; try (with_reducible rfl))
            try simp only [Act.put, List.setIfInBounds_toArray, List.set_cons_zero, List.set_cons_succ]
            refine wpAnyH_ready (rs := [4]) (by kernel_rfl) (by simp) ?_
            refine AllReadyH.cons rfl ?_ AllReadyH.nil
            intro KK hKK
            go_simp
            refine hKK.out _ _ hS0 (fun _ => ?_)
            clear hKK KK
            refine takeQ (some 60) (i := 5) (v := ?v205) rfl rfl (by kernel_rfl) (by kernel_rfl) (by kernel_rfl) (fun _ _ _ h => h) (Or.inl ⟨by rfl, ?h205⟩) hS0 ?r205
            case h205 => (intro w hw; obtain ⟨q0, q1, q2, q3, q4⟩ := hw; go_simp; try (with_reducible rfl))
            try simp only [Act.put, List.setIfInBounds_toArray, List.set_cons_zero, List.set_cons_succ]
            refine takeQ (some 61) (i := 6) (v := undef) rfl rfl (by kernel_rfl) (by kernel_rfl) (by kernel_rfl) (fun _ _ _ h => h) (Or.inr ⟨by rfl, rfl⟩) hS0 ?_
            try simp only [Act.put, List.setIfInBounds_toArray, List.set_cons_zero, List.set_cons_succ]
            refine takeQ (some 62) (i := 7) (v := undef) rfl rfl (by kernel_rfl) (by kernel_rfl) (by kernel_rfl) (fun _ _ _ h => h) (Or.inr ⟨by rfl, rfl⟩) hS0 ?_
            try simp only [Act.put, List.setIfInBounds_toArray, List.set_cons_zero, List.set_cons_succ]
            refine takeQ (some 63) (i := 8) (v := undef) rfl rfl (by kernel_rfl) (by kernel_rfl) (by kernel_rfl) (fun _ _ _ h => h) (Or.inr ⟨by rfl, rfl⟩) hS0 ?_
            try simp only [Act.put, List.setIfInBounds_toArray, List.set_cons_zero, List.set_cons_succ]
            refine wpAnyH_ready (rs := [9]) (by kernel_rfl) (by simp) ?_
            refine AllReadyH.cons rfl ?_ AllReadyH.nil
            intro KK hKK
            go_simp
            have hY := hX.below kd
            have hf := hY.o.free (i := 196) (by omega)
            have hc := hY.o.cS
            refine hKK.out _ _ hS0 (fun _ => ?_)
            clear hKK KK
            refine takeQ (some 65) (i := 10) (v := ?v206) rfl rfl (by kernel_rfl) (by kernel_rfl) (by kernel_rfl) (fun _ _ _ h => h) (Or.inl ⟨by rfl, ?h206⟩) hS0 ?r206
            case h206 => (intro w hw; obtain ⟨q0, q1, q2, q3, q4⟩ := hw; go_simp; try (with_reducible rfl))
            try simp only [Act.put, List.setIfInBounds_toArray, List.set_cons_zero, List.set_cons_succ]
            refine takeQ (some 66) (i := 11) (v := ?v207) rfl rfl (by kernel_rfl) (by kernel_rfl) (by kernel_rfl) (fun _ _ _ h => h) (Or.inl ⟨by rfl, ?h207⟩) hS0 ?r207
            case h207 => (intro w hw; obtain ⟨q0, q1, q2, q3, q4⟩ := hw; go_simp; try (with_reducible rfl))
            try simp only [Act.put, List.setIfInBounds_toArray, List.set_cons_zero, List.set_cons_succ]
            refine takeQ (some 67) (i := 12) (v := ?v208) rfl rfl (by kernel_rfl) (by kernel_rfl) (by kernel_rfl) (fun _ _ _ h => h) (Or.inl ⟨by rfl, ?h208⟩) hS0 ?r208
            case h208 => (intro w hw; obtain ⟨q0, q1, q2, q3, q4⟩ := hw; go_simp; try (with_reducible rfl))
            try simp only [Act.put, List.setIfInBounds_toArray, List.set_cons_zero, List.set_cons_succ]
            refine wpAnyH_ready (rs := [13]) (by kernel_rfl) (by simp) ?_
            refine AllReadyH.cons rfl ?_ AllReadyH.nil
            intro KK hKK
            go_simp
            have hZ := hY.setS false
            refine hKK.out _ _ hZ.s (fun _ => ?_)
            clear hKK KK
            refine wpAnyH_done (by kernel_rfl) ?_ _
            clear hX hY CK kd hc hf hS0
            go_wp2_with fail
            go_roundw
            case rel => exact ⟨k + 1, _, _, _, _, _, by omega, by go_num, HK1.out.1, HK1.out.2.1, HK1.out.2.2, hZ.o, hZ.s.1, hZ.r, hZ.b, hZ.z⟩
            case measure => simp [intOf]; omega
          · have HK1 : Hid ((K ++ [(vx, keysOf l)]).map (·.2) = keysTo h (k + 1) ∧ (R ++ [(vy, rd)]).map (·.2) = readsTo h (k + 1) ∧ so = soundTo h (k + 1)) := Lib.hid HK0.out
            clear HK0
            refine wp_region_held_drew (S := SB (w2.heap.size + 1) w2.heap.size gx ts tb tc (.slice a2 l.length cap2)) (by kernel_rfl) hX.s.drew (fun hS0 => ?_)
            have hc0 := hX.o.cS
            refine takeQ (some 55) (i := 0) (v := ?v301) rfl rfl (by kernel_rfl) (by kernel_rfl) (by kernel_rfl) (fun _ _ _ h => h) (Or.inl ⟨by rfl, ?h301⟩) hS0 ?r301
            case h301 => (intro w hw; obtain ⟨q0, q1, q2, q3, q4⟩ := hw; go_simp; try (with_reducible rfl))
            try simp only [Act.put, List.setIfInBounds_toArray, List.set_cons_zero, List.set_cons_succ]
            refine takeQ (some 56) (i := 1) (v := ?v302) rfl rfl (by kernel_rfl) (by kernel_rfl) (by kernel_rfl) (fun _ _ _ h => h) (Or.inl ⟨by rfl, ?h302⟩) hS0 ?r302
            case h302 => (intro w hw; obtain ⟨q0, q1, q2, q3, q4⟩ := hw; go_simp; try (with_reducible rfl))
            try simp only [Act.put, List.setIfInBounds_toArray, List.set_cons_zero, List.set_cons_succ]
            refine takeQ (some 57) (i := 2) (v := ?v303) rfl rfl (by kernel_rfl) (by kernel_rfl) (by kernel_rfl) (fun _ _ _ h => h) (Or.inl ⟨by rfl, ?h303⟩) hS0 ?r303
            case h303 => (intro w hw; obtain ⟨q0, q1, q2, q3, q4⟩ := hw; go_simp; try (with_reducible rfl))
            try simp only [Act.put, List.setIfInBounds_toArray, List.set_cons_zero, List.set_cons_succ]
            refine takeQ (some 58) (i := 3) (v := ?v304) rfl rfl (by kernel_rfl) (by kernel_rfl) (by kernel_rfl) (fun _ _ _ h => h) (Or.inl ⟨by rfl, ?h304⟩) hS0 ?r304
            case h304 => (intro w hw; obtain ⟨q0, q1, q2, q3, q4⟩ := hw; go_simp; try (with_reducible rfl))
            try simp only [Act.put, List.setIfInBounds_toArray, List.set_cons_zero, List.set_cons_succ]
            refine wpAnyH_ready (rs := [4]) (by kernel_rfl) (by simp) ?_
            refine AllReadyH.cons rfl ?_ AllReadyH.nil
            intro KK hKK
            go_simp
            refine hKK.out _ _ hS0 (fun _ => ?_)
            clear hKK KK
            refine takeQ (some 60) (i := 5) (v := ?v305) rfl rfl (by kernel_rfl) (by kernel_rfl) (by kernel_rfl) (fun _ _ _ h => h) (Or.inl ⟨by rfl, ?h305⟩) hS0 ?r305
            case h305 => (intro w hw; obtain ⟨q0, q1, q2, q3, q4⟩ := hw; go_simp; try (with_reducible rfl))
            try simp only [Act.put, List.setIfInBounds_toArray, List.set_cons_zero, List.set_cons_succ]
            refine takeQ (some 61) (i := 6) (v := ?v306) rfl rfl (by kernel_rfl) (by kernel_rfl) (by kernel_rfl) (fun _ _ _ h => h) (Or.inl ⟨by rfl, ?h306⟩) hS0 ?r306
            case h306 => (intro w hw; obtain ⟨q0, q1, q2, q3, q4⟩ := hw; go_simp; try (with_reducible rfl))
            try simp only [Act.put, List.setIfInBounds_toArray, List.set_cons_zero, List.set_cons_succ]
            refine takeQ (some 62) (i := 7) (v := ?v307) rfl rfl (by kernel_rfl) (by kernel_rfl) (by kernel_rfl) (fun _ _ _ h => h) (Or.inl ⟨by rfl, ?h307⟩) hS0 ?r307
            case h307 => (intro w hw; obtain ⟨q0, q1, q2, q3, q4⟩ := hw; go_simp; try (with_reducible rfl))
            try simp only [Act.put, List.setIfInBounds_toArray, List.set_cons_zero, List.set_cons_succ]
            refine takeQ (some 63) (i := 8) (v := ?v308) rfl rfl (by kernel_rfl) (by kernel_rfl) (by kernel_rfl) (fun _ _ _ h => h) (Or.inl ⟨by rfl, ?h308⟩) hS0 ?r308
            case h308 => (intro w hw; obtain ⟨q0, q1, q2, q3, q4⟩ := hw; go_simp; try (with_reducible rfl))
            try simp only [Act.put, List.setIfInBounds_toArray, List.set_cons_zero, List.set_cons_succ]
            refine wpAnyH_ready (rs := [9]) (by kernel_rfl) (by simp) ?_
            refine AllReadyH.cons rfl ?_ AllReadyH.nil
            intro KK hKK
            go_simp
            refine (CK.out _ kd).mono ?_
            rintro e wx ⟨rfl, hbx⟩
            show KK _ _
            have kk := below_then kd hbx
            have hY := hX.below kk
            have hf := hY.o.free (i := 196) (by omega)
            have hc := hY.o.cS
            refine hKK.out _ _ hY.s (fun _ => ?_)
            clear hKK KK
            refine takeQ (some 65) (i := 10) (v := ?v309) rfl rfl (by kernel_rfl) (by kernel_rfl) (by kernel_rfl) (fun _ _ _ h => h) (Or.inl ⟨by rfl, ?h309⟩) hY.s ?r309
            case h309 => (intro w hw; obtain ⟨q0, q1, q2, q3, q4⟩ := hw; go_simp; try (with_reducible rfl))
            try simp only [Act.put, List.setIfInBounds_toArray, List.set_cons_zero, List.set_cons_succ]
            refine takeQ (some 66) (i := 11) (v := ?v310) rfl rfl (by kernel_rfl) (by kernel_rfl) (by kernel_rfl) (fun _ _ _ h => h) (Or.inl ⟨by rfl, ?h310⟩) hY.s ?r310
            case h310 => (intro w hw; obtain ⟨q0, q1, q2, q3, q4⟩ := hw; go_simp; try (with_reducible rfl))
            try simp only [Act.put, List.setIfInBounds_toArray, List.set_cons_zero, List.set_cons_succ]
            refine takeQ (some 67) (i := 12) (v := ?v311) rfl rfl (by kernel_rfl) (by kernel_rfl) (by kernel_rfl) (fun _ _ _ h => h) (Or.inl ⟨by rfl, ?h311⟩) hY.s ?r311
            case h311 => (intro w hw; obtain ⟨q0, q1, q2, q3, q4⟩ := hw; go_simp; try (with_reducible rfl))
            try simp only [Act.put, List.setIfInBounds_toArray, List.set_cons_zero, List.set_cons_succ]
            refine wpAnyH_ready (rs := [13]) (by kernel_rfl) (by simp) ?_
            refine AllReadyH.cons rfl ?_ AllReadyH.nil
            intro KK hKK
            go_simp
            have hZ := hY.setS so
            refine hKK.out _ _ hZ.s (fun _ => ?_)
            clear hKK KK
            refine wpAnyH_done (by kernel_rfl) ?_ _
            clear hX hY CK kd hc hf hS0 kk hbx
            go_wp2_with fail
            go_roundw
            case rel => exact ⟨k + 1, _, _, _, _, _, by omega, by go_num, HK1.out.1, HK1.out.2.1, HK1.out.2.2, hZ.o, hZ.s.1, hZ.r, hZ.b, hZ.z⟩
            case measure => simp [intOf]; omega
    · have hkl : k = h.length := by omega
      subst hkl
      have hA4 := (hb.cell (p := ⟨w.heap.size, 0, none⟩) hlt).trans hA2
      have hbw := below_then hb4 hb
      have hX : OfT w2 w.heap.size (.slice ao h.length cap) h.length noR noR noR (.map none) vk vr sd K R wr := ⟨hO, ⟨hC, hA4⟩, hF, hb, hlt⟩
      have hKl : K.length ≤ 64 := by have := congrArg List.length HK.out.1; simp [keysTo] at this; omega
      obtain ⟨aK, cK, rfl⟩ := owns_form hX.r.kr
      obtain ⟨aR, cR, rfl⟩ := owns_form hX.r.rr
      have HKE : Hid (∀ p ∈ K, p.2.length ≤ 64 ∧ ∀ x ∈ p.2, InI x) := Lib.hid (fun p hp => by
        have hm : p.2 ∈ keysTo h h.length := by rw [← HK.out.1]; exact List.mem_map.2 ⟨p, hp, rfl⟩
        unfold keysTo at hm
        obtain ⟨i, hi, he⟩ := List.mem_map.1 hm
        have hil := List.mem_range.1 hi
        rw [← he]
        unfold keysOf
        refine ⟨by rw [List.length_map]; exact upTo_len _ 64, fun x hx => ?_⟩
        obtain ⟨q, hq, rfl⟩ := List.mem_map.1 hx
        have hq2 := lastW_key ((((refWrites_rise (by rw [opsAt_eq hil]; exact HKS.out _ (List.getElem_mem hil))).2 q).1 hq).1)
        exact inI_of (((HOK.out _ (List.getElem_mem hil)).2 q (by rw [← opsAt_eq hil]; exact hq2.2.2)).1))
      have kd := (Below.refl wr.heap.size wr).drew
      have CWR : Hid (∀ wx, Below wr.heap.size wr wx → Calls Try.prog 24 #[.slice aK K.length cK] wx fun e w' => ∃ b n c, e = .returned (.map (some b)) ∧ wx.heap.size ≤ b ∧ MapI eS Try.prog 3 w' b n (wrsTo K K.length) c ∧ AllSet (wrsTo K K.length) ∧ Below wx.heap.size wx w') := Lib.hid (fun wx hx => owriters_any _ K wx ((hX.r.below hx).rws) (by omega) (fun p hp => by have := (HKE.out p hp).1; omega) (fun p hp => (HKE.out p hp).2))
      have hmf : ∀ (fn : Fn) (first cap : Array Value) (w : World), (Instr.makeFunc fn first cap).run Try.prog w = .ok (.func fn first cap) w := fun _ _ _ _ => rfl
      clear hO hC hF hb hA4 hbw
      go_wp2_with fail
      refine wp_region_held_drew (S := SA (w2.heap.size + 1) w2.heap.size w.heap.size (.slice ao h.length cap)) (by kernel_rfl) hX.drew.s (fun hS0 => ?_)
      have hc0 := hX.o.cK
      refine takeQ (some 69) (i := 0) (v := ?v401) rfl rfl (by kernel_rfl) (by kernel_rfl) (by kernel_rfl) (fun _ _ _ h => h) (Or.inl ⟨by rfl, ?h401⟩) hS0 ?r401
      case h401 => (intro w hw; obtain ⟨q0, q1⟩ := hw; go_simp; try (with_reducible rfl))
      try simp only [Act.put, List.setIfInBounds_toArray, List.set_cons_zero, List.set_cons_succ]
      refine takeQ (some 70) (i := 1) (v := ?v402) rfl rfl (by kernel_rfl) (by kernel_rfl) (by kernel_rfl) (fun _ _ _ h => h) (Or.inl ⟨by rfl, ?h402⟩) hS0 ?r402
      case h402 => (intro w hw; obtain ⟨q0, q1⟩ := hw; go_simp; try (with_reducible rfl))
      try simp only [Act.put, List.setIfInBounds_toArray, List.set_cons_zero, List.set_cons_succ]
      refine takeQ (some 71) (i := 2) (v := ?v403) rfl rfl (by kernel_rfl) (by kernel_rfl) (by kernel_rfl) (fun _ _ _ h => h) (Or.inl ⟨by rfl, ?h403⟩) hS0 ?r403
      case h403 => (intro w hw; obtain ⟨q0, q1⟩ := hw; go_simp; try (with_reducible rfl))
      try simp only [Act.put, List.setIfInBounds_toArray, List.set_cons_zero, List.set_cons_succ]
      refine takeQ (some 72) (i := 3) (v := ?v404) rfl rfl (by kernel_rfl) (by kernel_rfl) (by kernel_rfl) (fun _ _ _ h => h) (Or.inl ⟨by rfl, ?h404⟩) hS0 ?r404
      case h404 => (intro w hw; obtain ⟨q0, q1⟩ := hw; go_simp; try (with_reducible rfl))
      try simp only [Act.put, List.setIfInBounds_toArray, List.set_cons_zero, List.set_cons_succ]
      refine wpAnyH_ready (rs := [4]) (by kernel_rfl) (by simp) ?_
      refine AllReadyH.cons rfl ?_ AllReadyH.nil
      intro KK hKK
      go_simp
      refine hKK.out _ _ hS0 (fun _ => ?_)
      clear hKK KK
      refine wpAnyH_ready (rs := [5]) (by kernel_rfl) (by simp) ?_
      refine AllReadyH.cons rfl ?_ AllReadyH.nil
      intro KK hKK
      go_simp
      refine (CWR.out _ kd).mono ?_
      rintro e wx ⟨bw, nw, cw, rfl, hbw, hMw, hAw, hbx⟩
      show KK _ _
      have hY := hX.below (below_then kd hbx)
      have hbB : w2.heap.size < bw := by have h1 := hX.b.size; have h2 := hX.o.lt; have h3 := kd.size; omega
      have hf := hY.o.free (i := 193) (by omega)
      have hc := hY.o.cM
      refine hKK.out _ _ hY.s (fun _ => ?_)
      clear hKK KK
      refine takeQ (some 75) (i := 6) (v := ?v405) rfl rfl (by kernel_rfl) (by kernel_rfl) (by kernel_rfl) (fun _ _ _ h => h) (Or.inl ⟨by rfl, ?h405⟩) hY.s ?r405
      case h405 => (intro w hw; obtain ⟨q0, q1⟩ := hw; go_simp; try (with_reducible rfl))
      try simp only [Act.put, List.setIfInBounds_toArray, List.set_cons_zero, List.set_cons_succ]
      refine takeQ (some 76) (i := 7) (v := ?v406) rfl rfl (by kernel_rfl) (by kernel_rfl) (by kernel_rfl) (fun _ _ _ h => h) (Or.inl ⟨by rfl, ?h406⟩) hY.s ?r406
      case h406 => (intro w hw; obtain ⟨q0, q1⟩ := hw; go_simp; try (with_reducible rfl))
      try simp only [Act.put, List.setIfInBounds_toArray, List.set_cons_zero, List.set_cons_succ]
      refine wpAnyH_ready (rs := [8]) (by kernel_rfl) (by simp) ?_
      refine AllReadyH.cons rfl ?_ AllReadyH.nil
      intro KK hKK
      go_simp
      have hX13 := hY.setM (.map (some bw))
      have hM13 := hMw.cell (a := ⟨w2.heap.size, 193, none⟩) (by simp; omega) (.map (some bw))
      refine hKK.out _ _ hX13.s (fun _ => ?_)
      clear hKK KK
      refine wpAnyH_done (by kernel_rfl) ?_ _
      clear hX hY kd CWR hc hf hc0 hS0 hMw
      generalize wx.setCell ⟨w2.heap.size, 193, none⟩ (.map (some bw)) = w3 at *
      have hX := hX13
      have hM3 := hM13
      clear hX13 hM13
      have kd := (Below.refl w3.heap.size w3).drew
      have CP : Hid (∀ wx, Below w3.heap.size w3 wx → Calls Try.prog 25 #[.int .i64 h.length, .func (.func 26) #[] #[.pointer (some ⟨w.heap.size, 0, none⟩)]] wx fun e w' => e = .returned (.agg (rowsA (sesM h))) ∧ Below wx.heap.size wx w') := Lib.hid (fun wx hx => pairs_any (sesP h) h.length (by omega) _ _ wx enters_ses (fun a b wy ha hb hy => ses_calls _ h _ a b wy ((hX.below (below_then hx hy)).s.2) (HT.out _ (below_then hb4 (hX.below (below_then hx hy)).b)) ha hb))
      go_wp2_with fail
      refine wp_region_held_drew (S := SA (w2.heap.size + 1) w2.heap.size w.heap.size (.slice ao h.length cap)) (by kernel_rfl) hX.drew.s (fun hS0 => ?_)
      refine takeQ (some 77) (i := 0) (v := ?v501) rfl rfl (by kernel_rfl) (by kernel_rfl) (by kernel_rfl) (fun _ _ _ h => h) (Or.inl ⟨by rfl, ?h501⟩) hS0 ?r501
      case h501 => (intro w hw; obtain ⟨q0, q1⟩ := hw; go_simp; try (with_reducible rfl))
      try simp only [Act.put, List.setIfInBounds_toArray, List.set_cons_zero, List.set_cons_succ]
      refine takeQ (some 78) (i := 1) (v := ?v502) rfl rfl (by kernel_rfl) (by kernel_rfl) (by kernel_rfl) (fun _ _ _ h => h) (Or.inl ⟨by rfl, ?h502⟩) hS0 ?r502
      case h502 => (intro w hw; obtain ⟨q0, q1⟩ := hw; go_simp; try (with_reducible rfl))
      try simp only [Act.put, List.setIfInBounds_toArray, List.set_cons_zero, List.set_cons_succ]
      refine takeQ (some 79) (i := 2) (v := ?v503) rfl rfl (by kernel_rfl) (by kernel_rfl) (by kernel_rfl) (fun _ _ _ h => h) (Or.inl ⟨by rfl, ?h503⟩) hS0 ?r503
      case h503 => (intro w hw; obtain ⟨q0, q1⟩ := hw; go_simp; try (with_reducible rfl))
      try simp only [Act.put, List.setIfInBounds_toArray, List.set_cons_zero, List.set_cons_succ]
      refine takeQ (some 80) (i := 3) (v := ?v504) rfl rfl (by kernel_rfl) (by kernel_rfl) (by kernel_rfl) (fun _ _ _ h => h) (Or.inl ⟨by rfl, ?h504⟩) hS0 ?r504
      case h504 => (intro w hw; obtain ⟨q0, q1⟩ := hw; go_simp; try (with_reducible rfl))
      try simp only [Act.put, List.setIfInBounds_toArray, List.set_cons_zero, List.set_cons_succ]
      refine wpAnyH_ready (rs := [4]) (by kernel_rfl) (by simp) ?_
      refine AllReadyH.cons rfl ?_ AllReadyH.nil
      intro KK hKK
      go_simp
      refine (CP.out _ kd).mono ?_
      rintro e wx ⟨rfl, hbx⟩
      show KK _ _
      have kk := below_then kd hbx
      have hY := hX.below kk
      have hMY := hM3.below kk
      refine hKK.out _ _ hY.s (fun _ => ?_)
      clear hKK KK
      refine takeQ (some 82) (i := 5) (v := ?v505) rfl rfl (by kernel_rfl) (by kernel_rfl) (by kernel_rfl) (fun _ _ _ h => h) (Or.inl ⟨by rfl, ?h505⟩) hY.s ?r505
      case h505 => (intro w hw; obtain ⟨q0, q1⟩ := hw; go_simp; try (with_reducible rfl))
      try simp only [Act.put, List.setIfInBounds_toArray]
      refine takeQ (some 83) (i := 6) (v := ?v506) rfl rfl (by kernel_rfl) (by kernel_rfl) (by kernel_rfl) (fun _ _ _ h => h) (Or.inl ⟨by rfl, ?h506⟩) hY.s ?r506
      case h506 => (intro w hw; obtain ⟨q0, q1⟩ := hw; go_simp; try (with_reducible rfl))
      try simp only [Act.put]
      refine wpAnyH_ready (rs := [7]) (by kernel_rfl) (by simp) ?_
      refine AllReadyH.cons rfl ?_ AllReadyH.nil
      intro KK hKK
      rw [if_pos (by rfl)]
      refine wp_store_mid 32 (.tmp 83) (.tmp 81) rfl w2.heap.size 1 (rowsA (sesM h)) rfl rfl (by rw [rowsA_size]; exact hY.o.there 1 (by omega)) (infoRel' _) (rows_one _) ?_
      have hXn := hY.setS (sesM h)
      have hMn := MapI.cells (g := w2.heap.size) (by omega) (rowsA (sesM h)).toList 1 _ hMY
      refine hKK.out _ _ hXn.s (fun _ => ?_)
      clear hKK KK
      refine wpAnyH_done (by kernel_rfl) ?_ _
      clear hX hM3 hY kd CP hS0 hMY kk hbx
      generalize wx.setCells w2.heap.size 1 (rowsA (sesM h)).toList = w3 at *
      have hX := hXn
      have hM3 := hMn
      clear hXn hMn
      have kd := (Below.refl w3.heap.size w3).drew
      have CP : Hid (∀ wx, Below w3.heap.size w3 wx → Calls Try.prog 25 #[.int .i64 h.length, .func (.func 27) #[] #[.pointer (some ⟨w.heap.size, 0, none⟩)]] wx fun e w' => e = .returned (.agg (rowsA (timM h))) ∧ Below wx.heap.size wx w') := Lib.hid (fun wx hx => pairs_any (timP h) h.length (by omega) _ _ wx enters_tim (fun a b wy ha hb hy => tim_calls _ h _ a b wy ((hX.below (below_then hx hy)).s.2) (HT.out _ (below_then hb4 (hX.below (below_then hx hy)).b)) ha hb))
      go_wp2_with fail
      refine wp_region_held_drew (S := SA (w2.heap.size + 1) w2.heap.size w.heap.size (.slice ao h.length cap)) (by kernel_rfl) hX.drew.s (fun hS0 => ?_)
      refine takeQ (some 84) (i := 0) (v := ?v601) rfl rfl (by kernel_rfl) (by kernel_rfl) (by kernel_rfl) (fun _ _ _ h => h) (Or.inl ⟨by rfl, ?h601⟩) hS0 ?r601
      case h601 => (intro w hw; obtain ⟨q0, q1⟩ := hw; go_simp; try (with_reducible rfl))
      try simp only [Act.put, List.setIfInBounds_toArray, List.set_cons_zero, List.set_cons_succ]
      refine takeQ (some 85) (i := 1) (v := ?v602) rfl rfl (by kernel_rfl) (by kernel_rfl) (by kernel_rfl) (fun _ _ _ h => h) (Or.inl ⟨by rfl, ?h602⟩) hS0 ?r602
      case h602 => (intro w hw; obtain ⟨q0, q1⟩ := hw; go_simp; try (with_reducible rfl))
      try simp only [Act.put]
      refine takeQ (some 86) (i := 2) (v := ?v603) rfl rfl (by kernel_rfl) (by kernel_rfl) (by kernel_rfl) (fun _ _ _ h => h) (Or.inl ⟨by rfl, ?h603⟩) hS0 ?r603
      case h603 => (intro w hw; obtain ⟨q0, q1⟩ := hw; go_simp; try (with_reducible rfl))
      try simp only [Act.put]
      refine takeQ (some 87) (i := 3) (v := ?v604) rfl rfl (by kernel_rfl) (by kernel_rfl) (by kernel_rfl) (fun _ _ _ h => h) (Or.inl ⟨by rfl, ?h604⟩) hS0 ?r604
      case h604 => (intro w hw; obtain ⟨q0, q1⟩ := hw; go_simp; try (with_reducible rfl))
      try simp only [Act.put]
      refine wpAnyH_ready (rs := [4]) (by kernel_rfl) (by simp) ?_
      refine AllReadyH.cons rfl ?_ AllReadyH.nil
      intro KK hKK
      go_simp
      refine (CP.out _ kd).mono ?_
      rintro e wx ⟨rfl, hbx⟩
      show KK _ _
      have kk := below_then kd hbx
      have hY := hX.below kk
      have hMY := hM3.below kk
      refine hKK.out _ _ hY.s (fun _ => ?_)
      clear hKK KK
      refine takeQ (some 89) (i := 5) (v := ?v605) rfl rfl (by kernel_rfl) (by kernel_rfl) (by kernel_rfl) (fun _ _ _ h => h) (Or.inl ⟨by rfl, ?h605⟩) hY.s ?r605
      case h605 => (intro w hw; obtain ⟨q0, q1⟩ := hw; go_simp; try (with_reducible rfl))
      try simp only [Act.put, List.setIfInBounds_toArray]
      refine takeQ (some 90) (i := 6) (v := ?v606) rfl rfl (by kernel_rfl) (by kernel_rfl) (by kernel_rfl) (fun _ _ _ h => h) (Or.inl ⟨by rfl, ?h606⟩) hY.s ?r606
      case h606 => (intro w hw; obtain ⟨q0, q1⟩ := hw; go_simp; try (with_reducible rfl))
      try simp only [Act.put]
      refine wpAnyH_ready (rs := [7]) (by kernel_rfl) (by simp) ?_
      refine AllReadyH.cons rfl ?_ AllReadyH.nil
      intro KK hKK
      rw [if_pos (by rfl)]
      refine wp_store_mid 32 (.tmp 90) (.tmp 88) rfl w2.heap.size 65 (rowsA (timM h)) rfl rfl (by rw [rowsA_size]; exact hY.o.there 65 (by omega)) (infoRel' _) (rows_one _) ?_
      have hXn := hY.setT (timM h)
      have hMn := MapI.cells (g := w2.heap.size) (by omega) (rowsA (timM h)).toList 65 _ hMY
      refine hKK.out _ _ hXn.s (fun _ => ?_)
      clear hKK KK
      refine wpAnyH_done (by kernel_rfl) ?_ _
      clear hX hM3 hY kd CP hS0 hMY kk hbx
      generalize wx.setCells w2.heap.size 65 (rowsA (timM h)).toList = w3 at *
      have hX := hXn
      have hM3 := hMn
      clear hXn hMn
      have kd := (Below.refl w3.heap.size w3).drew
      have CP : Hid (∀ wx, Below w3.heap.size w3 wx → Calls Try.prog 25 #[.int .i64 h.length, .func (.func 28) #[] #[.pointer (some ⟨w2.heap.size + 1, 0, none⟩)]] wx fun e w' => e = .returned (.agg (rowsA (froM h))) ∧ Below wx.heap.size wx w') := Lib.hid (fun wx hx => pairs_any (froP h) h.length (by omega) _ _ wx enters_fro (fun a b wy ha hb hy => fro_calls _ h R _ _ a b wy ((hX.below (below_then hx hy)).s.1) ((hX.below (below_then hx hy)).o.cR) ((hX.below (below_then hx hy)).r.frws) HK.out.2.1 hb))
      go_wp2_with fail
      refine wp_region_held_drew (S := SA (w2.heap.size + 1) w2.heap.size w.heap.size (.slice ao h.length cap)) (by kernel_rfl) hX.drew.s (fun hS0 => ?_)
      refine takeQ (some 91) (i := 0) (v := ?v701) rfl rfl (by kernel_rfl) (by kernel_rfl) (by kernel_rfl) (fun _ _ _ h => h) (Or.inl ⟨by rfl, ?h701⟩) hS0 ?r701
      case h701 => (intro w hw; obtain ⟨q0, q1⟩ := hw; go_simp; try (with_reducible rfl))
      try simp only [Act.put, List.setIfInBounds_toArray, List.set_cons_zero, List.set_cons_succ]
      refine takeQ (some 92) (i := 1) (v := ?v702) rfl rfl (by kernel_rfl) (by kernel_rfl) (by kernel_rfl) (fun _ _ _ h => h) (Or.inl ⟨by rfl, ?h702⟩) hS0 ?r702
      case h702 => (intro w hw; obtain ⟨q0, q1⟩ := hw; go_simp; try (with_reducible rfl))
      try simp only [Act.put]
      refine takeQ (some 93) (i := 2) (v := ?v703) rfl rfl (by kernel_rfl) (by kernel_rfl) (by kernel_rfl) (fun _ _ _ h => h) (Or.inl ⟨by rfl, ?h703⟩) hS0 ?r703
      case h703 => (intro w hw; obtain ⟨q0, q1⟩ := hw; go_simp; try (with_reducible rfl))
      try simp only [Act.put]
      refine takeQ (some 94) (i := 3) (v := ?v704) rfl rfl (by kernel_rfl) (by kernel_rfl) (by kernel_rfl) (fun _ _ _ h => h) (Or.inl ⟨by rfl, ?h704⟩) hS0 ?r704
      case h704 => (intro w hw; obtain ⟨q0, q1⟩ := hw; go_simp; try (with_reducible rfl))
      try simp only [Act.put]
      refine wpAnyH_ready (rs := [4]) (by kernel_rfl) (by simp) ?_
      refine AllReadyH.cons rfl ?_ AllReadyH.nil
      intro KK hKK
      go_simp
      refine (CP.out _ kd).mono ?_
      rintro e wx ⟨rfl, hbx⟩
      show KK _ _
      have kk := below_then kd hbx
      have hY := hX.below kk
      have hMY := hM3.below kk
      refine hKK.out _ _ hY.s (fun _ => ?_)
      clear hKK KK
      refine takeQ (some 96) (i := 5) (v := ?v705) rfl rfl (by kernel_rfl) (by kernel_rfl) (by kernel_rfl) (fun _ _ _ h => h) (Or.inl ⟨by rfl, ?h705⟩) hY.s ?r705
      case h705 => (intro w hw; obtain ⟨q0, q1⟩ := hw; go_simp; try (with_reducible rfl))
      try simp only [Act.put, List.setIfInBounds_toArray]
      refine takeQ (some 97) (i := 6) (v := ?v706) rfl rfl (by kernel_rfl) (by kernel_rfl) (by kernel_rfl) (fun _ _ _ h => h) (Or.inl ⟨by rfl, ?h706⟩) hY.s ?r706
      case h706 => (intro w hw; obtain ⟨q0, q1⟩ := hw; go_simp; try (with_reducible rfl))
      try simp only [Act.put]
      refine wpAnyH_ready (rs := [7]) (by kernel_rfl) (by simp) ?_
      refine AllReadyH.cons rfl ?_ AllReadyH.nil
      intro KK hKK
      rw [if_pos (by rfl)]
      refine wp_store_mid 32 (.tmp 97) (.tmp 95) rfl w2.heap.size 129 (rowsA (froM h)) rfl rfl (by rw [rowsA_size]; exact hY.o.there 129 (by omega)) (infoRel' _) (rows_one _) ?_
      have hXn := hY.setF (froM h)
      have hMn := MapI.cells (g := w2.heap.size) (by omega) (rowsA (froM h)).toList 129 _ hMY
      refine hKK.out _ _ hXn.s (fun _ => ?_)
      clear hKK KK
      refine wpAnyH_done (by kernel_rfl) ?_ _
      clear hX hM3 hY kd CP hS0 hMY kk hbx
      generalize wx.setCells w2.heap.size 129 (rowsA (froM h)).toList = w3 at *
      have hq := hXn.s.1
      go_wp2_with fail
      go_ret2
      exact ⟨⟨_, rfl, by have := hb4.size; omega, _, _, _, _, _, K, R, HK.out.2.2 ▸ hXn.o, hMn, hAw, hXn.r, HK.out.1, HK.out.2.1⟩, below_then hb4 hXn.b⟩
end Go.Proofs.Ytflalehpdngklaa

namespace Go.Proofs.Ytflalehpdngklaa
set_option maxRecDepth 100000
open Go.RowKit

/-- The two histories: the second transaction reads x. -/
def sp8 (v1 v2 : Value) (x : Int) : List TxnV := [⟨0, 1, 2, v1, [⟨true, 0, 5⟩, ⟨true, 0, 6⟩]⟩, ⟨1, 3, 4, v2, [⟨false, 0, x⟩]⟩]
theorem sp8_ok (v1 v2 : Value) (x : Int) (hx : x = 5 ∨ x = 6) : ∀ t ∈ sp8 v1 v2 x, t.ok := by
  intro t ht
  simp [sp8] at ht
  rcases ht with rfl | rfl <;> refine ⟨?_, fun o ho => ?_⟩
  · refine ⟨?_, ?_, ?_⟩ <;> simp [IntOk]
  · simp at ho
    rcases ho with rfl | rfl <;> refine ⟨?_, ?_⟩ <;> simp [IntOk]
  · refine ⟨?_, ?_, ?_⟩ <;> simp [IntOk]
  · simp at ho
    subst ho
    rcases hx with rfl | rfl <;> refine ⟨?_, ?_⟩ <;> simp [IntOk]
theorem sp8_short (v1 v2 : Value) (x : Int) : Short (sp8 v1 v2 x) := by
  intro t ht
  simp [sp8] at ht
  rcases ht with rfl | rfl <;> simp
theorem sp8_check5 (v1 v2 : Value) : checkI (sp8 v1 v2 5) = 0 := by rfl
theorem sp8_check6 (v1 v2 : Value) : checkI (sp8 v1 v2 6) = 0 := by rfl
theorem sp8_ses5 (v1 v2 : Value) : hasR (sesM (sp8 v1 v2 5)) 0 1 = false := (hasR_prs (sesP (sp8 v1 v2 5)) 2 (by omega) 0 1 (by omega) (by omega)).trans rfl
theorem sp8_tim5 (v1 v2 : Value) : hasR (timM (sp8 v1 v2 5)) 0 1 = true := (hasR_prs (timP (sp8 v1 v2 5)) 2 (by omega) 0 1 (by omega) (by omega)).trans rfl
theorem sp8_fro5 (v1 v2 : Value) : hasR (froM (sp8 v1 v2 5)) 0 1 = true := (hasR_prs (froP (sp8 v1 v2 5)) 2 (by omega) 0 1 (by omega) (by omega)).trans rfl
theorem sp8_reads6 (v1 v2 : Value) : readsTo (sp8 v1 v2 6) 2 = [[], [(0, 0)]] := by rfl
theorem sp8_keys6 (v1 v2 : Value) : keysTo (sp8 v1 v2 6) 2 = [[0], []] := by rfl
theorem Row.cellAt {w : World} {g o n cap size : Nat} {cs : List Value} (h : Row w (.slice (some ⟨g, o, none⟩) n cap) n size cs) (i : Nat) (hn : 0 < n) (hi : i < n * size) : w.cell? ⟨g, o + i, none⟩ = cs[i]? := by
  obtain ⟨_, ao, cap', he, _, _, hc⟩ := h
  cases he
  obtain ⟨b, off, hbo, hcell⟩ := hc hn
  cases hbo
  exact hcell i hi
theorem Row.setFar {w : World} {g o n cap size : Nat} {cs : List Value} (h : Row w (.slice (some ⟨g, o, none⟩) n cap) n size cs) {p : Addr} (hp : p.block ≠ g) (v : Value) : Row (w.setCell p v) (.slice (some ⟨g, o, none⟩) n cap) n size cs := by
  obtain ⟨hl, ao, cap', he, hm, hz, hc⟩ := h
  cases he
  refine ⟨hl, _, _, rfl, hm, hz, fun hn => ?_⟩
  obtain ⟨b, off, hbo, hcell⟩ := hc hn
  cases hbo
  refine ⟨_, _, rfl, fun i hi => ?_⟩
  rw [World.cell?_setCell_other _ _ _ _ (fun e => hp (by rw [e]))]
  exact hcell i hi
theorem Row.setIn {w : World} {g o n cap size : Nat} {cs : List Value} (h : Row w (.slice (some ⟨g, o, none⟩) n cap) n size cs) {k : Nat} (hk : k < n * size) (v : Value) : Row (w.setCell ⟨g, o + k, none⟩ v) (.slice (some ⟨g, o, none⟩) n cap) n size (cs.set k v) := by
  obtain ⟨hl, ao, cap', he, hm, hz, hc⟩ := h
  cases he
  refine ⟨by rw [List.length_set]; exact hl, _, _, rfl, hm, hz, fun hn => ?_⟩
  obtain ⟨b, off, hbo, hcell⟩ := hc hn
  cases hbo
  refine ⟨_, _, rfl, fun i hi => ?_⟩
  by_cases e : i = k
  · subst e
    have h1 := hcell i hi
    rw [List.getElem?_eq_getElem (by omega)] at h1
    rw [World.cell?_setCell_same _ _ _ h1, List.getElem?_set_self (by omega)]
  · have hne : (⟨g, o + k, none⟩ : Addr) ≠ ⟨g, o + i, none⟩ := by
      intro q
      injection q with _ q2
      omega
    rw [World.cell?_setCell_other _ _ _ _ hne, List.getElem?_set_ne (by omega)]
    exact hcell i hi
theorem two_rows {α : Type} {R : List (Value × α)} {x y : α} (h : R.map (·.2) = [x, y]) : ∃ a b, R = [(a, x), (b, y)] := by
  match R, h with
  | [(a, _), (b, _)], h =>
    simp at h
    obtain ⟨rfl, rfl⟩ := h
    exact ⟨a, b, rfl⟩
theorem eqlRd (k f k' f' : Int) (w : World) : Sem.run Try.prog (binOp .eql 46 (.agg #[.int .i64 k, .int .i64 f]) (.agg #[.int .i64 k', .int .i64 f'])) w = .ok (.bool (k == k' && f == f')) w := by
  have hS : Try.prog.underlying 46 = some (.struct (Try.prog.fieldsOf 46)) := by kernel_rfl
  have hp : Try.prog.stoodInHeld 46 = false := by kernel_rfl
  have u3 := Try.underlying3
  rw [run_eql_struct, show (10000 : Nat) = 9999 + 1 from rfl, run_equalIn_agg w 9999 46 _ _ hS hp]
  simp only [Program.fieldsOf, Try.underlying46]
  go_simp
  by_cases h1 : k = k' <;> by_cases h2 : f = f' <;> simp [h1, h2]
theorem guardRd (o : BinOp) (x y : Operand) (k f k' f') (w : World) : Sem.run Try.prog (eqGuard o 46 x y (.agg #[.int .i64 k, .int .i64 f]) (.agg #[.int .i64 k', .int .i64 f'])) w = .ok () w :=
  run_eqGuard_agg w o 46 x y _ _ (by kernel_rfl)
set_option maxHeartbeats 16000000 in
theorem speaks8_any (w : World) :
    Calls Try.prog 4 #[] w fun e w' => e = .returned (.bool true) ∧ Below w.heap.size w w' := by
  have C1 := fun (wx : World) => Lib.hid (write_op 0 5 wx)
  have C2 := fun (wx : World) => Lib.hid (write_op 0 6 wx)
  have C3 := fun (wx : World) => Lib.hid (read_any 0 5 wx)
  go_enter Try.func4, Try.ntmps4
  go_wp2_with fail
  refine ((C1 w).out).mono ?_
  rintro e w1 ⟨rfl, hb1⟩
  go_wp2_with fail
  refine ((C2 _).out).mono ?_
  rintro e w2 ⟨rfl, hb2⟩
  go_wp2_with fail
  refine ((C3 _).out).mono ?_
  rintro e w3 ⟨rfl, hb3⟩
  clear C1 C2 C3
  have hbw := below_then hb1 hb2
  have hbx := below_then (hbw.alloc hbw.size (.cells #[.bool true, .int .i64 0, .int .i64 5, .bool true, .int .i64 0, .int .i64 6] 51)) hb3
  have hb4 := (hbx.alloc hbx.size (.cells #[.bool false, .int .i64 0, .int .i64 5] 51)).alloc (by simp; exact Nat.le_succ_of_le hbx.size) (.cells #[.int .i64 0, .int .i64 1, .int .i64 2, .slice (some ⟨w2.heap.size, 0, none⟩) 2 2, .int .i64 1, .int .i64 3, .int .i64 4, .slice (some ⟨w3.heap.size, 0, none⟩) 1 1] 41)
  have hO1 : Ops _ (.slice (some ⟨w2.heap.size, 0, none⟩) 2 2) [⟨true, 0, 5⟩, ⟨true, 0, 6⟩] := (((Row.of_owns (World.ownsRow_lit (base := 0) (e := 51) (size := 3) w2 #[.bool true, .int .i64 0, .int .i64 5, .bool true, .int .i64 0, .int .i64 6] 2 (Nat.zero_le _) (by decide) rfl)).below hb3).below (box_below w3 (.cells #[.bool false, .int .i64 0, .int .i64 5] 51))).below (box_below _ (.cells #[.int .i64 0, .int .i64 1, .int .i64 2, .slice (some ⟨w2.heap.size, 0, none⟩) 2 2, .int .i64 1, .int .i64 3, .int .i64 4, .slice (some ⟨w3.heap.size, 0, none⟩) 1 1] 41))
  have hO2 : Row _ (.slice (some ⟨w3.heap.size, 0, none⟩) 1 1) 1 3 _ := (Row.of_owns (World.ownsRow_lit (base := 0) (e := 51) (size := 3) w3 #[.bool false, .int .i64 0, .int .i64 5] 1 (Nat.zero_le _) (by decide) rfl)).below (box_below _ (.cells #[.int .i64 0, .int .i64 1, .int .i64 2, .slice (some ⟨w2.heap.size, 0, none⟩) 2 2, .int .i64 1, .int .i64 3, .int .i64 4, .slice (some ⟨w3.heap.size, 0, none⟩) 1 1] 41))
  have hR : Row _ _ 2 4 _ := Row.of_owns (World.ownsRow_lit (base := 0) (e := 41) (size := 4) (w3.alloc (.cells #[.bool false, .int .i64 0, .int .i64 5] 51)) #[.int .i64 0, .int .i64 1, .int .i64 2, .slice (some ⟨w2.heap.size, 0, none⟩) 2 2, .int .i64 1, .int .i64 3, .int .i64 4, .slice (some ⟨w3.heap.size, 0, none⟩) 1 1] 2 (Nat.zero_le _) (by decide) rfl)
  rw [show (w3.alloc (.cells #[.bool false, .int .i64 0, .int .i64 5] 51)).heap.size = w3.heap.size + 1 from by simp] at hR
  have h03 : w.heap.size ≤ w3.heap.size := hbx.size
  have h23 : w2.heap.size < w3.heap.size := by have := hb3.size; simp at this; omega
  have f2 : (w3.alloc (.cells #[.bool false, .int .i64 0, .int .i64 5] 51)).frozen? ⟨w3.heap.size, 2, none⟩ = false := frozen_of_row _ _ _ _ _ (heap_alloc_new w3 (.cells #[.bool false, .int .i64 0, .int .i64 5] 51))
  have f2 := ((box_below _ (.cells #[.int .i64 0, .int .i64 1, .int .i64 2, .slice (some ⟨w2.heap.size, 0, none⟩) 2 2, .int .i64 1, .int .i64 3, .int .i64 4, .slice (some ⟨w3.heap.size, 0, none⟩) 1 1] 41)).frozen (p := ⟨w3.heap.size, 2, none⟩) (by simp)).trans f2
  go_wp2_with fail
  generalize (w3.alloc (.cells #[.bool false, .int .i64 0, .int .i64 5] 51)).alloc (.cells #[.int .i64 0, .int .i64 1, .int .i64 2, .slice (some ⟨w2.heap.size, 0, none⟩) 2 2, .int .i64 1, .int .i64 3, .int .i64 4, .slice (some ⟨w3.heap.size, 0, none⟩) 1 1] 41) = w4 at *
  generalize w2.heap.size = a1 at *
  generalize w3.heap.size = a2 at *
  clear hb1 hb2 hb3 hbw hbx
  have hT : Txns w4 (.slice (some ⟨a2 + 1, 0, none⟩) 2 2) (sp8 (.slice (some ⟨a1, 0, none⟩) 2 2) (.slice (some ⟨a2, 0, none⟩) 1 1) 5) := ⟨hR, fun t ht => by
    simp [sp8] at ht
    rcases ht with rfl | rfl
    · exact hO1
    · exact hO2⟩
  refine (of_done _ _ _ hT (sp8_ok _ _ _ (.inl rfl)) (sp8_short _ _ _) (sp8_check5 _ _)).mono ?_
  rintro e w5 ⟨⟨B, rfl, hB, bm, m, c, vk, vr, K, R, hO, -⟩, hb5⟩
  have hO : OrdAt w5 B 2 (sesM (sp8 (.slice (some ⟨a1, 0, none⟩) 2 2) (.slice (some ⟨a2, 0, none⟩) 1 1) 5)) (timM (sp8 (.slice (some ⟨a1, 0, none⟩) 2 2) (.slice (some ⟨a2, 0, none⟩) 1 1) 5)) (froM (sp8 (.slice (some ⟨a1, 0, none⟩) 2 2) (.slice (some ⟨a2, 0, none⟩) 1 1) 5)) (.map (some bm)) vk vr false := hO
  have hS := sp8_ses5 (.slice (some ⟨a1, 0, none⟩) 2 2) (.slice (some ⟨a2, 0, none⟩) 1 1)
  have hTi := sp8_tim5 (.slice (some ⟨a1, 0, none⟩) 2 2) (.slice (some ⟨a2, 0, none⟩) 1 1)
  have hF := sp8_fro5 (.slice (some ⟨a1, 0, none⟩) 2 2) (.slice (some ⟨a2, 0, none⟩) 1 1)
  generalize sesM (sp8 (.slice (some ⟨a1, 0, none⟩) 2 2) (.slice (some ⟨a2, 0, none⟩) 1 1) 5) = S5 at *
  generalize timM (sp8 (.slice (some ⟨a1, 0, none⟩) 2 2) (.slice (some ⟨a2, 0, none⟩) 1 1) 5) = T5 at *
  generalize froM (sp8 (.slice (some ⟨a1, 0, none⟩) 2 2) (.slice (some ⟨a2, 0, none⟩) 1 1) 5) = F5 at *
  have HO := Lib.hid (fun wx (hx : Below w5.heap.size w5 wx) => hO.below hx hO.lt)
  have q1 := hO.cS
  have q2 := hO.rT
  clear hT hO
  go_wp2_with (with_reducible refine wpList_load_part q2 _ rfl (by kernel_rfl) rfl ?_)
  refine (rhasR_any _ _ _ _).mono ?_
  rintro e w6 ⟨rfl, hb6⟩
  rw [hTi]
  have hO := HO.out _ hb6
  have q2 := hO.rF
  clear hO
  go_wp2_with (with_reducible refine wpList_load_part q2 _ rfl (by kernel_rfl) rfl ?_)
  refine (rhasR_any _ _ _ _).mono ?_
  rintro e w7 ⟨rfl, hb7⟩
  rw [hF]
  have hb7' := below_then hb6 hb7
  have hO := HO.out _ hb7'
  have q2 := hO.rS
  clear hO
  go_wp2_with (with_reducible refine wpList_load_part q2 _ rfl (by kernel_rfl) rfl ?_)
  refine (rhasR_any _ _ _ _).mono ?_
  rintro e w8 ⟨rfl, hb8⟩
  rw [hS]
  have hb8' := below_then hb5 (below_then hb7' hb8)
  have hR8 := hR.below hb8'
  have hO8 := hO2.below hb8'
  have hO18 := hO1.below hb8'
  have ha2 : a2 < w4.heap.size := block_lt (hO2.cellAt 2 (by decide) (by decide))
  have f8 := (hb8'.frozen (p := ⟨a2, 2, none⟩) ha2).trans f2
  have c7 := hR8.cellAt 7 (by decide) (by decide)
  have c2 := hO8.cellAt 2 (by decide) (by decide)
  simp only [Nat.zero_add] at c7 c2
  have c7 : w8.cell? ⟨a2 + 1, 7, none⟩ = some (.slice (some ⟨a2, 0, none⟩) 1 1) := c7
  have c2 : w8.cell? ⟨a2, 2, none⟩ = some (.int .i64 5) := c2
  clear HO hS hTi hF f2 hR hO1 hO2 q1
  go_wp2_with fail
  have hR9 := hR8.setFar (p := ⟨a2, 2, none⟩) (by simp) (.int .i64 6)
  have hO19 : Ops _ (.slice (some ⟨a1, 0, none⟩) 2 2) [⟨true, 0, 5⟩, ⟨true, 0, 6⟩] := Row.setFar (p := ⟨a2, 2, none⟩) hO18 (by simp; omega) (.int .i64 6)
  have hO29 := hO8.setIn (k := 2) (by decide) (.int .i64 6)
  have hb9 : Below w.heap.size w (w8.setCell ⟨a2, 2, none⟩ (.int .i64 6)) := (below_then hb4 hb8').setCell h03 _
  generalize w8.setCell ⟨a2, 2, none⟩ (.int .i64 6) = w9 at *
  have hT : Txns w9 (.slice (some ⟨a2 + 1, 0, none⟩) 2 2) (sp8 (.slice (some ⟨a1, 0, none⟩) 2 2) (.slice (some ⟨a2, 0, none⟩) 1 1) 6) := ⟨hR9, fun t ht => by
    simp [sp8] at ht
    rcases ht with rfl | rfl
    · exact hO19
    · exact hO29⟩
  refine (of_done _ _ _ hT (sp8_ok _ _ _ (.inr rfl)) (sp8_short _ _ _) (sp8_check6 _ _)).mono ?_
  rintro e w10 ⟨⟨B2, rfl, hB2, bm2, m2, c2, vk2, vr2, K2, R2, hO2, hM2, -, hF2, hK2, hR2⟩, hb10⟩
  have hO2 : OrdAt w10 B2 2 _ _ _ (.map (some bm2)) vk2 vr2 true := hO2
  obtain ⟨k0, k1, rfl⟩ := two_rows (hK2.trans (sp8_keys6 _ _))
  obtain ⟨r0, r1, rfl⟩ := two_rows (hR2.trans (sp8_reads6 _ _))
  have hr : Row w10 vr2 2 1 [r0, r1] := Row.of_owns hF2.rr
  have h1 : Row w10 r1 1 2 [.int .i64 0, .int .i64 0] := Row.of_owns (hF2.re (r1, [(0, 0)]) (by simp))
  have hbz := below_then hb9 hb10
  clear hF2 hT hR9 hO19 hO29 hR8 hO8 hO18 hK2 hR2
  obtain ⟨_, _, _, rfl, _, _, hc⟩ := id hr
  obtain ⟨gr, og, rfl, hcr⟩ := hc (by decide)
  obtain ⟨_, _, cp, rfl, _, _, hc1⟩ := id h1
  obtain ⟨g1, o1, rfl, hd1⟩ := hc1 (by decide)
  have u1 : w10.cell? ⟨gr, og + 1, none⟩ = some (.slice (some ⟨g1, o1, none⟩) 1 cp) := hcr 1 (by decide)
  have u2 : w10.cell? ⟨g1, o1, none⟩ = some (.int .i64 0) := hd1 0 (by decide)
  have u3 : w10.cell? ⟨g1, o1 + 1, none⟩ = some (.int .i64 0) := hd1 1 (by decide)
  have q0 := hO2.cN
  have q1 := hO2.cS
  have q2 := hO2.cR
  have q3 := hO2.cM
  have E := eqlRd
  have G := guardRd
  have HK := lookI_run (t := 33) (el := 30) (w := w10) false keyI mapIS 0 (zeroS _) hM2 (show InI 0 by decide)
  have hw : wrsTo [(k0, [0]), (k1, [])] 2 0 = some 1 := by simp [wrsTo, wrsRow, putF, withS, bt]
  simp only [List.length_cons, List.length_nil, Nat.zero_add, Nat.reduceAdd, hw, Bool.false_eq_true, if_false, Option.getD_some, eS] at HK
  clear hM2 hw hcr hc hc1 hd1 hr h1 hO2
  go_wp2_with fail
  go_ret
  exact ⟨rfl, hbz⟩
end Go.Proofs.Ytflalehpdngklaa

namespace Go.Proofs.Ytflalehpdngklaa
set_option maxRecDepth 100000
open Go.RowKit

theorem eS_inj : ∀ x y : Nat, eS x = eS y → x = y := fun x y e => by
  unfold eS at e
  injection e with _ e
  omega
theorem same_self (l : List Int) : sameL l l = true := by unfold sameL; simp
/-- How many keys the first k write to. -/
def keyN (h : List TxnV) (k : Nat) : Nat := sumN k (fun i => (keysOf (opsAt h i)).length)
theorem keyN_succ (h : List TxnV) (k : Nat) : keyN h (k + 1) = keyN h k + (keysOf (opsAt h k)).length := rfl
theorem keyN_le (h : List TxnV) (k : Nat) : keyN h k ≤ 64 * k := sumN_le (fun _ => keysOf_le _) k
set_option maxRecDepth 100000 in
set_option maxHeartbeats 16000000 in
theorem oreads8_walk (va : Value) (h : List TxnV) (w : World) (hT : Txns w va h) (hok : ∀ t ∈ h, t.ok) (hsh : Short h) :
    Calls Try.prog 3 #[va] w fun e w' => e = .returned (.bool true) ∧ Below w.heap.size w w' := by
  have HT := Lib.hid (fun wx (hx : Below w.heap.size w wx) => hT.below hx)
  obtain ⟨ao, cap, rfl, hal⟩ := hT.form
  have HOK := Lib.hid hok
  have HSH := Lib.hid hsh
  obtain ⟨i0, hi, hz0, hz1, hz2⟩ := info_parts infoInt
  clear hT hok
  go_enter Try.func3, Try.ntmps3
  go_wp2_with fail
  refine (speaks8_any _).mono ?_
  rintro e w1 ⟨rfl, hb1⟩
  go_wp2_with fail
  refine (big_any _ h _ (HT.out _ hb1) hsh).mono ?_
  rintro e w2 ⟨rfl, hb2⟩
  have hb2 := below_then hb1 hb2
  clear hb1 hsh
  by_cases hbig : bigI h = 1
  · rw [hbig]
    go_wp2_with fail
    go_ret
    exact ⟨rfl, hb2⟩
  have h0 : bigI h = 0 := by
    unfold bigI at hbig ⊢; split at hbig
    · exact (hbig rfl).elim
    · rename_i hn; rw [if_neg hn]
  obtain ⟨hs1, hs2⟩ := big_no h0
  rw [h0]
  clear hbig h0
  go_wp2_with fail
  refine (rcheck_any _ h _ (HT.out _ hb2) HSH.out).mono ?_
  rintro e w3 ⟨rfl, hb3⟩
  have hb3 := below_then hb2 hb3
  clear hb2
  rcases checkR_cases h with ⟨hc, hmay⟩ | hc | hc
  rotate_left
  · rw [hc]
    go_wp2_with fail
    go_ret
    exact ⟨rfl, hb3⟩
  · rw [hc]
    go_wp2_with fail
    go_ret
    exact ⟨rfl, hb3⟩
  have HC : Hid (checkI h = 0) := Lib.hid (by rw [check_ref]; exact hc)
  rw [hc]
  clear hc hmay
  by_cases hlong : 20 < h.length
  · have m1 : (20 : Int) < (h.length : Int) := by omega
    go_wp2_with fail
    go_ret
    exact ⟨rfl, hb3⟩
  have m2 : ¬ (20 : Int) < (h.length : Int) := by omega
  have h20 : h.length ≤ 20 := by omega
  clear hs1 hs2 hlong
  have CO := Lib.hid (of_done _ h w3 (HT.out _ hb3) HOK.out HSH.out HC.out)
  go_wp2_with fail
  refine (CO.out).mono ?_
  rintro e w4 ⟨⟨B, rfl, hB, hO⟩, hb4⟩
  have hb4 := below_then hb3 hb4
  obtain ⟨r1, rc1, q1, HR1⟩ := ordis_reads hO
  obtain ⟨r2, rc2, q2, HR2⟩ := ordis_keys hO
  obtain ⟨bm, mm, mc, F, q3, hM, hAS, hWI⟩ := ordis_map hO HC.out
  have q6 := hO.blk.cS
  have HQ := Lib.hid (fun wx (hx : Below w4.heap.size w4 wx) => And.intro ((hx.cell (p := ⟨B, 195, none⟩) (block_lt q1)).trans q1) (And.intro ((hx.cell (p := ⟨B, 194, none⟩) (block_lt q2)).trans q2) (And.intro ((hx.cell (p := ⟨B, 193, none⟩) (block_lt q3)).trans q3) ((hx.cell (p := ⟨B, 196, none⟩) (block_lt q6)).trans q6))))
  have HRL := Lib.hid HR1
  have HKL := Lib.hid HR2
  have HM := Lib.hid (fun wx (hx : Below w4.heap.size w4 wx) => hM.below hx)
  have HAS := Lib.hid hAS
  have HWI := Lib.hid hWI
  have HW := Lib.hid (fun wx (hx : Below w4.heap.size w4 wx) => hb4.trans (hx.mono hb4.size))
  have CSD := Lib.hid (fun wx (hx : Below w4.heap.size w4 wx) => rsound_any _ h HC.out wx (HT.out _ (HW.out _ hx)))
  have kd := (Below.refl w4.heap.size w4).drew
  have hb0 := Below.refl w4.heap.size w4
  clear hb3 CO hO hB hb4 HR1 HR2 q1 q2 q3 q6 hM hAS hWI m2
  generalize soundTo h h.length = sd at *
  go_upto_region 6 with fail
  refine wp_region_held_drew (S := Below w4.heap.size w4) (by kernel_rfl) kd (fun hS0 => ?_)
  refine takeG (some 38) (i := 0) (v := ?vra0x1) rfl rfl (by kernel_rfl) (by kernel_rfl) (by kernel_rfl) (fun _ _ _ h => h) (Or.inl ⟨by rfl, ?hra0x1⟩) hS0 ?rra0x1
  case hra0x1 => (intro w hw; obtain ⟨n5, n4, n3, n6⟩ := HQ.out _ hw; go_simp; try (with_reducible rfl))
  try simp only [Act.put, List.setIfInBounds_toArray, List.set_cons_zero, List.set_cons_succ]
  refine takeG (some 39) (i := 1) (v := ?vra1x2) rfl rfl (by kernel_rfl) (by kernel_rfl) (by kernel_rfl) (fun _ _ _ h => h) (Or.inl ⟨by rfl, ?hra1x2⟩) hS0 ?rra1x2
  case hra1x2 => (intro w hw; obtain ⟨n5, n4, n3, n6⟩ := HQ.out _ hw; go_simp; try (with_reducible rfl))
  try simp only [Act.put, List.setIfInBounds_toArray, List.set_cons_zero, List.set_cons_succ]
  refine takeG (some 40) (i := 2) (v := ?vra2x3) rfl rfl (by kernel_rfl) (by kernel_rfl) (by kernel_rfl) (fun _ _ _ h => h) (Or.inl ⟨by rfl, ?hra2x3⟩) hS0 ?rra2x3
  case hra2x3 => (intro w hw; obtain ⟨n5, n4, n3, n6⟩ := HQ.out _ hw; go_simp; try (with_reducible rfl))
  try simp only [Act.put, List.setIfInBounds_toArray, List.set_cons_zero, List.set_cons_succ]
  refine takeG (some 41) (i := 3) (v := ?vra3x4) rfl rfl (by kernel_rfl) (by kernel_rfl) (by kernel_rfl) (fun _ _ _ h => h) (Or.inl ⟨by rfl, ?hra3x4⟩) hS0 ?rra3x4
  case hra3x4 => (intro w hw; obtain ⟨n5, n4, n3, n6⟩ := HQ.out _ hw; go_simp; try (with_reducible rfl))
  try simp only [Act.put, List.setIfInBounds_toArray, List.set_cons_zero, List.set_cons_succ]
  refine takeG (some 42) (i := 4) (v := ?vra4x5) rfl rfl (by kernel_rfl) (by kernel_rfl) (by kernel_rfl) (fun _ _ _ h => h) (Or.inl ⟨by rfl, ?hra4x5⟩) hS0 ?rra4x5
  case hra4x5 => (intro w hw; obtain ⟨n5, n4, n3, n6⟩ := HQ.out _ hw; go_simp; try (with_reducible rfl))
  try simp only [Act.put, List.setIfInBounds_toArray, List.set_cons_zero, List.set_cons_succ]
  refine takeG (some 43) (i := 5) (v := ?vra5x6) rfl rfl (by kernel_rfl) (by kernel_rfl) (by kernel_rfl) (fun _ _ _ h => h) (Or.inl ⟨by rfl, ?hra5x6⟩) hS0 ?rra5x6
  case hra5x6 => (intro w hw; obtain ⟨n5, n4, n3, n6⟩ := HQ.out _ hw; go_simp; try (with_reducible rfl))
  try simp only [Act.put, List.setIfInBounds_toArray, List.set_cons_zero, List.set_cons_succ]
  refine takeG (some 44) (i := 6) (v := ?vra6x7) rfl rfl (by kernel_rfl) (by kernel_rfl) (by kernel_rfl) (fun _ _ _ h => h) (Or.inl ⟨by rfl, ?hra6x7⟩) hS0 ?rra6x7
  case hra6x7 => (intro w hw; obtain ⟨n5, n4, n3, n6⟩ := HQ.out _ hw; go_simp; try (with_reducible rfl))
  try simp only [Act.put, List.setIfInBounds_toArray, List.set_cons_zero, List.set_cons_succ]
  refine takeG (some 45) (i := 7) (v := ?vra7x8) rfl rfl (by kernel_rfl) (by kernel_rfl) (by kernel_rfl) (fun _ _ _ h => h) (Or.inl ⟨by rfl, ?hra7x8⟩) hS0 ?rra7x8
  case hra7x8 => (intro w hw; obtain ⟨n5, n4, n3, n6⟩ := HQ.out _ hw; go_simp; try (with_reducible rfl))
  try simp only [Act.put, List.setIfInBounds_toArray, List.set_cons_zero, List.set_cons_succ]
  refine takeG (some 46) (i := 8) (v := ?vra8x9) rfl rfl (by kernel_rfl) (by kernel_rfl) (by kernel_rfl) (fun _ _ _ h => h) (Or.inl ⟨by rfl, ?hra8x9⟩) hS0 ?rra8x9
  case hra8x9 => (intro w hw; obtain ⟨n5, n4, n3, n6⟩ := HQ.out _ hw; go_simp; try (with_reducible rfl))
  try simp only [Act.put, List.setIfInBounds_toArray, List.set_cons_zero, List.set_cons_succ]
  refine takeG (some 47) (i := 9) (v := ?vra9x10) rfl rfl (by kernel_rfl) (by kernel_rfl) (by kernel_rfl) (fun _ _ _ h => h) (Or.inl ⟨by rfl, ?hra9x10⟩) hS0 ?rra9x10
  case hra9x10 => (intro w hw; obtain ⟨n5, n4, n3, n6⟩ := HQ.out _ hw; go_simp; try (with_reducible rfl))
  try simp only [Act.put, List.setIfInBounds_toArray, List.set_cons_zero, List.set_cons_succ]
  refine takeG (some 48) (i := 10) (v := ?vra10x11) rfl rfl (by kernel_rfl) (by kernel_rfl) (by kernel_rfl) (fun _ _ _ h => h) (Or.inl ⟨by rfl, ?hra10x11⟩) hS0 ?rra10x11
  case hra10x11 => (intro w hw; obtain ⟨n5, n4, n3, n6⟩ := HQ.out _ hw; go_simp; try (with_reducible rfl))
  try simp only [Act.put, List.setIfInBounds_toArray, List.set_cons_zero, List.set_cons_succ]
  refine takeG (some 49) (i := 11) (v := ?vra11x12) rfl rfl (by kernel_rfl) (by kernel_rfl) (by kernel_rfl) (fun _ _ _ h => h) (Or.inl ⟨by rfl, ?hra11x12⟩) hS0 ?rra11x12
  case hra11x12 => (intro w hw; obtain ⟨n5, n4, n3, n6⟩ := HQ.out _ hw; go_simp; try (with_reducible rfl))
  try simp only [Act.put, List.setIfInBounds_toArray, List.set_cons_zero, List.set_cons_succ]
  refine takeG (some 50) (i := 12) (v := ?vra12x13) rfl rfl (by kernel_rfl) (by kernel_rfl) (by kernel_rfl) (fun _ _ _ h => h) (Or.inl ⟨by rfl, ?hra12x13⟩) hS0 ?rra12x13
  case hra12x13 => (intro w hw; obtain ⟨n5, n4, n3, n6⟩ := HQ.out _ hw; go_simp; try (with_reducible rfl))
  try simp only [Act.put, List.setIfInBounds_toArray, List.set_cons_zero, List.set_cons_succ]
  refine takeG (some 51) (i := 13) (v := ?vra13x14) rfl rfl (by kernel_rfl) (by kernel_rfl) (by kernel_rfl) (fun _ _ _ h => h) (Or.inl ⟨by rfl, ?hra13x14⟩) hS0 ?rra13x14
  case hra13x14 => (intro w hw; obtain ⟨n5, n4, n3, n6⟩ := HQ.out _ hw; go_simp; try (with_reducible rfl))
  try simp only [Act.put, List.setIfInBounds_toArray, List.set_cons_zero, List.set_cons_succ]
  refine takeG (some 52) (i := 14) (v := ?vra14x15) rfl rfl (by kernel_rfl) (by kernel_rfl) (by kernel_rfl) (fun _ _ _ h => h) (Or.inl ⟨by rfl, ?hra14x15⟩) hS0 ?rra14x15
  case hra14x15 => (intro w hw; obtain ⟨n5, n4, n3, n6⟩ := HQ.out _ hw; go_simp; try (with_reducible rfl))
  try simp only [Act.put, List.setIfInBounds_toArray, List.set_cons_zero, List.set_cons_succ]
  refine takeG (some 53) (i := 15) (v := ?vra15x16) rfl rfl (by kernel_rfl) (by kernel_rfl) (by kernel_rfl) (fun _ _ _ h => h) (Or.inl ⟨by rfl, ?hra15x16⟩) hS0 ?rra15x16
  case hra15x16 => (intro w hw; obtain ⟨n5, n4, n3, n6⟩ := HQ.out _ hw; go_simp; try (with_reducible rfl))
  try simp only [Act.put, List.setIfInBounds_toArray, List.set_cons_zero, List.set_cons_succ]
  refine takeG (some 54) (i := 16) (v := ?vra16x17) rfl rfl (by kernel_rfl) (by kernel_rfl) (by kernel_rfl) (fun _ _ _ h => h) (Or.inl ⟨by rfl, ?hra16x17⟩) hS0 ?rra16x17
  case hra16x17 => (intro w hw; obtain ⟨n5, n4, n3, n6⟩ := HQ.out _ hw; go_simp; try (with_reducible rfl))
  try simp only [Act.put, List.setIfInBounds_toArray, List.set_cons_zero, List.set_cons_succ]
  refine takeG (some 55) (i := 17) (v := ?vra17x18) rfl rfl (by kernel_rfl) (by kernel_rfl) (by kernel_rfl) (fun _ _ _ h => h) (Or.inl ⟨by rfl, ?hra17x18⟩) hS0 ?rra17x18
  case hra17x18 => (intro w hw; obtain ⟨n5, n4, n3, n6⟩ := HQ.out _ hw; go_simp; try (with_reducible rfl))
  try simp only [Act.put, List.setIfInBounds_toArray, List.set_cons_zero, List.set_cons_succ]
  refine takeG (some 56) (i := 18) (v := ?vra18x19) rfl rfl (by kernel_rfl) (by kernel_rfl) (by kernel_rfl) (fun _ _ _ h => h) (Or.inl ⟨by rfl, ?hra18x19⟩) hS0 ?rra18x19
  case hra18x19 => (intro w hw; obtain ⟨n5, n4, n3, n6⟩ := HQ.out _ hw; go_simp; try (with_reducible rfl))
  try simp only [Act.put, List.setIfInBounds_toArray, List.set_cons_zero, List.set_cons_succ]
  refine takeG (some 57) (i := 19) (v := ?vra19x20) rfl rfl (by kernel_rfl) (by kernel_rfl) (by kernel_rfl) (fun _ _ _ h => h) (Or.inl ⟨by rfl, ?hra19x20⟩) hS0 ?rra19x20
  case hra19x20 => (intro w hw; obtain ⟨n5, n4, n3, n6⟩ := HQ.out _ hw; go_simp; try (with_reducible rfl))
  try simp only [Act.put, List.setIfInBounds_toArray, List.set_cons_zero, List.set_cons_succ]
  refine takeG (some 58) (i := 20) (v := ?vra20x21) rfl rfl (by kernel_rfl) (by kernel_rfl) (by kernel_rfl) (fun _ _ _ h => h) (Or.inl ⟨by rfl, ?hra20x21⟩) hS0 ?rra20x21
  case hra20x21 => (intro w hw; obtain ⟨n5, n4, n3, n6⟩ := HQ.out _ hw; go_simp; try (with_reducible rfl))
  try simp only [Act.put, List.setIfInBounds_toArray, List.set_cons_zero, List.set_cons_succ]
  refine takeG (some 59) (i := 21) (v := ?vra21x22) rfl rfl (by kernel_rfl) (by kernel_rfl) (by kernel_rfl) (fun _ _ _ h => h) (Or.inl ⟨by rfl, ?hra21x22⟩) hS0 ?rra21x22
  case hra21x22 => (intro w hw; obtain ⟨n5, n4, n3, n6⟩ := HQ.out _ hw; go_simp; try (with_reducible rfl))
  try simp only [Act.put, List.setIfInBounds_toArray, List.set_cons_zero, List.set_cons_succ]
  refine takeG (some 60) (i := 22) (v := ?vra22x23) rfl rfl (by kernel_rfl) (by kernel_rfl) (by kernel_rfl) (fun _ _ _ h => h) (Or.inl ⟨by rfl, ?hra22x23⟩) hS0 ?rra22x23
  case hra22x23 => (intro w hw; obtain ⟨n5, n4, n3, n6⟩ := HQ.out _ hw; go_simp; try (with_reducible rfl))
  try simp only [Act.put, List.setIfInBounds_toArray, List.set_cons_zero, List.set_cons_succ]
  refine takeG (some 61) (i := 23) (v := ?vra23x24) rfl rfl (by kernel_rfl) (by kernel_rfl) (by kernel_rfl) (fun _ _ _ h => h) (Or.inl ⟨by rfl, ?hra23x24⟩) hS0 ?rra23x24
  case hra23x24 => (intro w hw; obtain ⟨n5, n4, n3, n6⟩ := HQ.out _ hw; go_simp; try (with_reducible rfl))
  try simp only [Act.put, List.setIfInBounds_toArray, List.set_cons_zero, List.set_cons_succ]
  refine takeG (some 62) (i := 24) (v := ?vra24x25) rfl rfl (by kernel_rfl) (by kernel_rfl) (by kernel_rfl) (fun _ _ _ h => h) (Or.inl ⟨by rfl, ?hra24x25⟩) hS0 ?rra24x25
  case hra24x25 => (intro w hw; obtain ⟨n5, n4, n3, n6⟩ := HQ.out _ hw; go_simp; try (with_reducible rfl))
  try simp only [Act.put, List.setIfInBounds_toArray, List.set_cons_zero, List.set_cons_succ]
  refine takeG (some 63) (i := 25) (v := ?vra25x26) rfl rfl (by kernel_rfl) (by kernel_rfl) (by kernel_rfl) (fun _ _ _ h => h) (Or.inl ⟨by rfl, ?hra25x26⟩) hS0 ?rra25x26
  case hra25x26 => (intro w hw; obtain ⟨n5, n4, n3, n6⟩ := HQ.out _ hw; go_simp; try (with_reducible rfl))
  try simp only [Act.put, List.setIfInBounds_toArray, List.set_cons_zero, List.set_cons_succ]
  refine takeG (some 64) (i := 26) (v := ?vra26x27) rfl rfl (by kernel_rfl) (by kernel_rfl) (by kernel_rfl) (fun _ _ _ h => h) (Or.inl ⟨by rfl, ?hra26x27⟩) hS0 ?rra26x27
  case hra26x27 => (intro w hw; obtain ⟨n5, n4, n3, n6⟩ := HQ.out _ hw; go_simp; try (with_reducible rfl))
  try simp only [Act.put, List.setIfInBounds_toArray, List.set_cons_zero, List.set_cons_succ]
  refine takeG (some 65) (i := 27) (v := ?vra27x28) rfl rfl (by kernel_rfl) (by kernel_rfl) (by kernel_rfl) (fun _ _ _ h => h) (Or.inl ⟨by rfl, ?hra27x28⟩) hS0 ?rra27x28
  case hra27x28 => (intro w hw; obtain ⟨n5, n4, n3, n6⟩ := HQ.out _ hw; go_simp; try (with_reducible rfl))
  try simp only [Act.put, List.setIfInBounds_toArray, List.set_cons_zero, List.set_cons_succ]
  refine takeG (some 66) (i := 28) (v := ?vra28x29) rfl rfl (by kernel_rfl) (by kernel_rfl) (by kernel_rfl) (fun _ _ _ h => h) (Or.inl ⟨by rfl, ?hra28x29⟩) hS0 ?rra28x29
  case hra28x29 => (intro w hw; obtain ⟨n5, n4, n3, n6⟩ := HQ.out _ hw; go_simp; try (with_reducible rfl))
  try simp only [Act.put, List.setIfInBounds_toArray, List.set_cons_zero, List.set_cons_succ]
  refine takeG (some 67) (i := 29) (v := ?vra29x30) rfl rfl (by kernel_rfl) (by kernel_rfl) (by kernel_rfl) (fun _ _ _ h => h) (Or.inl ⟨by rfl, ?hra29x30⟩) hS0 ?rra29x30
  case hra29x30 => (intro w hw; obtain ⟨n5, n4, n3, n6⟩ := HQ.out _ hw; go_simp; try (with_reducible rfl))
  try simp only [Act.put, List.setIfInBounds_toArray, List.set_cons_zero, List.set_cons_succ]
  refine takeG (some 68) (i := 30) (v := ?vra30x31) rfl rfl (by kernel_rfl) (by kernel_rfl) (by kernel_rfl) (fun _ _ _ h => h) (Or.inl ⟨by rfl, ?hra30x31⟩) hS0 ?rra30x31
  case hra30x31 => (intro w hw; obtain ⟨n5, n4, n3, n6⟩ := HQ.out _ hw; go_simp; try (with_reducible rfl))
  try simp only [Act.put, List.setIfInBounds_toArray, List.set_cons_zero, List.set_cons_succ]
  refine takeG (some 69) (i := 31) (v := ?vra31x32) rfl rfl (by kernel_rfl) (by kernel_rfl) (by kernel_rfl) (fun _ _ _ h => h) (Or.inl ⟨by rfl, ?hra31x32⟩) hS0 ?rra31x32
  case hra31x32 => (intro w hw; obtain ⟨n5, n4, n3, n6⟩ := HQ.out _ hw; go_simp; try (with_reducible rfl))
  try simp only [Act.put, List.setIfInBounds_toArray, List.set_cons_zero, List.set_cons_succ]
  refine wpAnyH_ready (rs := [32]) (by kernel_rfl) (by simp) ?_
  refine AllReadyH.cons rfl (fun K hK => ?_) AllReadyH.nil
  go_simp
  refine (CSD.out _ hS0).mono ?_
  rintro e y33 ⟨rfl, j33⟩
  show K _ _
  have s33 := below_then hS0 j33
  refine hK.out _ _ s33 (fun _ => ?_)
  clear hK K
  refine takeG (some 71) (i := 33) (v := ?vra33x34) rfl rfl (by kernel_rfl) (by kernel_rfl) (by kernel_rfl) (fun _ _ _ h => h) (Or.inl ⟨by rfl, ?hra33x34⟩) s33 ?rra33x34
  case hra33x34 => (intro w hw; obtain ⟨n5, n4, n3, n6⟩ := HQ.out _ hw; go_simp; try (with_reducible rfl))
  try simp only [Act.put, List.setIfInBounds_toArray, List.set_cons_zero, List.set_cons_succ]
  refine takeG (some 72) (i := 34) (v := ?vra34x35) rfl rfl (by kernel_rfl) (by kernel_rfl) (by kernel_rfl) (fun _ _ _ h => h) (Or.inl ⟨by rfl, ?hra34x35⟩) s33 ?rra34x35
  case hra34x35 => (intro w hw; obtain ⟨n5, n4, n3, n6⟩ := HQ.out _ hw; go_simp; try (with_reducible rfl))
  try simp only [Act.put, List.setIfInBounds_toArray, List.set_cons_zero, List.set_cons_succ]
  refine wpAnyH_done (by kernel_rfl) ?_ _
  have hb5 := s33
  go_wp2_with fail
  go_loopw [5, 75] (fun kv iv wr => ∃ k : Nat, k ≤ h.length ∧ iv = .int .i64 k ∧ kv = .int .i64 ((keyN h k : Nat) : Int) ∧ Below w4.heap.size w4 wr) (fun _ iv _ => h.length - (intOf iv).toNat)
  case atStart => exact ⟨0, by omega, rfl, rfl, hb5⟩
  case round =>
    clear kd hb0 hS0 hb5
    obtain ⟨k, hk, rfl, rfl, hb⟩ := hrel
    have hkn := keyN_le h k
    by_cases hlt : k < h.length
    · have hki : (k : Int) < (h.length : Int) := by omega
      have HNX := Lib.hid (keyN_succ h k)
      have hks := keysOf_le (opsAt h k)
      obtain ⟨g, o, hao, c0, c1, c2, c3⟩ := (HT.out _ (HW.out _ hb)).at hlt
      cases hao
      have hrs := reads_same HC.out hlt
      have CRD := Lib.hid (fun wx (hx : Below w4.heap.size w4 wx) => rreads8_any _ h k hlt wx (HT.out _ (HW.out _ hx)))
      rw [← hrs] at CRD
      obtain ⟨g1, o1, ax1, cx1, rfl, cc1, hf1⟩ := HRL.out k hlt
      obtain ⟨g2, o2, ax2, cx2, rfl, cc2, hi2⟩ := HKL.out k hlt
      obtain ⟨_, _, _, hri⟩ := hf1.form
      have HC1 := Lib.hid (fun wx (hx : Below w4.heap.size w4 wx) => And.intro (HQ.out wx hx) (And.intro ((hx.cell (p := ⟨g1, o1 + k, none⟩) (block_lt cc1)).trans cc1) ((hx.cell (p := ⟨g2, o2 + k, none⟩) (block_lt cc2)).trans cc2)))
      have HF1 := Lib.hid (fun wx (hx : Below w4.heap.size w4 wx) => hf1.below hx)
      have HI2 := Lib.hid (fun wx (hx : Below w4.heap.size w4 wx) => hi2.below hx)
      have HOPS2 := Lib.hid (fun wx (hx : Below w4.heap.size w4 wx) => (HT.out _ (HW.out _ hx)).ops hlt)
      have HKE : Hid ((refWrites h[k].l).map OpV.key = keysOf (opsAt h k)) := Lib.hid (by unfold keysOf; rw [opsAt_eq hlt])
      have HHAS := Lib.hid (fun y (hy : y ∈ keysOf (opsAt h k)) => wrs_has HC.out HWI.out hlt hy)
      have HKI := Lib.hid (fun y (hy : y ∈ keysOf (opsAt h k)) => keys_in HC.out hlt hy)
      clear cc1 cc2 hf1 hi2 hrs
      generalize h[k] = x at *
      obtain ⟨s, b, cc, v, l⟩ := x
      simp only at c0 c1 c2 c3 HOPS2 HKE
      obtain ⟨ai, capi, rfl, hli⟩ := (HOPS2.out _ hb).form
      have hbA := hb.alloc hb.size (.cells #[.int .i64 s, .int .i64 b, .int .i64 cc, .slice ai l.length capi] 41)
      obtain ⟨_, _, _, b3⟩ := txnBlock wr (.int .i64 s) (.int .i64 b) (.int .i64 cc) (.slice ai l.length capi) 41
      generalize readsOf h k = L at *
      go_upto_region 12 with fail
      clear c0 c1 c2 c3 hb
      generalize wr.alloc (.cells #[.int .i64 s, .int .i64 b, .int .i64 cc, .slice ai l.length capi] 41) = w6 at *
      generalize wr.heap.size = p7 at *
      have HP7 := Lib.hid (fun wx (hx : Below w6.heap.size w6 wx) => (hx.cell (p := ⟨p7, 3, none⟩) (block_lt b3)).trans b3)
      have HB6 := Lib.hid (fun wx (hx : Below w6.heap.size w6 wx) => hbA.trans (hx.mono hbA.size))
      go_wp2_with fail
      refine (CRD.out _ hbA).mono ?_
      rintro e w7 ⟨vw, rfl, hown, h7⟩
      have hW7 := Row.of_owns hown
      have hb7 := Below.refl w6.heap.size w6
      have hb7 := below_then hb7 h7
      obtain ⟨wo, wc2, rfl⟩ := owns_form hown
      have HWT : Hid (∀ wx, Below w7.heap.size w7 wx → Frs wx (.slice wo L.length wc2) L) := Lib.hid (fun wx hx => Row.below hW7 hx)
      have HB7 := Lib.hid (fun wx (hx : Below w7.heap.size w7 wx) => hb7.trans (hx.mono hb7.size))
      obtain ⟨⟨n5, n4, n3, n6⟩, m1, m2⟩ := HC1.out _ (HB6.out _ hb7)
      have k7 := Below.refl w7.heap.size w7
      clear hown hW7 hbA h7 hb7 b3 CRD
      go_wp2_with fail
      clear n5 n4 n3 n6 m1 m2
      go_loopw [102] (fun jv wx => ∃ j : Nat, j ≤ L.length ∧ jv = .int .i64 j ∧ Below w7.heap.size w7 wx) (fun jv _ => L.length - (intOf jv).toNat)
      case atStart => exact ⟨0, by omega, rfl, k7⟩
      case round =>
        clear k7
        obtain ⟨j, hj, rfl, hb⟩ := hrel
        by_cases hlj : j < L.length
        · have hji : (j : Int) < (L.length : Int) := by omega
          obtain ⟨p1, z1, hao1, d0, d1⟩ := (HF1.out _ (HB6.out _ (HB7.out _ hb))).at hlj
          cases hao1
          obtain ⟨p2, z2, hao2, e0, e1⟩ := (HWT.out _ hb).at hlj
          cases hao2
          generalize L[j].1 = y at *
          generalize L[j].2 = f at *
          have hbx := hb.alloc hb.size (.cells #[.int .i64 y, .int .i64 f] 46)
          have bx := box_below wr (.cells #[.int .i64 y, .int .i64 f] 46)
          have x0 : (wr.alloc (.cells #[.int .i64 y, .int .i64 f] 46)).cell? ⟨wr.heap.size, 0, none⟩ = some (.int .i64 y) := by rw [cell_of_row _ _ _ _ _ _ (heap_alloc_new wr _)]; rfl
          have x1 : (wr.alloc (.cells #[.int .i64 y, .int .i64 f] 46)).cell? ⟨wr.heap.size, 1, none⟩ = some (.int .i64 f) := by rw [cell_of_row _ _ _ _ _ _ (heap_alloc_new wr _)]; rfl
          have m0 := (bx.cell (p := ⟨p2, z2 + j * 2, none⟩) (block_lt e0)).trans e0
          have m1 := (bx.cell (p := ⟨p2, z2 + j * 2 + 1, none⟩) (block_lt e1)).trans e1
          clear e0 e1 bx hb
          go_upto_region 18 with fail
          clear d0 d1
          generalize wr.alloc (.cells #[.int .i64 y, .int .i64 f] 46) = w9 at *
          generalize wr.heap.size = p9 at *
          have hnq := neqRd y f
          have hgu := fun o a b (w : World) => guardRd4 o a b y f y f w
          go_quiet (fail)
          have hbz := below_drewN hbx nq
          go_wp2_with fail
          go_roundw
          case rel => exact ⟨j + 1, by omega, by go_num, hbz⟩
          case measure => simp [intOf]; omega
        · have hjn : ¬ (j : Int) < (L.length : Int) := by omega
          have hp3 := HP7.out _ (HB7.out _ hb)
          have CWR := Lib.hid (rwrites_any _ l wr (HOPS2.out _ (HB6.out _ (HB7.out _ hb))))
          have HB8 := Lib.hid (fun wx (hx : Below wr.heap.size wr wx) => HB6.out _ (HB7.out _ (hb.trans (hx.mono hb.size))))
          clear HWT HB7 HB6 HP7 HF1 hlj hb
          go_wp2_with fail
          refine (CWR.out).mono ?_
          rintro e w8 ⟨vm, rfl, hown, h8⟩
          clear hp3 CWR
          generalize refWrites l = M at *
          have hMl : M.length ≤ 64 := by have := hks; rw [← HKE.out, List.length_map] at this; exact this
          have HOW := Lib.hid (fun wx (hx : Below w8.heap.size w8 wx) => hown.ops.below hx)
          obtain ⟨mo, mcap, rfl, _⟩ := hown.ops.form
          have HB8 := Lib.hid (fun wx (hx : Below w8.heap.size w8 wx) => HB8.out _ (h8.trans (hx.mono h8.size)))
          have k8 := Below.refl w8.heap.size w8
          clear hown h8
          go_wp2_with fail
          go_loopw [11, 125] (fun lv jv wx => ∃ j : Nat, j ≤ M.length ∧ jv = .int .i64 j ∧ wx.ownsRow w8.heap.size 3 1 lv j ((M.take j).map fun o => Value.int .i64 o.key) ∧ Below w8.heap.size w8 wx) (fun _ jv _ => M.length - (intOf jv).toNat)
          case atStart => exact ⟨0, by omega, rfl, ⟨rfl, .inl ⟨rfl, rfl⟩⟩, k8⟩
          case round =>
            clear k8
            obtain ⟨j, hj, rfl, hown, hb⟩ := hrel
            by_cases hlj : j < M.length
            · have hji : (j : Int) < (M.length : Int) := by omega
              obtain ⟨p1, z1, hao1, d0, d1, d2⟩ := (HOW.out _ hb).at hlj
              cases hao1
              have HTK : Hid ((M.take (j + 1)).map (fun o => Value.int .i64 o.key) = (M.take j).map (fun o => Value.int .i64 o.key) ++ [.int .i64 M[j].key]) := Lib.hid (by rw [List.take_succ_eq_append_getElem hlj, List.map_append]; rfl)
              generalize (M.take j).map (fun o => Value.int .i64 o.key) = xs at *
              generalize M[j] = ov at *
              obtain ⟨ow, ok, on⟩ := ov
              simp only at d0 d1 d2 HTK
              obtain ⟨_, x1, _⟩ := opBlock wr (.bool ow) (.int .i64 ok) (.int .i64 on) 51
              have hO2 := hown.alloc (.cells #[.bool ow, .int .i64 ok, .int .i64 on] 51)
              have hbx := hb.alloc hb.size (.cells #[.bool ow, .int .i64 ok, .int .i64 on] 51)
              have hsz := hbx.size
              clear hown hb
              go_upto_region 25 with fail
              clear d0 d1 d2
              generalize wr.alloc (.cells #[.bool ow, .int .i64 ok, .int .i64 on] 51) = w9 at *
              generalize wr.heap.size = p9 at *
              go_wp2_with (at_builtin; refine wpList_append_own _ rfl _ _ 48 rfl w8.heap.size 3 i0 (.int .i64 0) 1 8 Try.underlying48 hi hz0 hz1 hz2 rfl (by decide) _ _ _ rfl (hO2.alloc _) ⟨_, 0, none⟩ 1 1 [.int .i64 ok] rfl rfl ?c1 ?c2 ?c3 ?c4 ?c5 ?_)
              try case c1 => exact cell_one_new _ _ _
              case c2 => first | rfl | (intro u hu; simp at hu; subst hu; rfl)
              case c3 => unfold maxLen; omega
              case c4 => omega
              case c5 => simp; omega
              intro v6 w10 hown6 hg6 _
              have hb6 : Below w8.heap.size w8 w10 := hbx.trans (below_app (Below.refl _ _) hsz hO2 hg6)
              clear hO2 hg6 hbx
              go_wp2_with fail
              go_roundw
              case rel => exact ⟨j + 1, by omega, by go_num, by rw [HTK.out]; exact hown6, hb6⟩
              case measure => simp [intOf]; omega
            · have hjn : j = M.length := by omega
              subst hjn
              rw [List.take_length] at hown
              have hnn : ¬ (M.length : Int) < (M.length : Int) := by omega
              have HKM : Hid (M.length = (keysOf (opsAt h k)).length) := Lib.hid (by rw [← HKE.out, List.length_map])
              have hIL : Ints wr u11 (keysOf (opsAt h k)) := by
                have h1 := Row.of_owns hown
                rw [HKM.out] at h1
                unfold Ints
                rw [← HKE.out, List.map_map]
                have e : (Value.int IntKind.i64 ∘ OpV.key) = fun o : OpV => Value.int .i64 o.key := rfl
                rw [e, List.length_map]
                rw [← HKM.out] at h1; exact h1
              have HIL := Lib.hid (fun wx (hx : Below wr.heap.size wr wx) => hIL.below hx)
              have HB9 := Lib.hid (fun wx (hx : Below wr.heap.size wr wx) => HB8.out _ (hb.trans (hx.mono hb.size)))
              have CSM := Lib.hid (same_any _ _ _ _ wr (HI2.out _ (HB8.out _ hb)) hIL)
              rw [same_self] at CSM
              obtain ⟨la, lc, rfl⟩ := owns_form hown
              obtain ⟨⟨n5, n4, n3, n6⟩, m1, m2⟩ := HC1.out _ (HB8.out _ hb)
              rw [HKM.out] at CSM HIL hIL ⊢
              clear hown hIL HOW HB8 HI2 hlj hb
              generalize hKy : keysOf (opsAt h k) = Ky at *
              clear hKy
              go_wp2_with fail
              refine (CSM.out).mono ?_
              rintro e w9 ⟨rfl, h9⟩
              clear n5 n4 n3 n6 m1 m2 CSM
              have h9' := h9
              go_wp2_with fail
              go_loopw [147] (fun jv wx => ∃ j : Nat, j ≤ Ky.length ∧ jv = .int .i64 j ∧ Below wr.heap.size wr wx) (fun jv _ => Ky.length - (intOf jv).toNat)
              case atStart => exact ⟨0, by omega, rfl, h9⟩
              case round =>
                clear h9 h9'
                obtain ⟨j, hj, rfl, hb⟩ := hrel
                by_cases hlj : j < Ky.length
                · have hji : (j : Int) < (Ky.length : Int) := by omega
                  obtain ⟨p1, z1, hao1, d0⟩ := (HIL.out _ hb).at hlj
                  cases hao1
                  have hhas := HHAS.out _ (List.getElem_mem hlj)
                  have hyI : InI Ky[j] := inI_of (by have := HKI.out _ (List.getElem_mem hlj); unfold IntOk; omega)
                  generalize Ky[j] = y at *
                  have hset := HAS.out y
                  have CH := Lib.hid (fun wx => has_any ((F y).getD 0) (k : Int) wx hset)
                  rw [hhas] at CH
                  have hlk : Sem.run Try.prog (Instr.lookup 33 (.map (some bm)) (.int .i64 y) false) wr = .ok (.int .u64 (((F y).getD 0 : Nat) : Int)) wr := by
                    have hK := lookI_run (t := 33) (el := 30) (w := wr) false keyI mapIS 0 (zeroS _) (HM.out wr (HB9.out wr hb)) hyI
                    simpa only [Bool.false_eq_true, if_false, eS] using hK
                  obtain ⟨⟨n5, n4, n3, n6⟩, _, _⟩ := HC1.out _ (HB9.out _ hb)
                  clear hhas hset hyI
                  generalize (F y).getD 0 = sy at *
                  go_wp2_with fail
                  refine (CH.out _).mono ?_
                  rintro e wq ⟨rfl, rfl⟩
                  clear n5 n4 n3 n6 hlk
                  go_wp2_with fail
                  go_roundw
                  case rel => exact ⟨j + 1, by omega, by go_num, hb⟩
                  case measure => simp [intOf]; omega
                · have hjn : ¬ (j : Int) < (Ky.length : Int) := by omega
                  have hbz := HB9.out _ hb
                  go_wp2_with fail
                  go_roundw
                  case rel => exact ⟨k + 1, by omega, by go_num, by rw [HNX.out]; go_num, hbz⟩
                  case measure => simp [intOf]; omega
    · have hkl : k = h.length := by omega
      subst hkl
      have HSUM : Hid (keyN h h.length = leftN F (fun x => (F x).isSome)) := Lib.hid (by rw [left_start]; exact keys_sum HC.out HWI.out)
      obtain ⟨n5, n4, n3, n6⟩ := HQ.out _ hb
      have hM := HM.out _ hb
      have hnn : ¬ (h.length : Int) < (h.length : Int) := by omega
      have hkb := hkn
      rw [HSUM.out] at hkn ⊢
      go_wp2_with (first | (at_range; refine wpList_rangeI _ rfl _ 33 rfl 3 30 keyI mapIS _ _ _ _ rfl hM ?_; intro w0 hR0 hg0 hs0) | go_in)
      try go_frame
      have hpr := hb.size
      have hb0 := hb.grown hg0 hb.size (fun j hj => by cases hj)
      generalize wr.heap.size = pr at *
      clear n5 n4 n3 n6 hM hg0 hs0 hb hkb
      go_loopw [5] (fun kv wx => ∃ (left : Int → Bool) (cnt : Nat), kv = .int .i64 ((leftN F left : Nat) : Int) ∧ leftN F left ≤ 64 * h.length ∧ RangeI eS Try.prog 3 wx bm pr mm F left cnt ∧ Below w4.heap.size w4 wx) (fun _ wx => wx.rangeLeft bm pr)
      case atStart => exact ⟨_, _, rfl, hkn, hR0, hb0⟩
      case round =>
        clear hR0 hb0
        obtain ⟨left, cnt, rfl, hle, hR, hb⟩ := hrel
        go_wp2_with (first | (at_next; refine wpList_nextI _ rfl _ rfl 3 keyI eS_inj _ _ _ _ _ _ rfl hR ?_ ?_) | go_in)
        · intro hc0 hl0
          have hz := left_end F hl0
          rw [hz]
          have hwz := HW.out _ hb
          go_wp2_with fail
          go_ret
          exact ⟨rfl, hwz⟩
        · intro x u w1 cnt1 hx hlx hfu hR1 hlt1 hg1 hs1 hen
          have hst := left_step HC.out HWI.out hlx hfu
          obtain ⟨n2, hn2e⟩ : ∃ n2, n2 = leftN F (fun y => left y && !decide (y = x)) := ⟨_, rfl⟩
          rw [← hn2e] at hst
          have HN2 := Lib.hid hn2e
          clear hn2e
          have hu := HAS.out x
          rw [hfu] at hu
          have hu : IsSet u := hu
          have CN := Lib.hid (fun wx => scount_any u wx hu)
          have hb1 := hb.grown hg1 hb.size (fun j hj => by cases hj; exact hpr)
          have hle2 := hR.left_eq
          clear hR hb hg1 hs1 hlx hfu hx hu
          change Sem.run _ _ _ = Result.ok (Value.tuple #[.int .i64 x, .int .u64 (u : Int)]) _ at hen
          simp only [eS]
          generalize leftN F left = n1 at *
          have HST := Lib.hid hst
          generalize (lst u).length = n3 at *
          have hn2 : n2 ≤ 64 * h.length := by have := HST.out; omega
          clear hst
          go_wp2_with fail
          refine (CN.out _).mono ?_
          rintro e wq ⟨rfl, rfl⟩
          have hsub : (n1 : Int) - (n3 : Int) = (n2 : Int) := by have := HST.out; omega
          go_wp2_with fail
          go_roundw
          case rel => exact ⟨_, _, by rw [← HN2.out], by rw [← HN2.out]; exact hn2, hR1, hb1⟩
          case measure => rw [hR1.left_eq, hle2]; exact hlt1
end Go.Proofs.Ytflalehpdngklaa
