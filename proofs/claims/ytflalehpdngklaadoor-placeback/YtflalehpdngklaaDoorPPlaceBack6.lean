/- Walks and plain facts that the proof of the statement PlaceBack uses, joined: OrdL PlaN PlaP LeaI LeaJ PlaO. Conditions: each theorem's own. -/
import Derived.Deep.RegionHeld
import Derived.Deep.CutRange
import Derived.Deep.MidRow
import Derived.Test.YtflalehpdngklaaDoorPPlaceBack2
import Derived.Test.YtflalehpdngklaaDoorPPlaceBack3
import Derived.Test.YtflalehpdngklaaDoorPPlaceBack4
import Derived.Test.YtflalehpdngklaaDoorPPlaceBack5
namespace Go.Proofs.YtflalehpdngklaaDoor
set_option maxRecDepth 100000
open Go.RowKit

theorem takeQ {P : Program} {ops : Array Oper} {Q : Exit → Act → World → Prop} {md : Region.Mode} {S : World → Prop} (d : Option Tmp) {i : Nat} {oi : Oper} {v : Value} {fuel : Nat} {listed : Array Bool} {a : Act} {w : World} (hi : ops[i]? = some oi) (hd : oi.dst = d)
    (hs : Region.noSelect ops = true) (hf : Region.free md ops listed i = true) (hr : (Region.ready md ops listed).contains i = true)
    (hQ : ∀ c a w, Q (.panic c) (a.put oi.dst v) w → Q (.panic c) a w) (hy : YieldsIf P ops S oi v a) (hS : S w)
    (h : wpAnyH P md ops Q S fuel (listed.setIfInBounds i true) (a.put d v) w) : wpAnyH P md ops Q S (fuel + 1) listed a w := by
  subst hd; exact wpAnyH_take hi hs hf hr hQ hy hS h
set_option maxHeartbeats 16000000 in
theorem of_done (va : Value) (h : List TxnV) (w : World) (hT : Txns w va h) (hok : ∀ t ∈ h, t.ok) (hsh : Short h) (hc : checkI h = 0) :
    Calls Tryd.prog 7 #[va] w fun e w' => (∃ B, e = .returned (.tuple #[.pointer (some ⟨B, 0, none⟩), .int .i64 0]) ∧ w.heap.size ≤ B ∧ OrdIs w' B (B + 2) h) ∧ Below w.heap.size w w' := by
  obtain ⟨ao, cap, rfl, hal⟩ := hT.form
  obtain ⟨hlen, hops, hW, hks⟩ := check_zero hc
  have hb0 := box_below w (.cells #[.slice ao h.length cap] 23)
  have CH := Lib.hid (hcheck_any _ h _ (hT.below hb0) hok hsh)
  rw [hc] at CH
  have CW := Lib.hid (fun wx (hx : Below w.heap.size w wx) => hwrites_any _ h wx (hT.below hx) hok hks (by omega) (by omega))
  have HT := Lib.hid (fun wx (hx : Below w.heap.size w wx) => hT.below hx)
  have HOK := Lib.hid hok
  have HKS := Lib.hid hks
  have HW := Lib.hid hW
  have HOPS := Lib.hid hops
  obtain ⟨i1, hi1, hza1, hzb1, hzc1⟩ := info_parts infoLI
  obtain ⟨i2, hi2, hza2, hzb2, hzc2⟩ := info_parts infoLR
  have hA0 : (w.alloc (.cells #[.slice ao h.length cap] 23)).cell? ⟨w.heap.size, 0, none⟩ = some (.slice ao h.length cap) := by rw [cell_of_row _ _ _ _ _ _ (heap_alloc_new w _)]; rfl
  clear hT hok hsh hks hW hc hops
  go_enter Tryd.func7, Tryd.ntmps7
  go_wp2_with fail
  refine (CH.out).mono ?_
  rintro e w1 ⟨rfl, hb1⟩
  have hA1 := (hb1.cell (p := ⟨w.heap.size, 0, none⟩) (block_lt hA0)).trans hA0
  have hb2 := below_then hb0 hb1
  clear CH hb1 hb0 hA0
  go_wp2_with fail
  refine (CW.out _ hb2).mono ?_
  rintro e w2 ⟨hb3, ⟨hno, _⟩ | ⟨_, bm, m, rfl, hbm, hM⟩⟩
  · exact absurd hno (by rw [HW.out]; simp)
  have hA2 := (hb3.cell (p := ⟨w.heap.size, 0, none⟩) (block_lt hA1)).trans hA1
  have hb4 := below_then hb2 hb3
  clear CW hb3 hb2 hA1
  have hlt := block_lt hA2
  simp only at hlt
  have hO3 := (OrdAt.made w2 (h.length : Int) 67 rfl rfl).alloc (.cells #[.pointer (some ⟨w2.heap.size, 0, none⟩)] 30)
  have hb3 := ((Below.refl w2.heap.size w2).alloc (Nat.le_refl _) (.cells ((Tryd.zeroCells67.setIfInBounds 0 (.int .i64 h.length)).setIfInBounds 196 (.bool true)) 67)).alloc (by simp) (.cells #[.pointer (some ⟨w2.heap.size, 0, none⟩)] 30)
  have hA3 := (hb3.cell (p := ⟨w.heap.size, 0, none⟩) hlt).trans hA2
  have hC3 : ((w2.alloc (.cells ((Tryd.zeroCells67.setIfInBounds 0 (.int .i64 h.length)).setIfInBounds 196 (.bool true)) 67)).alloc (.cells #[.pointer (some ⟨w2.heap.size, 0, none⟩)] 30)).cell? ⟨w2.heap.size + 1, 0, none⟩ = some (.pointer (some ⟨w2.heap.size, 0, none⟩)) := by
    rw [cell_of_row _ _ _ _ _ _ (heap_alloc2_new w2 _ _)]; rfl
  have hs3 : w2.heap.size + 2 ≤ ((w2.alloc (.cells ((Tryd.zeroCells67.setIfInBounds 0 (.int .i64 h.length)).setIfInBounds 196 (.bool true)) 67)).alloc (.cells #[.pointer (some ⟨w2.heap.size, 0, none⟩)] 30)).heap.size := by simp
  go_wp2_with fail
  generalize ((w2.alloc (.cells ((Tryd.zeroCells67.setIfInBounds 0 (.int .i64 h.length)).setIfInBounds 196 (.bool true)) 67)).alloc (.cells #[.pointer (some ⟨w2.heap.size, 0, none⟩)] 30)) = w3 at *
  generalize (Tryd.zeroCells67.setIfInBounds 0 (.int .i64 h.length)).setIfInBounds 196 (.bool true) = Z at *
  go_loopw [26] (fun i wr => ∃ (k : Nat) (vk vr : Value) (sd : Bool) (K : List KRow) (R : List RRow), k ≤ h.length ∧ i = .int .i64 k ∧ K.map (·.2) = keysTo h k ∧ R.map (·.2) = readsTo h k ∧ sd = soundTo h k ∧ OrdAt wr w2.heap.size h.length noR noR noR (.map none) vk vr sd ∧
      wr.cell? ⟨w2.heap.size + 1, 0, none⟩ = some (.pointer (some ⟨w2.heap.size, 0, none⟩)) ∧ OfR (w2.heap.size + 2) wr vk vr K R ∧ Below w2.heap.size w2 wr ∧ w2.heap.size + 2 ≤ wr.heap.size) (fun i _ => h.length - (intOf i).toNat)
  case atStart => exact ⟨0, _, _, _, [], [], by omega, rfl, rfl, rfl, rfl, hO3, hC3, OfR.nil _ _, hb3, hs3⟩
  case round =>
    clear hO3 hC3 hb3 hs3 hA3
    obtain ⟨k, vk, vr, sd, K, R, hk, rfl, hK, hR, hsd, hO, hC, hF, hb, hsz⟩ := hrel
    have HK := Lib.hid (And.intro hK (And.intro hR hsd))
    clear hK hR hsd
    by_cases hlk : k < h.length
    · have hki : (k : Int) < (h.length : Int) := by omega
      have hbw := below_then hb4 hb
      obtain ⟨g, o, hao, c0, c1, c2, c3⟩ := (HT.out _ hbw).at hlk
      cases hao
      have hOps := (HT.out _ hbw).ops hlk
      have HOPF := Lib.hid (fun wx (hx : Below w2.heap.size w2 wx) => (HT.out wx (below_then hb4 hx)).ops hlk)
      generalize h[k].s = ts at *
      generalize h[k].b = tb at *
      generalize h[k].c = tc at *
      have HLK : Hid (opsAt h k = h[k].l) := Lib.hid (opsAt_eq hlk)
      have hll : h[k].l.length ≤ 1024 := by
        have h1 := opsN_take h k hlk
        have h2 := opsN_le h (k + 1)
        have h3 := HOPS.out
        omega
      have HOL := Lib.hid (HOK.out _ (List.getElem_mem hlk)).2
      have HKL := Lib.hid (HKS.out _ (List.getElem_mem hlk))
      generalize h[k].v = tv at *
      generalize h[k].l = l at *
      obtain ⟨a2, cap2, rfl, hl2⟩ := hOps.form
      obtain ⟨b0, b1, b2, b3⟩ := txnBlock wr (.int .i64 ts) (.int .i64 tb) (.int .i64 tc) (.slice a2 l.length cap2) 29
      have hbx := (Below.refl wr.heap.size wr).alloc (Nat.le_refl _) (.cells #[.int .i64 ts, .int .i64 tb, .int .i64 tc, .slice a2 l.length cap2] 29)
      have hOps1 := hOps.below hbx
      have hO1 := hO.below hbx hO.lt
      have hC1 := (hbx.cell (p := ⟨w2.heap.size + 1, 0, none⟩) (block_lt hC)).trans hC
      have hF1 := hF.below hbx
      have hb1 := hb.trans (hbx.mono hb.size)
      have hs1 : w2.heap.size + 2 ≤ (wr.alloc (.cells #[.int .i64 ts, .int .i64 tb, .int .i64 tc, .slice a2 l.length cap2] 29)).heap.size := by simp; omega
      have hgx : w2.heap.size + 2 ≤ wr.heap.size := hsz
      have hX1 := heap_alloc_new wr (.cells #[.int .i64 ts, .int .i64 tb, .int .i64 tc, .slice a2 l.length cap2] 29)
      have hX : OfS w2 wr.heap.size ts tb tc (.slice a2 l.length cap2) h.length vk vr sd K R (wr.alloc (.cells #[.int .i64 ts, .int .i64 tb, .int .i64 tc, .slice a2 l.length cap2] 29)) := ⟨hO1, ⟨hC1, b0, b1, b2, b3⟩, hF1, hb1, hs1, ⟨_, hX1⟩, hgx⟩
      have hTf := fun wx (hx : Below w2.heap.size w2 wx) => HT.out wx (below_then hb4 hx)
      go_upto_region 9 with fail
      clear hOps hO hC hF hb hbx hbw hsz c0 c1 c2 c3 hO1 hC1 hF1 hb1 hs1 hX1 b0 b1 b2 b3
      generalize wr.alloc (.cells #[.int .i64 ts, .int .i64 tb, .int .i64 tc, .slice a2 l.length cap2] 29) = w4 at *
      generalize wr.heap.size = gx at *
      clear wr
      have hKl : K.length ≤ 64 := by have := congrArg List.length HK.out.1; simp [keysTo] at this; omega
      have hRl : R.length ≤ 64 := by have := congrArg List.length HK.out.2.1; simp [readsTo] at this; omega
      obtain ⟨aK, cK, rfl⟩ := owns_form hX.r.kr
      obtain ⟨aR, cR, rfl⟩ := owns_form hX.r.rr
      go_cut [41] from 31 to 41 (fun u wx => ∃ (v5 : Value) (vx : Value), u = .pointer (some ⟨w2.heap.size, 194, none⟩) ∧ OfS w2 gx ts tb tc (.slice a2 l.length cap2) h.length v5 (.slice aR R.length cR) sd (K ++ [(vx, keysOf l)]) R wx)
      case first =>
        have kd := (Below.refl w4.heap.size w4).drew
        have CK : Hid (∀ wx, Below w4.heap.size w4 wx → Calls Tryd.prog 22 #[.agg #[.int .i64 ts, .int .i64 tb, .int .i64 tc, .slice a2 l.length cap2]] wx fun e w' => ∃ v, e = .returned v ∧ w'.ownsRow (w2.heap.size + 2) 3 1 v (keysOf l).length ((keysOf l).map (Value.int .i64)) ∧ Below wx.heap.size wx w') := Lib.hid (fun wx hx => (okeys_any ts tb tc _ l wx (hOps1.below hx) HOL.out (by omega)).mono (fun e w' ⟨v, out, he, ho, hr, _, hbb⟩ => by
          obtain rfl := hr.eq (refWrites_rise HKL.out)
          refine ⟨v, he, own_base' ?_ (show w2.heap.size + 2 ≤ wx.heap.size by have h1 := hx.size; have h2 := hX.z; omega), hbb⟩
          unfold keysOf
          rw [List.length_map, List.map_map]
          exact ho))
        have HS : Hid (∀ wx, Below w4.heap.size w4 wx → SB (w2.heap.size + 1) w2.heap.size gx ts tb tc (.slice a2 l.length cap2) wx) := Lib.hid (fun wx hx => hX.s.below hx)
        have hc0 := hX.o.cK
        have HCL : Hid (∀ wx, Below w4.heap.size w4 wx → wx.cell? ⟨w2.heap.size, 194, none⟩ = some (.slice aK K.length cK)) := Lib.hid (fun wx hx => (hx.cell (p := ⟨w2.heap.size, 194, none⟩) (block_lt hc0)).trans hc0)
        have HCA : Hid (∀ wx, Below w4.heap.size w4 wx → ∀ o, (wx.alloc o).cell? ⟨w2.heap.size, 194, none⟩ = some (.slice aK K.length cK)) := Lib.hid (fun wx hx o => HCL.out _ (hx.alloc hx.size o))
        have HRO : Hid (∀ wx, Below w4.heap.size w4 wx → wx.ownsRow (w2.heap.size + 2) 36 1 (.slice aK K.length cK) K.length (K.map (·.1))) := Lib.hid (fun wx hx => owns_below hX.r.kr hx)
        have HSZ : Hid (∀ wx (o : Obj), Below w4.heap.size w4 wx → w2.heap.size + 2 ≤ (wx.alloc o).heap.size) := Lib.hid (fun wx o hx => by have h1 := hx.size; have h2 := hX.z; simp; omega)
        have HFIN := Lib.hid (fun wx w5 v v5 hx => hX.addK (wx := wx) (w5 := w5) (v := v) (v5 := v5) (t := 36) (l := keysOf l) hx)
        have n3 : Hid (K.length + 1 ≤ maxLen) := Lib.hid (by unfold maxLen; omega)
        have n4 : Hid ((K.length + 1) * 24 ≤ 140737488355328) := Lib.hid (by omega)
        refine wp_region_held_drew (S := SB (w2.heap.size + 1) w2.heap.size gx ts tb tc (.slice a2 l.length cap2)) (by kernel_rfl) hX.s.drew (fun hS0 => ?_)
        refine takeQ (some 31) (i := 0) (v := ?v1) rfl rfl (by kernel_rfl) (by kernel_rfl) (by kernel_rfl) (fun _ _ _ h => h) (Or.inl ⟨by rfl, ?h1⟩) hS0 ?r1
        case h1 => (intro w hw; obtain ⟨q0, q1, q2, q3, q4⟩ := hw; go_simp; try (with_reducible rfl))
        try simp only [Act.put, List.setIfInBounds_toArray, List.set_cons_zero, List.set_cons_succ]
        refine takeQ (some 32) (i := 1) (v := ?v2) rfl rfl (by kernel_rfl) (by kernel_rfl) (by kernel_rfl) (fun _ _ _ h => h) (Or.inl ⟨by rfl, ?h2⟩) hS0 ?r2
        case h2 => (intro w hw; obtain ⟨q0, q1, q2, q3, q4⟩ := hw; go_simp; try (with_reducible rfl))
        try simp only [Act.put, List.setIfInBounds_toArray, List.set_cons_zero, List.set_cons_succ]
        refine takeQ (some 36) (i := 5) (v := ?v3) rfl rfl (by kernel_rfl) (by kernel_rfl) (by kernel_rfl) (fun _ _ _ h => h) (Or.inl ⟨by rfl, ?h3⟩) hS0 ?r3
        case h3 => (intro w hw; obtain ⟨q0, q1, q2, q3, q4⟩ := hw; go_simp; try (with_reducible rfl))
        try simp only [Act.put, List.setIfInBounds_toArray, List.set_cons_zero, List.set_cons_succ]
        refine takeQ (some 33) (i := 2) (v := ?v4) rfl rfl (by kernel_rfl) (by kernel_rfl) (by kernel_rfl) (fun _ _ _ h => h) (Or.inl ⟨by rfl, ?h4⟩) hS0 ?r4
        case h4 => (intro w hw; obtain ⟨q0, q1, q2, q3, q4⟩ := hw; go_simp; try (with_reducible rfl))
        try simp only [Act.put, List.setIfInBounds_toArray, List.set_cons_zero, List.set_cons_succ]
        refine takeQ (some 34) (i := 3) (v := ?v5) rfl rfl (by kernel_rfl) (by kernel_rfl) (by kernel_rfl) (fun _ _ _ h => h) (Or.inl ⟨by rfl, ?h5⟩) hS0 ?r5
        case h5 => (intro w hw; obtain ⟨q0, q1, q2, q3, q4⟩ := hw; go_simp; try (with_reducible rfl))
        try simp only [Act.put, List.setIfInBounds_toArray, List.set_cons_zero, List.set_cons_succ]
        refine wpAnyH_ready (rs := [4, 6]) (by kernel_rfl) (by simp) ?_
        refine AllReadyH.cons rfl ?_ (AllReadyH.cons rfl ?_ AllReadyH.nil)
        · intro KK hKK
          go_simp
          refine hKK.out _ _ hS0 (fun _ => ?_)
          clear hKK KK
          refine wpAnyH_ready (rs := [6]) (by kernel_rfl) (by simp) ?_
          refine AllReadyH.cons rfl ?_ AllReadyH.nil
          intro KK hKK
          go_simp
          refine (CK.out _ kd).mono ?_
          rintro e wx ⟨vx, rfl, hox, hbx⟩
          obtain ⟨ax, cx, hvx⟩ := owns_form hox
          subst hvx
          show KK _ _
          have kk := below_then kd hbx
          have hS1 := HS.out _ kk
          have hcw := HCL.out _ kk
          refine hKK.out _ _ hS1 (fun _ => ?_)
          clear hKK KK
          refine wpAnyH_ready (rs := [7]) (by kernel_rfl) (by simp) ?_
          refine AllReadyH.cons rfl ?_ AllReadyH.nil
          intro KK hKK
          go_simp
          have hS2 := hS1.alloc (.cells #[.slice ax (keysOf l).length cx] 36)
          have hcw := HCA.out _ kk (.cells #[.slice ax (keysOf l).length cx] 36)
          refine hKK.out _ _ hS2 (fun _ => ?_)
          clear hKK KK
          refine wpAnyH_ready (rs := [8]) (by kernel_rfl) (by simp) ?_
          refine AllReadyH.cons rfl ?_ AllReadyH.nil
          intro KK hKK
          refine step_app _ rfl (.tmp 35) (.tmp 38) 37 rfl (w2.heap.size + 2) 36 i1 (.slice none 0 0) 1 24 Tryd.underlying37 hi1 hza1 hzb1 hzc1 rfl (by decide) (.slice aK K.length cK) K.length (K.map (·.1)) (by simp [Act.eval]) ((HRO.out _ kk).alloc _) ⟨_, 0, none⟩ 1 1 [.slice ax (keysOf l).length cx] (by rfl) rfl (cell_one_new _ _ _) (by intro u hu; simp at hu; subst hu; rfl) n3.out n4.out (HSZ.out _ _ kk) ?_
          intro v5 w5 hown5 hg5
          obtain ⟨a5, c5, hv5⟩ := owns_form hown5
          subst hv5
          obtain ⟨hfin, hS5, hfz, hcz⟩ := HFIN.out _ _ _ _ kk hox hown5 hg5
          show KK _ _
          refine hKK.out _ _ hS5 (fun _ => ?_)
          clear hKK KK
          refine takeQ (some 40) (i := 9) (v := ?v6) rfl rfl (by kernel_rfl) (by kernel_rfl) (by kernel_rfl) (fun _ _ _ h => h) (Or.inl ⟨by rfl, ?h6⟩) hS5 ?r6
          case h6 => (intro w hw; obtain ⟨q0, q1, q2, q3, q4⟩ := hw; go_simp; try (with_reducible rfl))
          try simp only [Act.put, List.setIfInBounds_toArray]
          refine takeQ (some 41) (i := 10) (v := ?v7) rfl rfl (by kernel_rfl) (by kernel_rfl) (by kernel_rfl) (fun _ _ _ h => h) (Or.inl ⟨by rfl, ?h7⟩) hS5 ?r7
          case h7 => (intro w hw; obtain ⟨q0, q1, q2, q3, q4⟩ := hw; go_simp; try (with_reducible rfl))
          try simp only [Act.put]
          refine wpAnyH_ready (rs := [11]) (by kernel_rfl) (by simp) ?_
          refine AllReadyH.cons rfl ?_ AllReadyH.nil
          intro KK hKK
          go_simp
          refine hKK.out _ _ hfin.s (fun _ => ?_)
          clear hKK KK
          refine wpAnyH_done (by kernel_rfl) ?_ _
          go_wp2_with fail
          go_meet
          exact ⟨_, _, rfl, hfin⟩
        · intro KK hKK
          go_simp
          refine (CK.out _ kd).mono ?_
          rintro e wx ⟨vx, rfl, hox, hbx⟩
          obtain ⟨ax, cx, hvx⟩ := owns_form hox
          subst hvx
          show KK _ _
          have kk := below_then kd hbx
          have hS1 := HS.out _ kk
          have hcw := HCL.out _ kk
          refine hKK.out _ _ hS1 (fun _ => ?_)
          clear hKK KK
          refine wpAnyH_ready (rs := [4, 7]) (by kernel_rfl) (by simp) ?_
          refine AllReadyH.cons rfl ?_ (AllReadyH.cons rfl ?_ AllReadyH.nil)
          · intro KK hKK
            go_simp
            refine hKK.out _ _ hS1 (fun _ => ?_)
            clear hKK KK
            refine wpAnyH_ready (rs := [7]) (by kernel_rfl) (by simp) ?_
            refine AllReadyH.cons rfl ?_ AllReadyH.nil
            intro KK hKK
            go_simp
            have hS2 := hS1.alloc (.cells #[.slice ax (keysOf l).length cx] 36)
            have hcw := HCA.out _ kk (.cells #[.slice ax (keysOf l).length cx] 36)
            refine hKK.out _ _ hS2 (fun _ => ?_)
            clear hKK KK
            refine wpAnyH_ready (rs := [8]) (by kernel_rfl) (by simp) ?_
            refine AllReadyH.cons rfl ?_ AllReadyH.nil
            intro KK hKK
            refine step_app _ rfl (.tmp 35) (.tmp 38) 37 rfl (w2.heap.size + 2) 36 i1 (.slice none 0 0) 1 24 Tryd.underlying37 hi1 hza1 hzb1 hzc1 rfl (by decide) (.slice aK K.length cK) K.length (K.map (·.1)) (by simp [Act.eval]) ((HRO.out _ kk).alloc _) ⟨_, 0, none⟩ 1 1 [.slice ax (keysOf l).length cx] (by rfl) rfl (cell_one_new _ _ _) (by intro u hu; simp at hu; subst hu; rfl) n3.out n4.out (HSZ.out _ _ kk) ?_
            intro v5 w5 hown5 hg5
            obtain ⟨a5, c5, hv5⟩ := owns_form hown5
            subst hv5
            obtain ⟨hfin, hS5, hfz, hcz⟩ := HFIN.out _ _ _ _ kk hox hown5 hg5
            show KK _ _
            refine hKK.out _ _ hS5 (fun _ => ?_)
            clear hKK KK
            refine takeQ (some 40) (i := 9) (v := ?v8) rfl rfl (by kernel_rfl) (by kernel_rfl) (by kernel_rfl) (fun _ _ _ h => h) (Or.inl ⟨by rfl, ?h8⟩) hS5 ?r8
            case h8 => (intro w hw; obtain ⟨q0, q1, q2, q3, q4⟩ := hw; go_simp; try (with_reducible rfl))
            try simp only [Act.put, List.setIfInBounds_toArray]
            refine takeQ (some 41) (i := 10) (v := ?v9) rfl rfl (by kernel_rfl) (by kernel_rfl) (by kernel_rfl) (fun _ _ _ h => h) (Or.inl ⟨by rfl, ?h9⟩) hS5 ?r9
            case h9 => (intro w hw; obtain ⟨q0, q1, q2, q3, q4⟩ := hw; go_simp; try (with_reducible rfl))
            try simp only [Act.put]
            refine wpAnyH_ready (rs := [11]) (by kernel_rfl) (by simp) ?_
            refine AllReadyH.cons rfl ?_ AllReadyH.nil
            intro KK hKK
            go_simp
            refine hKK.out _ _ hfin.s (fun _ => ?_)
            clear hKK KK
            refine wpAnyH_done (by kernel_rfl) ?_ _
            go_wp2_with fail
            go_meet
            exact ⟨_, _, rfl, hfin⟩
          · intro KK hKK
            go_simp
            have hS2 := hS1.alloc (.cells #[.slice ax (keysOf l).length cx] 36)
            have hcw := HCA.out _ kk (.cells #[.slice ax (keysOf l).length cx] 36)
            refine hKK.out _ _ hS2 (fun _ => ?_)
            clear hKK KK
            refine wpAnyH_ready (rs := [4]) (by kernel_rfl) (by simp) ?_
            refine AllReadyH.cons rfl ?_ AllReadyH.nil
            intro KK hKK
            go_simp
            refine hKK.out _ _ hS2 (fun _ => ?_)
            clear hKK KK
            refine wpAnyH_ready (rs := [8]) (by kernel_rfl) (by simp) ?_
            refine AllReadyH.cons rfl ?_ AllReadyH.nil
            intro KK hKK
            refine step_app _ rfl (.tmp 35) (.tmp 38) 37 rfl (w2.heap.size + 2) 36 i1 (.slice none 0 0) 1 24 Tryd.underlying37 hi1 hza1 hzb1 hzc1 rfl (by decide) (.slice aK K.length cK) K.length (K.map (·.1)) (by simp [Act.eval]) ((HRO.out _ kk).alloc _) ⟨_, 0, none⟩ 1 1 [.slice ax (keysOf l).length cx] (by rfl) rfl (cell_one_new _ _ _) (by intro u hu; simp at hu; subst hu; rfl) n3.out n4.out (HSZ.out _ _ kk) ?_
            intro v5 w5 hown5 hg5
            obtain ⟨a5, c5, hv5⟩ := owns_form hown5
            subst hv5
            obtain ⟨hfin, hS5, hfz, hcz⟩ := HFIN.out _ _ _ _ kk hox hown5 hg5
            show KK _ _
            refine hKK.out _ _ hS5 (fun _ => ?_)
            clear hKK KK
            refine takeQ (some 40) (i := 9) (v := ?v10) rfl rfl (by kernel_rfl) (by kernel_rfl) (by kernel_rfl) (fun _ _ _ h => h) (Or.inl ⟨by rfl, ?h10⟩) hS5 ?r10
            case h10 => (intro w hw; obtain ⟨q0, q1, q2, q3, q4⟩ := hw; go_simp; try (with_reducible rfl))
            try simp only [Act.put, List.setIfInBounds_toArray]
            refine takeQ (some 41) (i := 10) (v := ?v11) rfl rfl (by kernel_rfl) (by kernel_rfl) (by kernel_rfl) (fun _ _ _ h => h) (Or.inl ⟨by rfl, ?h11⟩) hS5 ?r11
            case h11 => (intro w hw; obtain ⟨q0, q1, q2, q3, q4⟩ := hw; go_simp; try (with_reducible rfl))
            try simp only [Act.put]
            refine wpAnyH_ready (rs := [11]) (by kernel_rfl) (by simp) ?_
            refine AllReadyH.cons rfl ?_ AllReadyH.nil
            intro KK hKK
            go_simp
            refine hKK.out _ _ hfin.s (fun _ => ?_)
            clear hKK KK
            refine wpAnyH_done (by kernel_rfl) ?_ _
            go_wp2_with fail
            go_meet
            exact ⟨_, _, rfl, hfin⟩
      case rest =>
        obtain ⟨vk5, vx, rfl, hX5⟩ := hcut
        clear hX hOps1
        have hX := hX5
        clear hX5
        have HRD : Hid (∃ rd, rd = rdFr (wrTo h h.length) (k : Int) (refReads l)) := Lib.hid ⟨_, rfl⟩
        obtain ⟨rd, hrd⟩ := HRD.out
        have HRD2 := Lib.hid hrd
        clear hrd HRD
        go_upto_region 10 with fail
        go_cut [54] from 42 to 54 (fun u wx => ∃ (v5 : Value) (vy : Value), u = .pointer (some ⟨w2.heap.size, 195, none⟩) ∧ OfS w2 gx ts tb tc (.slice a2 l.length cap2) h.length vk5 v5 sd (K ++ [(vx, keysOf l)]) (R ++ [(vy, rd)]) wx)
        case first =>
          have hOps1 := HOPF.out wc hX.b
          have hMc := hM.below hX.b
          have kd := (Below.refl wc.heap.size wc).drew
          have CK : Hid (∀ wx, Below wc.heap.size wc wx → Calls Tryd.prog 23 #[.int .i64 k, .agg #[.int .i64 ts, .int .i64 tb, .int .i64 tc, .slice a2 l.length cap2], .map (some bm)] wx fun e w' => ∃ v, e = .returned v ∧ w'.ownsRow (w2.heap.size + 2) 77 2 v rd.length (frV rd) ∧ Below wx.heap.size wx w') := Lib.hid (fun wx hx => (oreads_any (k : Int) ts tb tc _ l (wrTo h h.length) bm _ _ wx (hOps1.below hx) HOL.out (by omega) (hMc.below hx)).mono (fun e w' ⟨v, out, he, ho, hr, _, hbb⟩ => by
            obtain rfl := hr.eq (refReads_rise HKL.out)
            rw [← HRD2.out] at ho
            exact ⟨v, he, own_base' ho (show w2.heap.size + 2 ≤ wx.heap.size by have h1 := hx.size; have h2 := hX.z; omega), hbb⟩))
          have HS : Hid (∀ wx, Below wc.heap.size wc wx → SB (w2.heap.size + 1) w2.heap.size gx ts tb tc (.slice a2 l.length cap2) wx) := Lib.hid (fun wx hx => hX.s.below hx)
          have hc0 := hX.o.cR
          have HCL : Hid (∀ wx, Below wc.heap.size wc wx → wx.cell? ⟨w2.heap.size, 195, none⟩ = some (.slice aR R.length cR)) := Lib.hid (fun wx hx => (hx.cell (p := ⟨w2.heap.size, 195, none⟩) (block_lt hc0)).trans hc0)
          have HCA : Hid (∀ wx, Below wc.heap.size wc wx → ∀ o, (wx.alloc o).cell? ⟨w2.heap.size, 195, none⟩ = some (.slice aR R.length cR)) := Lib.hid (fun wx hx o => HCL.out _ (hx.alloc hx.size o))
          have HRO : Hid (∀ wx, Below wc.heap.size wc wx → wx.ownsRow (w2.heap.size + 2) 69 1 (.slice aR R.length cR) R.length (R.map (·.1))) := Lib.hid (fun wx hx => owns_below hX.r.rr hx)
          have HSZ : Hid (∀ wx (o : Obj), Below wc.heap.size wc wx → w2.heap.size + 2 ≤ (wx.alloc o).heap.size) := Lib.hid (fun wx o hx => by have h1 := hx.size; have h2 := hX.z; simp; omega)
          have HFIN := Lib.hid (fun wx w5 v v5 hx => hX.addR (wx := wx) (w5 := w5) (v := v) (v5 := v5) (t := 69) (l := rd) hx)
          have n3 : Hid (R.length + 1 ≤ maxLen) := Lib.hid (by unfold maxLen; omega)
          have n4 : Hid ((R.length + 1) * 24 ≤ 140737488355328) := Lib.hid (by omega)
          refine wp_region_held_drew (S := SB (w2.heap.size + 1) w2.heap.size gx ts tb tc (.slice a2 l.length cap2)) (by kernel_rfl) hX.s.drew (fun hS0 => ?_)
          refine takeQ (some 42) (i := 0) (v := ?v101) rfl rfl (by kernel_rfl) (by kernel_rfl) (by kernel_rfl) (fun _ _ _ h => h) (Or.inl ⟨by rfl, ?h101⟩) hS0 ?r101
          case h101 => (intro w hw; obtain ⟨q0, q1, q2, q3, q4⟩ := hw; go_simp; try (with_reducible rfl))
          try simp only [Act.put, List.setIfInBounds_toArray, List.set_cons_zero, List.set_cons_succ]
          refine takeQ (some 43) (i := 1) (v := ?v102) rfl rfl (by kernel_rfl) (by kernel_rfl) (by kernel_rfl) (fun _ _ _ h => h) (Or.inl ⟨by rfl, ?h102⟩) hS0 ?r102
          case h102 => (intro w hw; obtain ⟨q0, q1, q2, q3, q4⟩ := hw; go_simp; try (with_reducible rfl))
          try simp only [Act.put, List.setIfInBounds_toArray, List.set_cons_zero, List.set_cons_succ]
          refine takeQ (some 47) (i := 5) (v := ?v103) rfl rfl (by kernel_rfl) (by kernel_rfl) (by kernel_rfl) (fun _ _ _ h => h) (Or.inl ⟨by rfl, ?h103⟩) hS0 ?r103
          case h103 => (intro w hw; obtain ⟨q0, q1, q2, q3, q4⟩ := hw; go_simp; try (with_reducible rfl))
          try simp only [Act.put, List.setIfInBounds_toArray, List.set_cons_zero, List.set_cons_succ]
          refine takeQ (some 48) (i := 6) (v := ?v104) rfl rfl (by kernel_rfl) (by kernel_rfl) (by kernel_rfl) (fun _ _ _ h => h) (Or.inl ⟨by rfl, ?h104⟩) hS0 ?r104
          case h104 => (intro w hw; obtain ⟨q0, q1, q2, q3, q4⟩ := hw; go_simp; try (with_reducible rfl))
          try simp only [Act.put, List.setIfInBounds_toArray, List.set_cons_zero, List.set_cons_succ]
          refine takeQ (some 49) (i := 7) (v := ?v105) rfl rfl (by kernel_rfl) (by kernel_rfl) (by kernel_rfl) (fun _ _ _ h => h) (Or.inl ⟨by rfl, ?h105⟩) hS0 ?r105
          case h105 => (intro w hw; obtain ⟨q0, q1, q2, q3, q4⟩ := hw; go_simp; try (with_reducible rfl))
          try simp only [Act.put, List.setIfInBounds_toArray, List.set_cons_zero, List.set_cons_succ]
          refine takeQ (some 44) (i := 2) (v := ?v106) rfl rfl (by kernel_rfl) (by kernel_rfl) (by kernel_rfl) (fun _ _ _ h => h) (Or.inl ⟨by rfl, ?h106⟩) hS0 ?r106
          case h106 => (intro w hw; obtain ⟨q0, q1, q2, q3, q4⟩ := hw; go_simp; try (with_reducible rfl))
          try simp only [Act.put, List.setIfInBounds_toArray, List.set_cons_zero, List.set_cons_succ]
          refine takeQ (some 45) (i := 3) (v := ?v107) rfl rfl (by kernel_rfl) (by kernel_rfl) (by kernel_rfl) (fun _ _ _ h => h) (Or.inl ⟨by rfl, ?h107⟩) hS0 ?r107
          case h107 => (intro w hw; obtain ⟨q0, q1, q2, q3, q4⟩ := hw; go_simp; try (with_reducible rfl))
          try simp only [Act.put, List.setIfInBounds_toArray, List.set_cons_zero, List.set_cons_succ]
          refine wpAnyH_ready (rs := [4, 8]) (by kernel_rfl) (by simp) ?_
          refine AllReadyH.cons rfl ?_ (AllReadyH.cons rfl ?_ AllReadyH.nil)
          · intro KK hKK
            go_simp
            refine hKK.out _ _ hS0 (fun _ => ?_)
            clear hKK KK
            refine wpAnyH_ready (rs := [8]) (by kernel_rfl) (by simp) ?_
            refine AllReadyH.cons rfl ?_ AllReadyH.nil
            intro KK hKK
            go_simp
            refine (CK.out _ kd).mono ?_
            rintro e wx ⟨vx, rfl, hox, hbx⟩
            obtain ⟨ax, cx, hvx⟩ := owns_form hox
            subst hvx
            show KK _ _
            have kk := below_then kd hbx
            have hS1 := HS.out _ kk
            have hcw := HCL.out _ kk
            refine hKK.out _ _ hS1 (fun _ => ?_)
            clear hKK KK
            refine wpAnyH_ready (rs := [9]) (by kernel_rfl) (by simp) ?_
            refine AllReadyH.cons rfl ?_ AllReadyH.nil
            intro KK hKK
            go_simp
            have hS2 := hS1.alloc (.cells #[.slice ax rd.length cx] 69)
            have hcw := HCA.out _ kk (.cells #[.slice ax rd.length cx] 69)
            refine hKK.out _ _ hS2 (fun _ => ?_)
            clear hKK KK
            refine wpAnyH_ready (rs := [10]) (by kernel_rfl) (by simp) ?_
            refine AllReadyH.cons rfl ?_ AllReadyH.nil
            intro KK hKK
            refine step_app _ rfl (.tmp 46) (.tmp 51) 65 rfl (w2.heap.size + 2) 69 i2 (.slice none 0 0) 1 24 Tryd.underlying65 hi2 hza2 hzb2 hzc2 rfl (by decide) (.slice aR R.length cR) R.length (R.map (·.1)) (by simp [Act.eval]) ((HRO.out _ kk).alloc _) ⟨_, 0, none⟩ 1 1 [.slice ax rd.length cx] (by rfl) rfl (cell_one_new _ _ _) (by intro u hu; simp at hu; subst hu; rfl) n3.out n4.out (HSZ.out _ _ kk) ?_
            intro v5 w5 hown5 hg5
            obtain ⟨a5, c5, hv5⟩ := owns_form hown5
            subst hv5
            obtain ⟨hfin, hS5, hfz, hcz⟩ := HFIN.out _ _ _ _ kk hox hown5 hg5
            show KK _ _
            refine hKK.out _ _ hS5 (fun _ => ?_)
            clear hKK KK
            refine takeQ (some 53) (i := 11) (v := ?v108) rfl rfl (by kernel_rfl) (by kernel_rfl) (by kernel_rfl) (fun _ _ _ h => h) (Or.inl ⟨by rfl, ?h108⟩) hS5 ?r108
            case h108 => (intro w hw; obtain ⟨q0, q1, q2, q3, q4⟩ := hw; go_simp; try (with_reducible rfl))
            try simp only [Act.put, List.setIfInBounds_toArray]
            refine takeQ (some 54) (i := 12) (v := ?v109) rfl rfl (by kernel_rfl) (by kernel_rfl) (by kernel_rfl) (fun _ _ _ h => h) (Or.inl ⟨by rfl, ?h109⟩) hS5 ?r109
            case h109 => (intro w hw; obtain ⟨q0, q1, q2, q3, q4⟩ := hw; go_simp; try (with_reducible rfl))
            try simp only [Act.put]
            refine wpAnyH_ready (rs := [13]) (by kernel_rfl) (by simp) ?_
            refine AllReadyH.cons rfl ?_ AllReadyH.nil
            intro KK hKK
            go_simp
            refine hKK.out _ _ hfin.s (fun _ => ?_)
            clear hKK KK
            refine wpAnyH_done (by kernel_rfl) ?_ _
            go_wp2_with fail
            go_meet
            exact ⟨_, _, rfl, hfin⟩
          · intro KK hKK
            go_simp
            refine (CK.out _ kd).mono ?_
            rintro e wx ⟨vx, rfl, hox, hbx⟩
            obtain ⟨ax, cx, hvx⟩ := owns_form hox
            subst hvx
            show KK _ _
            have kk := below_then kd hbx
            have hS1 := HS.out _ kk
            have hcw := HCL.out _ kk
            refine hKK.out _ _ hS1 (fun _ => ?_)
            clear hKK KK
            refine wpAnyH_ready (rs := [4, 9]) (by kernel_rfl) (by simp) ?_
            refine AllReadyH.cons rfl ?_ (AllReadyH.cons rfl ?_ AllReadyH.nil)
            · intro KK hKK
              go_simp
              refine hKK.out _ _ hS1 (fun _ => ?_)
              clear hKK KK
              refine wpAnyH_ready (rs := [9]) (by kernel_rfl) (by simp) ?_
              refine AllReadyH.cons rfl ?_ AllReadyH.nil
              intro KK hKK
              go_simp
              have hS2 := hS1.alloc (.cells #[.slice ax rd.length cx] 69)
              have hcw := HCA.out _ kk (.cells #[.slice ax rd.length cx] 69)
              refine hKK.out _ _ hS2 (fun _ => ?_)
              clear hKK KK
              refine wpAnyH_ready (rs := [10]) (by kernel_rfl) (by simp) ?_
              refine AllReadyH.cons rfl ?_ AllReadyH.nil
              intro KK hKK
              refine step_app _ rfl (.tmp 46) (.tmp 51) 65 rfl (w2.heap.size + 2) 69 i2 (.slice none 0 0) 1 24 Tryd.underlying65 hi2 hza2 hzb2 hzc2 rfl (by decide) (.slice aR R.length cR) R.length (R.map (·.1)) (by simp [Act.eval]) ((HRO.out _ kk).alloc _) ⟨_, 0, none⟩ 1 1 [.slice ax rd.length cx] (by rfl) rfl (cell_one_new _ _ _) (by intro u hu; simp at hu; subst hu; rfl) n3.out n4.out (HSZ.out _ _ kk) ?_
              intro v5 w5 hown5 hg5
              obtain ⟨a5, c5, hv5⟩ := owns_form hown5
              subst hv5
              obtain ⟨hfin, hS5, hfz, hcz⟩ := HFIN.out _ _ _ _ kk hox hown5 hg5
              show KK _ _
              refine hKK.out _ _ hS5 (fun _ => ?_)
              clear hKK KK
              refine takeQ (some 53) (i := 11) (v := ?v110) rfl rfl (by kernel_rfl) (by kernel_rfl) (by kernel_rfl) (fun _ _ _ h => h) (Or.inl ⟨by rfl, ?h110⟩) hS5 ?r110
              case h110 => (intro w hw; obtain ⟨q0, q1, q2, q3, q4⟩ := hw; go_simp; try (with_reducible rfl))
              try simp only [Act.put, List.setIfInBounds_toArray]
              refine takeQ (some 54) (i := 12) (v := ?v111) rfl rfl (by kernel_rfl) (by kernel_rfl) (by kernel_rfl) (fun _ _ _ h => h) (Or.inl ⟨by rfl, ?h111⟩) hS5 ?r111
              case h111 => (intro w hw; obtain ⟨q0, q1, q2, q3, q4⟩ := hw; go_simp; try (with_reducible rfl))
              try simp only [Act.put]
              refine wpAnyH_ready (rs := [13]) (by kernel_rfl) (by simp) ?_
              refine AllReadyH.cons rfl ?_ AllReadyH.nil
              intro KK hKK
              go_simp
              refine hKK.out _ _ hfin.s (fun _ => ?_)
              clear hKK KK
              refine wpAnyH_done (by kernel_rfl) ?_ _
              go_wp2_with fail
              go_meet
              exact ⟨_, _, rfl, hfin⟩
            · intro KK hKK
              go_simp
              have hS2 := hS1.alloc (.cells #[.slice ax rd.length cx] 69)
              have hcw := HCA.out _ kk (.cells #[.slice ax rd.length cx] 69)
              refine hKK.out _ _ hS2 (fun _ => ?_)
              clear hKK KK
              refine wpAnyH_ready (rs := [4]) (by kernel_rfl) (by simp) ?_
              refine AllReadyH.cons rfl ?_ AllReadyH.nil
              intro KK hKK
              go_simp
              refine hKK.out _ _ hS2 (fun _ => ?_)
              clear hKK KK
              refine wpAnyH_ready (rs := [10]) (by kernel_rfl) (by simp) ?_
              refine AllReadyH.cons rfl ?_ AllReadyH.nil
              intro KK hKK
              refine step_app _ rfl (.tmp 46) (.tmp 51) 65 rfl (w2.heap.size + 2) 69 i2 (.slice none 0 0) 1 24 Tryd.underlying65 hi2 hza2 hzb2 hzc2 rfl (by decide) (.slice aR R.length cR) R.length (R.map (·.1)) (by simp [Act.eval]) ((HRO.out _ kk).alloc _) ⟨_, 0, none⟩ 1 1 [.slice ax rd.length cx] (by rfl) rfl (cell_one_new _ _ _) (by intro u hu; simp at hu; subst hu; rfl) n3.out n4.out (HSZ.out _ _ kk) ?_
              intro v5 w5 hown5 hg5
              obtain ⟨a5, c5, hv5⟩ := owns_form hown5
              subst hv5
              obtain ⟨hfin, hS5, hfz, hcz⟩ := HFIN.out _ _ _ _ kk hox hown5 hg5
              show KK _ _
              refine hKK.out _ _ hS5 (fun _ => ?_)
              clear hKK KK
              refine takeQ (some 53) (i := 11) (v := ?v112) rfl rfl (by kernel_rfl) (by kernel_rfl) (by kernel_rfl) (fun _ _ _ h => h) (Or.inl ⟨by rfl, ?h112⟩) hS5 ?r112
              case h112 => (intro w hw; obtain ⟨q0, q1, q2, q3, q4⟩ := hw; go_simp; try (with_reducible rfl))
              try simp only [Act.put, List.setIfInBounds_toArray]
              refine takeQ (some 54) (i := 12) (v := ?v113) rfl rfl (by kernel_rfl) (by kernel_rfl) (by kernel_rfl) (fun _ _ _ h => h) (Or.inl ⟨by rfl, ?h113⟩) hS5 ?r113
              case h113 => (intro w hw; obtain ⟨q0, q1, q2, q3, q4⟩ := hw; go_simp; try (with_reducible rfl))
              try simp only [Act.put]
              refine wpAnyH_ready (rs := [13]) (by kernel_rfl) (by simp) ?_
              refine AllReadyH.cons rfl ?_ AllReadyH.nil
              intro KK hKK
              go_simp
              refine hKK.out _ _ hfin.s (fun _ => ?_)
              clear hKK KK
              refine wpAnyH_done (by kernel_rfl) ?_ _
              go_wp2_with fail
              go_meet
              exact ⟨_, _, rfl, hfin⟩
        case rest =>
          obtain ⟨vr5, vy, rfl, hX5⟩ := hcut
          clear hX
          have hX := hX5
          clear hX5
          have hOps1 := HOPF.out wc hX.b
          have hMc := hM.below hX.b
          have kd := (Below.refl wc.heap.size wc).drew
          have HSO : Hid (∃ so, so = (!(refReads l).any (badFr (wrTo h h.length) (k : Int)) && steadyL l)) := Lib.hid ⟨_, rfl⟩
          obtain ⟨so, hso⟩ := HSO.out
          have HSO2 := Lib.hid hso
          clear hso HSO
          have CK : Hid (∀ wx, Below wc.heap.size wc wx → Calls Tryd.prog 24 #[.int .i64 k, .agg #[.int .i64 ts, .int .i64 tb, .int .i64 tc, .slice a2 l.length cap2], .map (some bm)] wx fun e w' => e = .returned (.bool so) ∧ Below wx.heap.size wx w') := Lib.hid (fun wx hx => (osound_any (k : Int) ts tb tc _ l (wrTo h h.length) bm _ _ wx (hOps1.below hx) HOL.out (by omega) (hMc.below hx)).mono (fun e w' ⟨out, he, hr, _, hbb⟩ => by
            obtain rfl := hr.eq (refReads_rise HKL.out)
            rw [← HSO2.out] at he
            exact ⟨he, hbb⟩))
          have HK0 : Hid ((K ++ [(vx, keysOf l)]).map (·.2) = keysTo h (k + 1) ∧ (R ++ [(vy, rd)]).map (·.2) = readsTo h (k + 1) ∧ (sd && so) = soundTo h (k + 1)) := Lib.hid (by
            refine ⟨?_, ?_, ?_⟩
            · rw [List.map_append, keysTo_succ, ← HK.out.1, HLK.out]; rfl
            · rw [List.map_append, readsTo_succ, ← HK.out.2.1]
              unfold readsOf
              rw [HLK.out, ← HRD2.out]; rfl
            · rw [soundTo_succ, ← HK.out.2.2]
              unfold soundOf
              rw [HLK.out, ← HSO2.out])
          go_upto_region 11 with fail
          cases sd
          · have HK1 : Hid ((K ++ [(vx, keysOf l)]).map (·.2) = keysTo h (k + 1) ∧ (R ++ [(vy, rd)]).map (·.2) = readsTo h (k + 1) ∧ false = soundTo h (k + 1)) := Lib.hid HK0.out
            clear HK0
            refine wp_region_held_drew (S := SB (w2.heap.size + 1) w2.heap.size gx ts tb tc (.slice a2 l.length cap2)) (by kernel_rfl) hX.s.drew (fun hS0 => ?_)
            have hc0 := hX.o.cS
            refine takeQ (some 55) (i := 0) (v := ?v201) rfl rfl (by kernel_rfl) (by kernel_rfl) (by kernel_rfl) (fun _ _ _ h => h) (Or.inl ⟨by rfl, ?h201⟩) hS0 ?r201
            case h201 => (intro w hw; obtain ⟨q0, q1, q2, q3, q4⟩ := hw; go_simp; try (with_reducible rfl))
            try simp only [Act.put, List.setIfInBounds_toArray, List.set_cons_zero, List.set_cons_succ]
            refine takeQ (some 56) (i := 1) (v := ?v202) rfl rfl (by kernel_rfl) (by kernel_rfl) (by kernel_rfl) (fun _ _ _ h => h) (Or.inl ⟨by rfl, ?h202⟩) hS0 ?r202
            case h202 => (intro w hw; obtain ⟨q0, q1, q2, q3, q4⟩ := hw; go_simp; try (with_reducible rfl))
            try simp only [Act.put, List.setIfInBounds_toArray, List.set_cons_zero, List.set_cons_succ]
            refine takeQ (some 57) (i := 2) (v := ?v203) rfl rfl (by kernel_rfl) (by kernel_rfl) (by kernel_rfl) (fun _ _ _ h => h) (Or.inl ⟨by rfl, ?h203⟩) hS0 ?r203
            case h203 => (intro w hw; obtain ⟨q0, q1, q2, q3, q4⟩ := hw; go_simp; try (with_reducible rfl))
            try simp only [Act.put, List.setIfInBounds_toArray, List.set_cons_zero, List.set_cons_succ]
            refine takeQ (some 58) (i := 3) (v := ?v204) rfl rfl (by kernel_rfl) (by kernel_rfl) (by kernel_rfl) (fun _ _ _ h => h) (Or.inl ⟨by rfl, ?h204⟩) hS0 ?r204
            case h204 => (intro w hw; obtain ⟨q0, q1, q2, q3, q4⟩ := hw; go_simp; try (with_reducible rfl))
            try simp only [Act.put, List.setIfInBounds_toArray, List.set_cons_zero, List.set_cons_succ]
            refine wpAnyH_ready (rs := [4]) (by kernel_rfl) (by simp) ?_
            refine AllReadyH.cons rfl ?_ AllReadyH.nil
            intro KK hKK
            go_simp
            refine hKK.out _ _ hS0 (fun _ => ?_)
            clear hKK KK
            refine takeQ (some 60) (i := 5) (v := ?v205) rfl rfl (by kernel_rfl) (by kernel_rfl) (by kernel_rfl) (fun _ _ _ h => h) (Or.inl ⟨by rfl, ?h205⟩) hS0 ?r205
            case h205 => (intro w hw; obtain ⟨q0, q1, q2, q3, q4⟩ := hw; go_simp; try (with_reducible rfl))
            try simp only [Act.put, List.setIfInBounds_toArray, List.set_cons_zero, List.set_cons_succ]
            refine takeQ (some 61) (i := 6) (v := undef) rfl rfl (by kernel_rfl) (by kernel_rfl) (by kernel_rfl) (fun _ _ _ h => h) (Or.inr ⟨by rfl, rfl⟩) hS0 ?_
            try simp only [Act.put, List.setIfInBounds_toArray, List.set_cons_zero, List.set_cons_succ]
            refine takeQ (some 62) (i := 7) (v := undef) rfl rfl (by kernel_rfl) (by kernel_rfl) (by kernel_rfl) (fun _ _ _ h => h) (Or.inr ⟨by rfl, rfl⟩) hS0 ?_
            try simp only [Act.put, List.setIfInBounds_toArray, List.set_cons_zero, List.set_cons_succ]
            refine takeQ (some 63) (i := 8) (v := undef) rfl rfl (by kernel_rfl) (by kernel_rfl) (by kernel_rfl) (fun _ _ _ h => h) (Or.inr ⟨by rfl, rfl⟩) hS0 ?_
            try simp only [Act.put, List.setIfInBounds_toArray, List.set_cons_zero, List.set_cons_succ]
            refine wpAnyH_ready (rs := [9]) (by kernel_rfl) (by simp) ?_
            refine AllReadyH.cons rfl ?_ AllReadyH.nil
            intro KK hKK
            go_simp
            have hY := hX.below kd
            have hf := hY.o.free (i := 196) (by omega)
            have hc := hY.o.cS
            refine hKK.out _ _ hS0 (fun _ => ?_)
            clear hKK KK
            refine takeQ (some 65) (i := 10) (v := ?v206) rfl rfl (by kernel_rfl) (by kernel_rfl) (by kernel_rfl) (fun _ _ _ h => h) (Or.inl ⟨by rfl, ?h206⟩) hS0 ?r206
            case h206 => (intro w hw; obtain ⟨q0, q1, q2, q3, q4⟩ := hw; go_simp; try (with_reducible rfl))
            try simp only [Act.put, List.setIfInBounds_toArray, List.set_cons_zero, List.set_cons_succ]
            refine takeQ (some 66) (i := 11) (v := ?v207) rfl rfl (by kernel_rfl) (by kernel_rfl) (by kernel_rfl) (fun _ _ _ h => h) (Or.inl ⟨by rfl, ?h207⟩) hS0 ?r207
            case h207 => (intro w hw; obtain ⟨q0, q1, q2, q3, q4⟩ := hw; go_simp; try (with_reducible rfl))
            try simp only [Act.put, List.setIfInBounds_toArray, List.set_cons_zero, List.set_cons_succ]
            refine takeQ (some 67) (i := 12) (v := ?v208) rfl rfl (by kernel_rfl) (by kernel_rfl) (by kernel_rfl) (fun _ _ _ h => h) (Or.inl ⟨by rfl, ?h208⟩) hS0 ?r208
            case h208 => (intro w hw; obtain ⟨q0, q1, q2, q3, q4⟩ := hw; go_simp; try (with_reducible rfl))
            try simp only [Act.put, List.setIfInBounds_toArray, List.set_cons_zero, List.set_cons_succ]
            refine wpAnyH_ready (rs := [13]) (by kernel_rfl) (by simp) ?_
            refine AllReadyH.cons rfl ?_ AllReadyH.nil
            intro KK hKK
            go_simp
            have hZ := hY.setS false
            refine hKK.out _ _ hZ.s (fun _ => ?_)
            clear hKK KK
            refine wpAnyH_done (by kernel_rfl) ?_ _
            clear hX hY CK kd hc hf hS0
            go_wp2_with fail
            go_roundw
            case rel => exact ⟨k + 1, _, _, _, _, _, by omega, by go_num, HK1.out.1, HK1.out.2.1, HK1.out.2.2, hZ.o, hZ.s.1, hZ.r, hZ.b, hZ.z⟩
            case measure => simp [intOf]; omega
          · have HK1 : Hid ((K ++ [(vx, keysOf l)]).map (·.2) = keysTo h (k + 1) ∧ (R ++ [(vy, rd)]).map (·.2) = readsTo h (k + 1) ∧ so = soundTo h (k + 1)) := Lib.hid HK0.out
            clear HK0
            refine wp_region_held_drew (S := SB (w2.heap.size + 1) w2.heap.size gx ts tb tc (.slice a2 l.length cap2)) (by kernel_rfl) hX.s.drew (fun hS0 => ?_)
            have hc0 := hX.o.cS
            refine takeQ (some 55) (i := 0) (v := ?v301) rfl rfl (by kernel_rfl) (by kernel_rfl) (by kernel_rfl) (fun _ _ _ h => h) (Or.inl ⟨by rfl, ?h301⟩) hS0 ?r301
            case h301 => (intro w hw; obtain ⟨q0, q1, q2, q3, q4⟩ := hw; go_simp; try (with_reducible rfl))
            try simp only [Act.put, List.setIfInBounds_toArray, List.set_cons_zero, List.set_cons_succ]
            refine takeQ (some 56) (i := 1) (v := ?v302) rfl rfl (by kernel_rfl) (by kernel_rfl) (by kernel_rfl) (fun _ _ _ h => h) (Or.inl ⟨by rfl, ?h302⟩) hS0 ?r302
            case h302 => (intro w hw; obtain ⟨q0, q1, q2, q3, q4⟩ := hw; go_simp; try (with_reducible rfl))
            try simp only [Act.put, List.setIfInBounds_toArray, List.set_cons_zero, List.set_cons_succ]
            refine takeQ (some 57) (i := 2) (v := ?v303) rfl rfl (by kernel_rfl) (by kernel_rfl) (by kernel_rfl) (fun _ _ _ h => h) (Or.inl ⟨by rfl, ?h303⟩) hS0 ?r303
            case h303 => (intro w hw; obtain ⟨q0, q1, q2, q3, q4⟩ := hw; go_simp; try (with_reducible rfl))
            try simp only [Act.put, List.setIfInBounds_toArray, List.set_cons_zero, List.set_cons_succ]
            refine takeQ (some 58) (i := 3) (v := ?v304) rfl rfl (by kernel_rfl) (by kernel_rfl) (by kernel_rfl) (fun _ _ _ h => h) (Or.inl ⟨by rfl, ?h304⟩) hS0 ?r304
            case h304 => (intro w hw; obtain ⟨q0, q1, q2, q3, q4⟩ := hw; go_simp; try (with_reducible rfl))
            try simp only [Act.put, List.setIfInBounds_toArray, List.set_cons_zero, List.set_cons_succ]
            refine wpAnyH_ready (rs := [4]) (by kernel_rfl) (by simp) ?_
            refine AllReadyH.cons rfl ?_ AllReadyH.nil
            intro KK hKK
            go_simp
            refine hKK.out _ _ hS0 (fun _ => ?_)
            clear hKK KK
            refine takeQ (some 60) (i := 5) (v := ?v305) rfl rfl (by kernel_rfl) (by kernel_rfl) (by kernel_rfl) (fun _ _ _ h => h) (Or.inl ⟨by rfl, ?h305⟩) hS0 ?r305
            case h305 => (intro w hw; obtain ⟨q0, q1, q2, q3, q4⟩ := hw; go_simp; try (with_reducible rfl))
            try simp only [Act.put, List.setIfInBounds_toArray, List.set_cons_zero, List.set_cons_succ]
            refine takeQ (some 61) (i := 6) (v := ?v306) rfl rfl (by kernel_rfl) (by kernel_rfl) (by kernel_rfl) (fun _ _ _ h => h) (Or.inl ⟨by rfl, ?h306⟩) hS0 ?r306
            case h306 => (intro w hw; obtain ⟨q0, q1, q2, q3, q4⟩ := hw; go_simp; try (with_reducible rfl))
            try simp only [Act.put, List.setIfInBounds_toArray, List.set_cons_zero, List.set_cons_succ]
            refine takeQ (some 62) (i := 7) (v := ?v307) rfl rfl (by kernel_rfl) (by kernel_rfl) (by kernel_rfl) (fun _ _ _ h => h) (Or.inl ⟨by rfl, ?h307⟩) hS0 ?r307
            case h307 => (intro w hw; obtain ⟨q0, q1, q2, q3, q4⟩ := hw; go_simp; try (with_reducible rfl))
            try simp only [Act.put, List.setIfInBounds_toArray, List.set_cons_zero, List.set_cons_succ]
            refine takeQ (some 63) (i := 8) (v := ?v308) rfl rfl (by kernel_rfl) (by kernel_rfl) (by kernel_rfl) (fun _ _ _ h => h) (Or.inl ⟨by rfl, ?h308⟩) hS0 ?r308
            case h308 => (intro w hw; obtain ⟨q0, q1, q2, q3, q4⟩ := hw; go_simp; try (with_reducible rfl))
            try simp only [Act.put, List.setIfInBounds_toArray, List.set_cons_zero, List.set_cons_succ]
            refine wpAnyH_ready (rs := [9]) (by kernel_rfl) (by simp) ?_
            refine AllReadyH.cons rfl ?_ AllReadyH.nil
            intro KK hKK
            go_simp
            refine (CK.out _ kd).mono ?_
            rintro e wx ⟨rfl, hbx⟩
            show KK _ _
            have kk := below_then kd hbx
            have hY := hX.below kk
            have hf := hY.o.free (i := 196) (by omega)
            have hc := hY.o.cS
            refine hKK.out _ _ hY.s (fun _ => ?_)
            clear hKK KK
            refine takeQ (some 65) (i := 10) (v := ?v309) rfl rfl (by kernel_rfl) (by kernel_rfl) (by kernel_rfl) (fun _ _ _ h => h) (Or.inl ⟨by rfl, ?h309⟩) hY.s ?r309
            case h309 => (intro w hw; obtain ⟨q0, q1, q2, q3, q4⟩ := hw; go_simp; try (with_reducible rfl))
            try simp only [Act.put, List.setIfInBounds_toArray, List.set_cons_zero, List.set_cons_succ]
            refine takeQ (some 66) (i := 11) (v := ?v310) rfl rfl (by kernel_rfl) (by kernel_rfl) (by kernel_rfl) (fun _ _ _ h => h) (Or.inl ⟨by rfl, ?h310⟩) hY.s ?r310
            case h310 => (intro w hw; obtain ⟨q0, q1, q2, q3, q4⟩ := hw; go_simp; try (with_reducible rfl))
            try simp only [Act.put, List.setIfInBounds_toArray, List.set_cons_zero, List.set_cons_succ]
            refine takeQ (some 67) (i := 12) (v := ?v311) rfl rfl (by kernel_rfl) (by kernel_rfl) (by kernel_rfl) (fun _ _ _ h => h) (Or.inl ⟨by rfl, ?h311⟩) hY.s ?r311
            case h311 => (intro w hw; obtain ⟨q0, q1, q2, q3, q4⟩ := hw; go_simp; try (with_reducible rfl))
            try simp only [Act.put, List.setIfInBounds_toArray, List.set_cons_zero, List.set_cons_succ]
            refine wpAnyH_ready (rs := [13]) (by kernel_rfl) (by simp) ?_
            refine AllReadyH.cons rfl ?_ AllReadyH.nil
            intro KK hKK
            go_simp
            have hZ := hY.setS so
            refine hKK.out _ _ hZ.s (fun _ => ?_)
            clear hKK KK
            refine wpAnyH_done (by kernel_rfl) ?_ _
            clear hX hY CK kd hc hf hS0 kk hbx
            go_wp2_with fail
            go_roundw
            case rel => exact ⟨k + 1, _, _, _, _, _, by omega, by go_num, HK1.out.1, HK1.out.2.1, HK1.out.2.2, hZ.o, hZ.s.1, hZ.r, hZ.b, hZ.z⟩
            case measure => simp [intOf]; omega
    · have hkl : k = h.length := by omega
      subst hkl
      have hA4 := (hb.cell (p := ⟨w.heap.size, 0, none⟩) hlt).trans hA2
      have hbw := below_then hb4 hb
      have hX : OfT w2 w.heap.size (.slice ao h.length cap) h.length noR noR noR (.map none) vk vr sd K R wr := ⟨hO, ⟨hC, hA4⟩, hF, hb, hlt⟩
      have hKl : K.length ≤ 64 := by have := congrArg List.length HK.out.1; simp [keysTo] at this; omega
      obtain ⟨aK, cK, rfl⟩ := owns_form hX.r.kr
      obtain ⟨aR, cR, rfl⟩ := owns_form hX.r.rr
      have HKE : Hid (∀ p ∈ K, p.2.length ≤ 64 ∧ ∀ x ∈ p.2, InI x) := Lib.hid (fun p hp => by
        have hm : p.2 ∈ keysTo h h.length := by rw [← HK.out.1]; exact List.mem_map.2 ⟨p, hp, rfl⟩
        unfold keysTo at hm
        obtain ⟨i, hi, he⟩ := List.mem_map.1 hm
        have hil := List.mem_range.1 hi
        rw [← he]
        unfold keysOf
        refine ⟨by rw [List.length_map]; exact upTo_len _ 64, fun x hx => ?_⟩
        obtain ⟨q, hq, rfl⟩ := List.mem_map.1 hx
        have hq2 := lastW_key ((((refWrites_rise (by rw [opsAt_eq hil]; exact HKS.out _ (List.getElem_mem hil))).2 q).1 hq).1)
        exact inI_of (((HOK.out _ (List.getElem_mem hil)).2 q (by rw [← opsAt_eq hil]; exact hq2.2.2)).1))
      have kd := (Below.refl wr.heap.size wr).drew
      have CWR : Hid (∀ wx, Below wr.heap.size wr wx → Calls Tryd.prog 25 #[.slice aK K.length cK] wx fun e w' => ∃ b n c, e = .returned (.map (some b)) ∧ wx.heap.size ≤ b ∧ MapI eS Tryd.prog 3 w' b n (wrsTo K K.length) c ∧ AllSet (wrsTo K K.length) ∧ Below wx.heap.size wx w') := Lib.hid (fun wx hx => owriters_any _ K wx ((hX.r.below hx).rws) (by omega) (fun p hp => by have := (HKE.out p hp).1; omega) (fun p hp => (HKE.out p hp).2))
      have hmf : ∀ (fn : Fn) (first cap : Array Value) (w : World), (Instr.makeFunc fn first cap).run Tryd.prog w = .ok (.func fn first cap) w := fun _ _ _ _ => rfl
      clear hO hC hF hb hA4 hbw
      go_wp2_with fail
      refine wp_region_held_drew (S := SA (w2.heap.size + 1) w2.heap.size w.heap.size (.slice ao h.length cap)) (by kernel_rfl) hX.drew.s (fun hS0 => ?_)
      have hc0 := hX.o.cK
      refine takeQ (some 69) (i := 0) (v := ?v401) rfl rfl (by kernel_rfl) (by kernel_rfl) (by kernel_rfl) (fun _ _ _ h => h) (Or.inl ⟨by rfl, ?h401⟩) hS0 ?r401
      case h401 => (intro w hw; obtain ⟨q0, q1⟩ := hw; go_simp; try (with_reducible rfl))
      try simp only [Act.put, List.setIfInBounds_toArray, List.set_cons_zero, List.set_cons_succ]
      refine takeQ (some 70) (i := 1) (v := ?v402) rfl rfl (by kernel_rfl) (by kernel_rfl) (by kernel_rfl) (fun _ _ _ h => h) (Or.inl ⟨by rfl, ?h402⟩) hS0 ?r402
      case h402 => (intro w hw; obtain ⟨q0, q1⟩ := hw; go_simp; try (with_reducible rfl))
      try simp only [Act.put, List.setIfInBounds_toArray, List.set_cons_zero, List.set_cons_succ]
      refine takeQ (some 71) (i := 2) (v := ?v403) rfl rfl (by kernel_rfl) (by kernel_rfl) (by kernel_rfl) (fun _ _ _ h => h) (Or.inl ⟨by rfl, ?h403⟩) hS0 ?r403
      case h403 => (intro w hw; obtain ⟨q0, q1⟩ := hw; go_simp; try (with_reducible rfl))
      try simp only [Act.put, List.setIfInBounds_toArray, List.set_cons_zero, List.set_cons_succ]
      refine takeQ (some 72) (i := 3) (v := ?v404) rfl rfl (by kernel_rfl) (by kernel_rfl) (by kernel_rfl) (fun _ _ _ h => h) (Or.inl ⟨by rfl, ?h404⟩) hS0 ?r404
      case h404 => (intro w hw; obtain ⟨q0, q1⟩ := hw; go_simp; try (with_reducible rfl))
      try simp only [Act.put, List.setIfInBounds_toArray, List.set_cons_zero, List.set_cons_succ]
      refine wpAnyH_ready (rs := [4]) (by kernel_rfl) (by simp) ?_
      refine AllReadyH.cons rfl ?_ AllReadyH.nil
      intro KK hKK
      go_simp
      refine hKK.out _ _ hS0 (fun _ => ?_)
      clear hKK KK
      refine wpAnyH_ready (rs := [5]) (by kernel_rfl) (by simp) ?_
      refine AllReadyH.cons rfl ?_ AllReadyH.nil
      intro KK hKK
      go_simp
      refine (CWR.out _ kd).mono ?_
      rintro e wx ⟨bw, nw, cw, rfl, hbw, hMw, hAw, hbx⟩
      show KK _ _
      have hY := hX.below (below_then kd hbx)
      have hbB : w2.heap.size < bw := by have h1 := hX.b.size; have h2 := hX.o.lt; have h3 := kd.size; omega
      have hf := hY.o.free (i := 193) (by omega)
      have hc := hY.o.cM
      refine hKK.out _ _ hY.s (fun _ => ?_)
      clear hKK KK
      refine takeQ (some 75) (i := 6) (v := ?v405) rfl rfl (by kernel_rfl) (by kernel_rfl) (by kernel_rfl) (fun _ _ _ h => h) (Or.inl ⟨by rfl, ?h405⟩) hY.s ?r405
      case h405 => (intro w hw; obtain ⟨q0, q1⟩ := hw; go_simp; try (with_reducible rfl))
      try simp only [Act.put, List.setIfInBounds_toArray, List.set_cons_zero, List.set_cons_succ]
      refine takeQ (some 76) (i := 7) (v := ?v406) rfl rfl (by kernel_rfl) (by kernel_rfl) (by kernel_rfl) (fun _ _ _ h => h) (Or.inl ⟨by rfl, ?h406⟩) hY.s ?r406
      case h406 => (intro w hw; obtain ⟨q0, q1⟩ := hw; go_simp; try (with_reducible rfl))
      try simp only [Act.put, List.setIfInBounds_toArray, List.set_cons_zero, List.set_cons_succ]
      refine wpAnyH_ready (rs := [8]) (by kernel_rfl) (by simp) ?_
      refine AllReadyH.cons rfl ?_ AllReadyH.nil
      intro KK hKK
      go_simp
      have hX13 := hY.setM (.map (some bw))
      have hM13 := hMw.cell (a := ⟨w2.heap.size, 193, none⟩) (by simp; omega) (.map (some bw))
      refine hKK.out _ _ hX13.s (fun _ => ?_)
      clear hKK KK
      refine wpAnyH_done (by kernel_rfl) ?_ _
      clear hX hY kd CWR hc hf hc0 hS0 hMw
      generalize wx.setCell ⟨w2.heap.size, 193, none⟩ (.map (some bw)) = w3 at *
      have hX := hX13
      have hM3 := hM13
      clear hX13 hM13
      have kd := (Below.refl w3.heap.size w3).drew
      have CP : Hid (∀ wx, Below w3.heap.size w3 wx → Calls Tryd.prog 26 #[.int .i64 h.length, .func (.func 27) #[] #[.pointer (some ⟨w.heap.size, 0, none⟩)]] wx fun e w' => e = .returned (.agg (rowsA (sesM h))) ∧ Below wx.heap.size wx w') := Lib.hid (fun wx hx => pairs_any (sesP h) h.length (by omega) _ _ wx enters_ses (fun a b wy ha hb hy => ses_calls _ h _ a b wy ((hX.below (below_then hx hy)).s.2) (HT.out _ (below_then hb4 (hX.below (below_then hx hy)).b)) ha hb))
      go_wp2_with fail
      refine wp_region_held_drew (S := SA (w2.heap.size + 1) w2.heap.size w.heap.size (.slice ao h.length cap)) (by kernel_rfl) hX.drew.s (fun hS0 => ?_)
      refine takeQ (some 77) (i := 0) (v := ?v501) rfl rfl (by kernel_rfl) (by kernel_rfl) (by kernel_rfl) (fun _ _ _ h => h) (Or.inl ⟨by rfl, ?h501⟩) hS0 ?r501
      case h501 => (intro w hw; obtain ⟨q0, q1⟩ := hw; go_simp; try (with_reducible rfl))
      try simp only [Act.put, List.setIfInBounds_toArray, List.set_cons_zero, List.set_cons_succ]
      refine takeQ (some 78) (i := 1) (v := ?v502) rfl rfl (by kernel_rfl) (by kernel_rfl) (by kernel_rfl) (fun _ _ _ h => h) (Or.inl ⟨by rfl, ?h502⟩) hS0 ?r502
      case h502 => (intro w hw; obtain ⟨q0, q1⟩ := hw; go_simp; try (with_reducible rfl))
      try simp only [Act.put, List.setIfInBounds_toArray, List.set_cons_zero, List.set_cons_succ]
      refine takeQ (some 79) (i := 2) (v := ?v503) rfl rfl (by kernel_rfl) (by kernel_rfl) (by kernel_rfl) (fun _ _ _ h => h) (Or.inl ⟨by rfl, ?h503⟩) hS0 ?r503
      case h503 => (intro w hw; obtain ⟨q0, q1⟩ := hw; go_simp; try (with_reducible rfl))
      try simp only [Act.put, List.setIfInBounds_toArray, List.set_cons_zero, List.set_cons_succ]
      refine takeQ (some 80) (i := 3) (v := ?v504) rfl rfl (by kernel_rfl) (by kernel_rfl) (by kernel_rfl) (fun _ _ _ h => h) (Or.inl ⟨by rfl, ?h504⟩) hS0 ?r504
      case h504 => (intro w hw; obtain ⟨q0, q1⟩ := hw; go_simp; try (with_reducible rfl))
      try simp only [Act.put, List.setIfInBounds_toArray, List.set_cons_zero, List.set_cons_succ]
      refine wpAnyH_ready (rs := [4]) (by kernel_rfl) (by simp) ?_
      refine AllReadyH.cons rfl ?_ AllReadyH.nil
      intro KK hKK
      go_simp
      refine (CP.out _ kd).mono ?_
      rintro e wx ⟨rfl, hbx⟩
      show KK _ _
      have kk := below_then kd hbx
      have hY := hX.below kk
      have hMY := hM3.below kk
      refine hKK.out _ _ hY.s (fun _ => ?_)
      clear hKK KK
      refine takeQ (some 82) (i := 5) (v := ?v505) rfl rfl (by kernel_rfl) (by kernel_rfl) (by kernel_rfl) (fun _ _ _ h => h) (Or.inl ⟨by rfl, ?h505⟩) hY.s ?r505
      case h505 => (intro w hw; obtain ⟨q0, q1⟩ := hw; go_simp; try (with_reducible rfl))
      try simp only [Act.put, List.setIfInBounds_toArray]
      refine takeQ (some 83) (i := 6) (v := ?v506) rfl rfl (by kernel_rfl) (by kernel_rfl) (by kernel_rfl) (fun _ _ _ h => h) (Or.inl ⟨by rfl, ?h506⟩) hY.s ?r506
      case h506 => (intro w hw; obtain ⟨q0, q1⟩ := hw; go_simp; try (with_reducible rfl))
      try simp only [Act.put]
      refine wpAnyH_ready (rs := [7]) (by kernel_rfl) (by simp) ?_
      refine AllReadyH.cons rfl ?_ AllReadyH.nil
      intro KK hKK
      rw [if_pos (by rfl)]
      refine wp_store_mid 63 (.tmp 83) (.tmp 81) rfl w2.heap.size 1 (rowsA (sesM h)) rfl rfl (by rw [rowsA_size]; exact hY.o.there 1 (by omega)) (infoRel' _) (rows_one _) ?_
      have hXn := hY.setS (sesM h)
      have hMn := MapI.cells (g := w2.heap.size) (by omega) (rowsA (sesM h)).toList 1 _ hMY
      refine hKK.out _ _ hXn.s (fun _ => ?_)
      clear hKK KK
      refine wpAnyH_done (by kernel_rfl) ?_ _
      clear hX hM3 hY kd CP hS0 hMY kk hbx
      generalize wx.setCells w2.heap.size 1 (rowsA (sesM h)).toList = w3 at *
      have hX := hXn
      have hM3 := hMn
      clear hXn hMn
      have kd := (Below.refl w3.heap.size w3).drew
      have CP : Hid (∀ wx, Below w3.heap.size w3 wx → Calls Tryd.prog 26 #[.int .i64 h.length, .func (.func 28) #[] #[.pointer (some ⟨w.heap.size, 0, none⟩)]] wx fun e w' => e = .returned (.agg (rowsA (timM h))) ∧ Below wx.heap.size wx w') := Lib.hid (fun wx hx => pairs_any (timP h) h.length (by omega) _ _ wx enters_tim (fun a b wy ha hb hy => tim_calls _ h _ a b wy ((hX.below (below_then hx hy)).s.2) (HT.out _ (below_then hb4 (hX.below (below_then hx hy)).b)) ha hb))
      go_wp2_with fail
      refine wp_region_held_drew (S := SA (w2.heap.size + 1) w2.heap.size w.heap.size (.slice ao h.length cap)) (by kernel_rfl) hX.drew.s (fun hS0 => ?_)
      refine takeQ (some 84) (i := 0) (v := ?v601) rfl rfl (by kernel_rfl) (by kernel_rfl) (by kernel_rfl) (fun _ _ _ h => h) (Or.inl ⟨by rfl, ?h601⟩) hS0 ?r601
      case h601 => (intro w hw; obtain ⟨q0, q1⟩ := hw; go_simp; try (with_reducible rfl))
      try simp only [Act.put, List.setIfInBounds_toArray, List.set_cons_zero, List.set_cons_succ]
      refine takeQ (some 85) (i := 1) (v := ?v602) rfl rfl (by kernel_rfl) (by kernel_rfl) (by kernel_rfl) (fun _ _ _ h => h) (Or.inl ⟨by rfl, ?h602⟩) hS0 ?r602
      case h602 => (intro w hw; obtain ⟨q0, q1⟩ := hw; go_simp; try (with_reducible rfl))
      try simp only [Act.put]
      refine takeQ (some 86) (i := 2) (v := ?v603) rfl rfl (by kernel_rfl) (by kernel_rfl) (by kernel_rfl) (fun _ _ _ h => h) (Or.inl ⟨by rfl, ?h603⟩) hS0 ?r603
      case h603 => (intro w hw; obtain ⟨q0, q1⟩ := hw; go_simp; try (with_reducible rfl))
      try simp only [Act.put]
      refine takeQ (some 87) (i := 3) (v := ?v604) rfl rfl (by kernel_rfl) (by kernel_rfl) (by kernel_rfl) (fun _ _ _ h => h) (Or.inl ⟨by rfl, ?h604⟩) hS0 ?r604
      case h604 => (intro w hw; obtain ⟨q0, q1⟩ := hw; go_simp; try (with_reducible rfl))
      try simp only [Act.put]
      refine wpAnyH_ready (rs := [4]) (by kernel_rfl) (by simp) ?_
      refine AllReadyH.cons rfl ?_ AllReadyH.nil
      intro KK hKK
      go_simp
      refine (CP.out _ kd).mono ?_
      rintro e wx ⟨rfl, hbx⟩
      show KK _ _
      have kk := below_then kd hbx
      have hY := hX.below kk
      have hMY := hM3.below kk
      refine hKK.out _ _ hY.s (fun _ => ?_)
      clear hKK KK
      refine takeQ (some 89) (i := 5) (v := ?v605) rfl rfl (by kernel_rfl) (by kernel_rfl) (by kernel_rfl) (fun _ _ _ h => h) (Or.inl ⟨by rfl, ?h605⟩) hY.s ?r605
      case h605 => (intro w hw; obtain ⟨q0, q1⟩ := hw; go_simp; try (with_reducible rfl))
      try simp only [Act.put, List.setIfInBounds_toArray]
      refine takeQ (some 90) (i := 6) (v := ?v606) rfl rfl (by kernel_rfl) (by kernel_rfl) (by kernel_rfl) (fun _ _ _ h => h) (Or.inl ⟨by rfl, ?h606⟩) hY.s ?r606
      case h606 => (intro w hw; obtain ⟨q0, q1⟩ := hw; go_simp; try (with_reducible rfl))
      try simp only [Act.put]
      refine wpAnyH_ready (rs := [7]) (by kernel_rfl) (by simp) ?_
      refine AllReadyH.cons rfl ?_ AllReadyH.nil
      intro KK hKK
      rw [if_pos (by rfl)]
      refine wp_store_mid 63 (.tmp 90) (.tmp 88) rfl w2.heap.size 65 (rowsA (timM h)) rfl rfl (by rw [rowsA_size]; exact hY.o.there 65 (by omega)) (infoRel' _) (rows_one _) ?_
      have hXn := hY.setT (timM h)
      have hMn := MapI.cells (g := w2.heap.size) (by omega) (rowsA (timM h)).toList 65 _ hMY
      refine hKK.out _ _ hXn.s (fun _ => ?_)
      clear hKK KK
      refine wpAnyH_done (by kernel_rfl) ?_ _
      clear hX hM3 hY kd CP hS0 hMY kk hbx
      generalize wx.setCells w2.heap.size 65 (rowsA (timM h)).toList = w3 at *
      have hX := hXn
      have hM3 := hMn
      clear hXn hMn
      have kd := (Below.refl w3.heap.size w3).drew
      have CP : Hid (∀ wx, Below w3.heap.size w3 wx → Calls Tryd.prog 26 #[.int .i64 h.length, .func (.func 29) #[] #[.pointer (some ⟨w2.heap.size + 1, 0, none⟩)]] wx fun e w' => e = .returned (.agg (rowsA (froM h))) ∧ Below wx.heap.size wx w') := Lib.hid (fun wx hx => pairs_any (froP h) h.length (by omega) _ _ wx enters_fro (fun a b wy ha hb hy => fro_calls _ h R _ _ a b wy ((hX.below (below_then hx hy)).s.1) ((hX.below (below_then hx hy)).o.cR) ((hX.below (below_then hx hy)).r.frws) HK.out.2.1 hb))
      go_wp2_with fail
      refine wp_region_held_drew (S := SA (w2.heap.size + 1) w2.heap.size w.heap.size (.slice ao h.length cap)) (by kernel_rfl) hX.drew.s (fun hS0 => ?_)
      refine takeQ (some 91) (i := 0) (v := ?v701) rfl rfl (by kernel_rfl) (by kernel_rfl) (by kernel_rfl) (fun _ _ _ h => h) (Or.inl ⟨by rfl, ?h701⟩) hS0 ?r701
      case h701 => (intro w hw; obtain ⟨q0, q1⟩ := hw; go_simp; try (with_reducible rfl))
      try simp only [Act.put, List.setIfInBounds_toArray, List.set_cons_zero, List.set_cons_succ]
      refine takeQ (some 92) (i := 1) (v := ?v702) rfl rfl (by kernel_rfl) (by kernel_rfl) (by kernel_rfl) (fun _ _ _ h => h) (Or.inl ⟨by rfl, ?h702⟩) hS0 ?r702
      case h702 => (intro w hw; obtain ⟨q0, q1⟩ := hw; go_simp; try (with_reducible rfl))
      try simp only [Act.put]
      refine takeQ (some 93) (i := 2) (v := ?v703) rfl rfl (by kernel_rfl) (by kernel_rfl) (by kernel_rfl) (fun _ _ _ h => h) (Or.inl ⟨by rfl, ?h703⟩) hS0 ?r703
      case h703 => (intro w hw; obtain ⟨q0, q1⟩ := hw; go_simp; try (with_reducible rfl))
      try simp only [Act.put]
      refine takeQ (some 94) (i := 3) (v := ?v704) rfl rfl (by kernel_rfl) (by kernel_rfl) (by kernel_rfl) (fun _ _ _ h => h) (Or.inl ⟨by rfl, ?h704⟩) hS0 ?r704
      case h704 => (intro w hw; obtain ⟨q0, q1⟩ := hw; go_simp; try (with_reducible rfl))
      try simp only [Act.put]
      refine wpAnyH_ready (rs := [4]) (by kernel_rfl) (by simp) ?_
      refine AllReadyH.cons rfl ?_ AllReadyH.nil
      intro KK hKK
      go_simp
      refine (CP.out _ kd).mono ?_
      rintro e wx ⟨rfl, hbx⟩
      show KK _ _
      have kk := below_then kd hbx
      have hY := hX.below kk
      have hMY := hM3.below kk
      refine hKK.out _ _ hY.s (fun _ => ?_)
      clear hKK KK
      refine takeQ (some 96) (i := 5) (v := ?v705) rfl rfl (by kernel_rfl) (by kernel_rfl) (by kernel_rfl) (fun _ _ _ h => h) (Or.inl ⟨by rfl, ?h705⟩) hY.s ?r705
      case h705 => (intro w hw; obtain ⟨q0, q1⟩ := hw; go_simp; try (with_reducible rfl))
      try simp only [Act.put, List.setIfInBounds_toArray]
      refine takeQ (some 97) (i := 6) (v := ?v706) rfl rfl (by kernel_rfl) (by kernel_rfl) (by kernel_rfl) (fun _ _ _ h => h) (Or.inl ⟨by rfl, ?h706⟩) hY.s ?r706
      case h706 => (intro w hw; obtain ⟨q0, q1⟩ := hw; go_simp; try (with_reducible rfl))
      try simp only [Act.put]
      refine wpAnyH_ready (rs := [7]) (by kernel_rfl) (by simp) ?_
      refine AllReadyH.cons rfl ?_ AllReadyH.nil
      intro KK hKK
      rw [if_pos (by rfl)]
      refine wp_store_mid 63 (.tmp 97) (.tmp 95) rfl w2.heap.size 129 (rowsA (froM h)) rfl rfl (by rw [rowsA_size]; exact hY.o.there 129 (by omega)) (infoRel' _) (rows_one _) ?_
      have hXn := hY.setF (froM h)
      have hMn := MapI.cells (g := w2.heap.size) (by omega) (rowsA (froM h)).toList 129 _ hMY
      refine hKK.out _ _ hXn.s (fun _ => ?_)
      clear hKK KK
      refine wpAnyH_done (by kernel_rfl) ?_ _
      clear hX hM3 hY kd CP hS0 hMY kk hbx
      generalize wx.setCells w2.heap.size 129 (rowsA (froM h)).toList = w3 at *
      have hq := hXn.s.1
      go_wp2_with fail
      go_ret2
      exact ⟨⟨_, rfl, by have := hb4.size; omega, _, _, _, _, _, K, R, HK.out.2.2 ▸ hXn.o, hMn, hAw, hXn.r, HK.out.1, HK.out.2.1⟩, below_then hb4 hXn.b⟩
end Go.Proofs.YtflalehpdngklaaDoor

namespace Go.Proofs.YtflalehpdngklaaDoor
set_option maxRecDepth 100000
open Go.RowKit

def sp14 (v1 v2 : Value) : List TxnV := [⟨0, 1, 4, v1, [⟨false, 0, 1⟩]⟩, ⟨1, 2, 3, v2, [⟨true, 0, 1⟩]⟩]
theorem sp14_ok (v1 v2 : Value) : ∀ t ∈ sp14 v1 v2, t.ok := by
  intro t ht
  simp [sp14] at ht
  rcases ht with rfl | rfl <;> refine ⟨?_, fun o ho => ?_⟩
  all_goals first
    | (refine ⟨?_, ?_, ?_⟩ <;> simp [IntOk])
    | (simp at ho; subst ho; refine ⟨?_, ?_⟩ <;> simp [IntOk])
theorem sp14_short (v1 v2 : Value) : Short (sp14 v1 v2) := by
  intro t ht
  simp [sp14] at ht
  rcases ht with rfl | rfl <;> simp
theorem sp14_check (v1 v2 : Value) : checkI (sp14 v1 v2) = 0 := by rfl
theorem sp14_cl : clI 16 = 30 := by rfl
theorem sp14_a (v1 v2 : Value) : tryI (sp14 v1 v2) 30 [] 0 = false := by kernel_rfl
theorem sp14_b (v1 v2 : Value) : tryP (sp14 v1 v2) 30 [] 1 = true := by kernel_rfl
theorem sp14_c (v1 v2 : Value) : tryP (sp14 v1 v2) 30 [1] 0 = true := by kernel_rfl
theorem sp14_d (v1 v2 : Value) : plSeeI (sp14 v1 v2) 30 [0, 1] 0 = 2 := by kernel_rfl
theorem sp14_e : plS [1] = 2 := by kernel_rfl
set_option maxRecDepth 100000 in
set_option maxHeartbeats 16000000 in
theorem speaks14_any (w : World) (ht : Tab w) :
    Calls Tryd.prog 10 #[] w fun e w' => e = .returned (.bool true) ∧ Below w.heap.size w w' := by
  have hg := ht.pos
  have HT : Hid (∀ wx, Below w.heap.size w wx → Tab wx) := Lib.hid (fun wx hb => ht.below hb hg)
  have C1 := fun (wx : World) => Lib.hid (read_any 0 1 wx)
  have C2 := fun (wx : World) => Lib.hid (write_op 0 1 wx)
  clear ht
  go_enter Tryd.func10, Tryd.ntmps10
  go_wp2_with fail
  refine ((C1 w).out).mono ?_
  rintro e w1 ⟨rfl, hb1⟩
  have hx1 := hb1.alloc hb1.size (.cells #[.bool false, .int .i64 0, .int .i64 1] 25)
  have hO1 : Ops _ (.slice (some ⟨w1.heap.size, 0, none⟩) 1 1) [⟨false, 0, 1⟩] := Row.of_owns (World.ownsRow_lit (base := 0) (e := 25) (size := 3) w1 #[.bool false, .int .i64 0, .int .i64 1] 1 (Nat.zero_le _) (by decide) rfl)
  clear hb1
  go_wp2_with fail
  refine ((C2 _).out).mono ?_
  rintro e w2 ⟨rfl, hb2⟩
  have hO1 := Row.below hO1 hb2
  have hx2 := below_then hx1 hb2
  have hO2 : Ops _ (.slice (some ⟨w2.heap.size, 0, none⟩) 1 1) [⟨true, 0, 1⟩] := Row.of_owns (World.ownsRow_lit (base := 0) (e := 25) (size := 3) w2 #[.bool true, .int .i64 0, .int .i64 1] 1 (Nat.zero_le _) (by decide) rfl)
  have hO1 := Row.below hO1 (box_below w2 (.cells #[.bool true, .int .i64 0, .int .i64 1] 25))
  have hx3 := hx2.alloc hx2.size (.cells #[.bool true, .int .i64 0, .int .i64 1] 25)
  have hR : Row _ _ 2 4 _ := Row.of_owns (World.ownsRow_lit (base := 0) (e := 29) (size := 4) (w2.alloc (.cells #[.bool true, .int .i64 0, .int .i64 1] 25)) #[.int .i64 0, .int .i64 1, .int .i64 4, .slice (some ⟨w1.heap.size, 0, none⟩) 1 1, .int .i64 1, .int .i64 2, .int .i64 3, .slice (some ⟨w2.heap.size, 0, none⟩) 1 1] 2 (Nat.zero_le _) (by decide) rfl)
  rw [show (w2.alloc (.cells #[.bool true, .int .i64 0, .int .i64 1] 25)).heap.size = w2.heap.size + 1 from by simp] at hR
  have hO1 := Row.below hO1 (box_below _ (.cells #[.int .i64 0, .int .i64 1, .int .i64 4, .slice (some ⟨w1.heap.size, 0, none⟩) 1 1, .int .i64 1, .int .i64 2, .int .i64 3, .slice (some ⟨w2.heap.size, 0, none⟩) 1 1] 29))
  have hO2 := Row.below hO2 (box_below _ (.cells #[.int .i64 0, .int .i64 1, .int .i64 4, .slice (some ⟨w1.heap.size, 0, none⟩) 1 1, .int .i64 1, .int .i64 2, .int .i64 3, .slice (some ⟨w2.heap.size, 0, none⟩) 1 1] 29))
  have hb4 := hx3.alloc hx3.size (.cells #[.int .i64 0, .int .i64 1, .int .i64 4, .slice (some ⟨w1.heap.size, 0, none⟩) 1 1, .int .i64 1, .int .i64 2, .int .i64 3, .slice (some ⟨w2.heap.size, 0, none⟩) 1 1] 29)
  clear hb2 hx1 hx2 hx3 C1 C2
  go_wp2_with fail
  generalize (w2.alloc (.cells #[.bool true, .int .i64 0, .int .i64 1] 25)).alloc (.cells #[.int .i64 0, .int .i64 1, .int .i64 4, .slice (some ⟨w1.heap.size, 0, none⟩) 1 1, .int .i64 1, .int .i64 2, .int .i64 3, .slice (some ⟨w2.heap.size, 0, none⟩) 1 1] 29) = w4 at *
  generalize w1.heap.size = a1 at *
  generalize w2.heap.size = a2 at *
  have hT : Txns w4 (.slice (some ⟨a2 + 1, 0, none⟩) 2 2) (sp14 (.slice (some ⟨a1, 0, none⟩) 1 1) (.slice (some ⟨a2, 0, none⟩) 1 1)) := ⟨hR, fun t ht => by
    simp [sp14] at ht
    rcases ht with rfl | rfl
    · exact hO1
    · exact hO2⟩
  have hck := sp14_check (.slice (some ⟨a1, 0, none⟩) 1 1) (.slice (some ⟨a2, 0, none⟩) 1 1)
  have CO := Lib.hid (of_done _ _ _ hT (sp14_ok _ _) (sp14_short _ _) hck)
  have HA := Lib.hid (sp14_a (.slice (some ⟨a1, 0, none⟩) 1 1) (.slice (some ⟨a2, 0, none⟩) 1 1))
  have HB := Lib.hid (sp14_b (.slice (some ⟨a1, 0, none⟩) 1 1) (.slice (some ⟨a2, 0, none⟩) 1 1))
  have HC2 := Lib.hid (sp14_c (.slice (some ⟨a1, 0, none⟩) 1 1) (.slice (some ⟨a2, 0, none⟩) 1 1))
  have HD := Lib.hid (sp14_d (.slice (some ⟨a1, 0, none⟩) 1 1) (.slice (some ⟨a2, 0, none⟩) 1 1))
  have HC := Lib.hid hck
  have HL : Hid ((sp14 (.slice (some ⟨a1, 0, none⟩) 1 1) (.slice (some ⟨a2, 0, none⟩) 1 1)).length = 2) := Lib.hid rfl
  clear hT hR hO1 hO2 hck
  generalize sp14 (.slice (some ⟨a1, 0, none⟩) 1 1) (.slice (some ⟨a2, 0, none⟩) 1 1) = h at *
  refine (CO.out).mono ?_
  rintro e w5 ⟨⟨B, rfl, hB, hO⟩, hb5⟩
  have hb5 := below_then hb4 hb5
  have CN := Lib.hid (pnew_any 16 h B (B + 2) w5 hO HC.out (HT.out _ hb5))
  rw [sp14_cl] at CN
  clear CO hO hB hb4
  go_wp2_with fail
  refine (CN.out).mono ?_
  rintro e w6 ⟨S, vb, aF, sF, rfl, p⟩
  have P := Lib.hid p
  have CT := Lib.hid (ptry_no p HC.out (by omega) 0 HA.out)
  clear CN p
  go_wp2_with fail
  refine (CT.out).mono ?_
  rintro e w7 ⟨rfl, h7⟩
  have P := Lib.hid (P.out.below h7)
  have CT := Lib.hid (ptry_yes P.out HC.out (by omega) 1 HB.out)
  clear h7
  go_wp2_with fail
  refine (CT.out).mono ?_
  rintro e w8 ⟨rfl, vr, aF, sF, p, _⟩
  have P := Lib.hid p
  have CT := Lib.hid (ptry_yes p HC.out (by omega) 0 HC2.out)
  clear p
  go_wp2_with fail
  refine (CT.out).mono ?_
  rintro e w9 ⟨rfl, vr, aF, sF, p, _⟩
  have P := Lib.hid p
  have CD := Lib.hid (pdone_any p)
  rw [HL.out] at CD
  clear p CT
  go_wp2_with fail
  refine (CD.out).mono ?_
  rintro e w10 ⟨rfl, h10⟩
  have P := Lib.hid (P.out.below h10)
  have CR := Lib.hid (prow_any P.out (by rw [HL.out]; omega))
  simp only [List.reverse_cons, List.reverse_nil, List.nil_append, List.cons_append, List.map_cons, List.map_nil] at CR
  clear h10 CD
  go_wp2_with fail
  refine (CR.out).mono ?_
  rintro e w11 ⟨v, rfl, hI, h11⟩
  have P := Lib.hid (P.out.below h11)
  have hI1 : Ints (w11.alloc (.cells #[.int .i64 1, .int .i64 0] 3)) (.slice (some ⟨w11.heap.size, 0, none⟩) 2 2) [1, 0] := Row.of_owns (World.ownsRow_lit (base := 0) (e := 3) (size := 1) w11 #[.int .i64 1, .int .i64 0] 2 (Nat.zero_le _) (by decide) rfl)
  have k1 := box_below w11 (.cells #[.int .i64 1, .int .i64 0] 3)
  have hI := hI.below k1
  have P := Lib.hid (P.out.below k1)
  have CSM := Lib.hid (same_any v (.slice (some ⟨w11.heap.size, 0, none⟩) 2 2) _ _ _ hI hI1)
  rw [show sameL [Int.ofNat 1, Int.ofNat 0] [1, 0] = true from rfl] at CSM
  obtain ⟨va, vc, rfl, _⟩ := hI.form
  simp only [List.length_cons, List.length_nil] at CSM
  clear h11 hI1 k1 hI CR
  go_wp2_with fail
  refine (CSM.out).mono ?_
  rintro e w12 ⟨rfl, h12⟩
  have P := Lib.hid (P.out.below h12)
  have CE := Lib.hid (psees_any 0 P.out (by rw [HL.out]; omega))
  rw [HD.out] at CE
  have CA := Lib.hid (pasks_any P.out)
  have CU := Lib.hid (pundo_cons P.out (by rw [HL.out]; omega))
  clear h12 CSM
  go_wp2_with fail
  refine (CE.out).mono ?_
  rintro e w13 ⟨rfl, rfl⟩
  go_wp2_with fail
  refine (CA.out).mono ?_
  rintro e w13 ⟨rfl, rfl⟩
  go_wp2_with fail
  refine (CU.out).mono ?_
  rintro e w14 ⟨rfl, vr2, p, _⟩
  have P := Lib.hid p
  have CD := Lib.hid (pdone_any p)
  rw [HL.out] at CD
  clear p CE CA CU
  go_wp2_with fail
  refine (CD.out).mono ?_
  rintro e w15 ⟨rfl, h15⟩
  have P := Lib.hid (P.out.below h15)
  have CP := Lib.hid (pplaced_any P.out)
  rw [sp14_e] at CP
  clear h15 CD
  go_wp2_with fail
  refine (CP.out).mono ?_
  rintro e w16 ⟨rfl, rfl⟩
  have hz := hb5.trans ((P.out).bel.mono hb5.size)
  go_wp2_with fail
  go_ret
  exact ⟨rfl, hz⟩
end Go.Proofs.YtflalehpdngklaaDoor

namespace Go.Proofs.YtflalehpdngklaaDoor
set_option maxRecDepth 100000
open Go.RowKit

set_option maxHeartbeats 16000000 in
theorem lrow_own (n : Nat) (hn : n ≤ 1000) (vb : Value) (bs : List Int) (w : World) (hB : Row w vb bs.length 1 (bs.map (Value.int .u8))) (hbs : ∀ x ∈ bs, 0 ≤ x ∧ x < 256) :
    Calls Tryd.prog 13 #[.int .i64 n, vb] w fun e w' => (∃ (v : Value) (L : List Nat), e = .returned v ∧ w'.ownsRow w.heap.size 3 1 v L.length (L.map fun i : Nat => Value.int .i64 (i : Int)) ∧ L.Perm (List.range n)) ∧ Below w.heap.size w w' := by
  obtain ⟨i0, hi, hz0, hz1, hz2⟩ := info_parts infoInt
  have HB := Lib.hid (fun wx (hx : Below w.heap.size w wx) => hB.below hx)
  have HBS := Lib.hid hbs
  obtain ⟨_, bo, bcap, rfl, hbm, _, _⟩ := hB
  clear hbs
  go_enter Tryd.func13, Tryd.ntmps13
  go_wp2_with fail
  go_loopw [5, 11] (fun v i wr => ∃ k : Nat, k ≤ n ∧ i = .int .i64 k ∧ wr.ownsRow w.heap.size 3 1 v k ((List.range k).map fun i : Nat => Value.int .i64 (i : Int)) ∧ Below w.heap.size w wr) (fun _ i _ => n - (intOf i).toNat)
  case atStart => exact ⟨0, by omega, rfl, World.ownsRow_nil _ _ _ _, Below.refl _ _⟩
  case round =>
    obtain ⟨k, hk, rfl, hown, hb⟩ := hrel
    by_cases hlt : k < n
    · have hki : (k : Int) < (n : Int) := by omega
      have HR : Hid ((List.range (k + 1)).map (fun i : Nat => Value.int .i64 (i : Int)) = (List.range k).map (fun i : Nat => Value.int .i64 (i : Int)) ++ [.int .i64 (k : Int)]) := Lib.hid (by rw [List.range_succ, List.map_append]; rfl)
      generalize (List.range k).map (fun i : Nat => Value.int .i64 (i : Int)) = xs at *
      go_wp2_with (at_builtin; refine wpList_append_own _ rfl _ _ 36 rfl w.heap.size 3 i0 (.int .i64 0) 1 8 Tryd.underlying36 hi hz0 hz1 hz2 rfl (by decide) _ _ _ rfl (hown.alloc _) ⟨_, 0, none⟩ 1 1 [.int .i64 (k : Int)] rfl rfl ?c1 ?c2 ?c3 ?c4 ?c5 ?_)
      try case c1 => exact cell_one_new _ _ _
      case c2 => first | rfl | (intro u hu; simp at hu; subst hu; rfl)
      case c3 => unfold maxLen; omega
      case c4 => omega
      case c5 => have := hb.size; simp; omega
      intro v6 w6 hown6 hg6 _
      have hsz := hb.size
      have hb6 : Below w.heap.size w w6 := hb.trans (below_app (Below.refl _ _) hsz hown hg6)
      clear hown hg6 hb
      go_wp2_with fail
      go_roundw
      case rel => exact ⟨k + 1, by omega, by go_num, by rw [HR.out]; exact hown6, hb6⟩
      case measure => simp [intOf]; omega
    · have hkn : k = n := by omega
      subst hkn
      have hI : Ints wr u5 ((List.range k).map Int.ofNat) := Ints.of_nats hown
      have HP : Hid (([] ++ List.range k).Perm (List.range k)) := Lib.hid (List.Perm.refl _)
      have hll : (List.range k).length = k := List.length_range
      obtain ⟨L0, hL0⟩ : ∃ L, L = List.range k := ⟨_, rfl⟩
      rw [← hL0] at hI
      have HP0 : Hid (([] ++ L0).Perm (List.range k)) := Lib.hid (by rw [hL0]; exact List.Perm.refl _)
      have hl0 : L0.length = k := by rw [hL0]; exact hll
      clear hown HP hll hL0 hlt
      obtain ⟨av, cv, rfl⟩ : ∃ a c, u5 = .slice a k c := by
        obtain ⟨a, c, e, _⟩ := hI.form
        rw [List.length_map, hl0] at e
        exact ⟨a, c, e⟩
      have hl0 := Lib.hid hl0
      go_wp2_with fail
      go_loopw [5, 6, 8] (fun vl vo iv wx => ∃ (L O : List Nat) (i : Nat), iv = .int .i64 i ∧ O.length = i ∧ wx.ownsRow w.heap.size 3 1 vo O.length (O.map fun i : Nat => Value.int .i64 (i : Int)) ∧ Ints wx vl (L.map Int.ofNat) ∧ (∀ b, vo.ownBlock = some b → vl.ownBlock ≠ some b) ∧ (O ++ L).Perm (List.range k) ∧ Below w.heap.size w wx)
        (fun vl _ _ _ => lenV vl)
      case atStart => exact ⟨L0, [], 0, rfl, rfl, World.ownsRow_nil _ _ _ _, hI, fun b h => by simp [Value.ownBlock] at h, HP0.out, hb⟩
      case round =>
        obtain ⟨L, O, i, rfl, hOi, hown, hI, hap, hperm, hb⟩ := hrel
        have HP := Lib.hid hperm
        have hlen : O.length + L.length = k := by have := hperm.length_eq; simpa using this
        have hik : i ≤ k := by omega
        have hok : O.length ≤ k := by omega
        have hLk : L.length ≤ k := by omega
        clear hperm HP0
        obtain ⟨lo, lcap, rfl, ⟨hlc, hlm⟩, hno⟩ := hI.full
        rw [List.length_map] at hlc hno
        rw [List.length_map] at hI ⊢
        rcases Nat.eq_zero_or_pos L.length with h0 | h0
        · have hL : L = [] := List.eq_nil_of_length_eq_zero h0
          subst hL
          have HR : Hid (O.Perm (List.range k)) := Lib.hid (by have := HP.out; rwa [List.append_nil] at this)
          have hIO := Ints.of_nats hown
          have HOWN := Lib.hid hown
          clear hOi hlen hI HP hown hap hIO
          go_wp2_with fail
          go_ret
          exact ⟨⟨_, O, rfl, HOWN.out, HR.out⟩, hb⟩
        · have hL0i : (0 : Int) < (L.length : Int) := by omega
          have HOI := Lib.hid hOi
          have HLN := Lib.hid hlen
          clear hOi hlen hl0 hno
          by_cases hbi : i < bs.length
          · have hbii : (i : Int) < (bs.length : Int) := by omega
            obtain ⟨x, hx⟩ : ∃ x, x = bs[i] := ⟨_, rfl⟩
            have hxr := HBS.out bs[i] (List.getElem_mem hbi)
            obtain ⟨gb, ob, hao, e0⟩ := bytes_at (HB.out _ hb) hbi
            cases hao
            rw [← hx] at hxr e0
            obtain ⟨hx0, hx1⟩ := hxr
            obtain ⟨j, hj⟩ : ∃ j : Nat, x % (L.length : Int) = (j : Int) := ⟨(x % (L.length : Int)).toNat, by have := Int.emod_nonneg x (show (L.length : Int) ≠ 0 by omega); omega⟩
            have hjl : j < L.length := by have := Int.emod_lt_of_pos x hL0i; omega
            clear hx
            go_upto_region 13 with fail
            rw [hj]
            clear e0 hj hx0 hx1
            obtain ⟨g, o, hgo, hcj⟩ := ints_at hI hjl
            cases hgo
            have hji : (j : Int) < (L.length : Int) := by omega
            have HPM : Hid ((O ++ [L[j]] ++ (L.take j ++ L.drop (j + 1))).Perm (List.range k)) := Lib.hid ((perm_take O L j hjl).trans HP.out)
            have HLM : Hid ((L.take j ++ L.drop (j + 1)).length + 1 = L.length) := Lib.hid (by simp; omega)
            generalize L[j] = y at *
            have HI := Lib.hid hI
            have HAP := Lib.hid hap
            clear hI hap
            go_wp2_with (at_builtin; refine wpList_append_own _ rfl _ _ 36 rfl w.heap.size 3 i0 (.int .i64 0) 1 8 Tryd.underlying36 hi hz0 hz1 hz2 rfl (by decide) _ _ _ rfl (hown.alloc _) ⟨_, 0, none⟩ 1 1 [.int .i64 (y : Int)] rfl rfl ?c1 ?c2 ?c3 ?c4 ?c5 ?_)
            try case c1 => exact cell_one_new _ _ _
            case c2 => first | rfl | (intro u hu; simp at hu; subst hu; rfl)
            case c3 => unfold maxLen; omega
            case c4 => omega
            case c5 => have := hb.size; simp; omega
            intro v6 w6 hown6 hg6 _
            have hsz := hb.size
            have hb6 : Below w.heap.size w w6 := hb.trans (below_app (Below.refl _ _) hsz hown hg6)
            have hI6 : Ints w6 (.slice (some ⟨g, o, none⟩) L.length lcap) (L.map Int.ofNat) := by
              have h := (HI.out.below ((Below.refl _ _).alloc (Nat.le_refl _) _)).grown hg6 HAP.out
              exact h
            clear hown hg6 hb hcj HI HAP
            have hs6 := hb6.size
            have hW : Below w6.heap.size w6 (w6.drew.alloc (.cells #[] 3)) := (⟨rfl, rfl, rfl, Nat.le_refl _, fun _ _ => rfl⟩ : Below w6.heap.size w6 w6.drew).alloc (Nat.le_refl _) _
            have HOW := Lib.hid (World.ownsRow_made (base := w6.heap.size) (e := 3) (size := 1) w6.drew #[] 0 (Nat.le_refl _) (by decide) rfl)
            obtain ⟨A, hA, HC2⟩ : ∃ A : Addr, (if lcap = j + 1 then some (⟨g, o, none⟩ : Addr) else some ⟨g, o + (j + 1), none⟩) = some A ∧ Hid (∀ w7, Below w6.heap.size w6 w7 → ∀ i u, ((L.drop (j + 1)).map fun i : Nat => Value.int .i64 (i : Int))[i]? = some u → w7.cell? (A.add i) = some u) := by
              by_cases h : lcap = j + 1
              · refine ⟨⟨g, o, none⟩, by simp [h], fun w7 hb7 i u hu => ?_⟩
                rw [List.drop_eq_nil_of_le (by omega)] at hu
                simp at hu
              · exact ⟨⟨g, o + (j + 1), none⟩, by simp [h], fun w7 hb7 => (hI6.below hb7).news (j + 1)⟩
            have HC1 : Hid (∀ i u, ((L.take j).map fun i : Nat => Value.int .i64 (i : Int))[i]? = some u → (w6.drew.alloc (.cells #[] 3)).cell? ((⟨g, o, none⟩ : Addr).add i) = some u) := Lib.hid (fun i u hu => by
              have hi : i < j := by
                have := (List.getElem?_eq_some_iff.1 hu).1
                simp at this; omega
              refine (hI6.below hW).news 0 i u ?_
              rw [List.drop_zero, ← hu, List.map_take, List.getElem?_take, if_pos hi])
            have s1 : Hid (((L.take j).map fun i : Nat => Value.int .i64 (i : Int)).length = j * 1) := Lib.hid (by simp; omega)
            have s2 : Hid (∀ u ∈ ((L.take j).map fun i : Nat => Value.int .i64 (i : Int)), u.oneCell' = true) := Lib.hid (fun u hu => by
              obtain ⟨x, _, rfl⟩ := List.mem_map.1 hu
              rfl)
            have t1 : Hid (((L.drop (j + 1)).map fun i : Nat => Value.int .i64 (i : Int)).length = (L.length - (j + 1)) * 1) := Lib.hid (by simp)
            have t2 : Hid (∀ u ∈ ((L.drop (j + 1)).map fun i : Nat => Value.int .i64 (i : Int)), u.oneCell' = true) := Lib.hid (fun u hu => by
              obtain ⟨x, _, rfl⟩ := List.mem_map.1 hu
              rfl)
            have HS5 : Hid (w6.heap.size ≤ (w6.drew.alloc (.cells #[] 3)).heap.size) := Lib.hid hW.size
            have HB7 : Hid (∀ w7, (w6.drew.alloc (.cells #[] 3)).grownBy w7 (some w6.heap.size) → Below w6.heap.size w6 w7) := Lib.hid (fun w7 hg => hW.grown hg hW.size (fun k hk => by cases hk; exact Nat.le_refl _))
            have hjc : j ≤ lcap := by omega
            have hwr : IntKind.i64.wrap ((j : Int) + 1) = (j : Int) + 1 := by rw [IntKind.wrap_i64]; omega
            have hp0 : (0 : Int) ≤ (j : Int) + 1 := by omega
            have hp1 : (j : Int) + 1 ≤ (L.length : Int) := by omega
            have hp2 : ((j : Int) + 1).toNat = j + 1 := by omega
            have HI6 := Lib.hid hI6
            have HO6 := Lib.hid hown6
            clear hI6 hown6 hW
            go_wp2_with fail
            go_region_law (first
              | (refine step_append_own _ rfl (.tmp 47) (.tmp 51) 36 rfl w6.heap.size 3 i0 (.int .i64 0) 1 8 Tryd.underlying36 hi hz0 hz1 hz2 rfl (by decide) v7 (0 + j) _ (by simp [Act.eval]) hown7 A (L.length - (j + 1)) (lcap - (j + 1)) _ (by simp [Act.eval]) t1.out (HC2.out _ (HB7.out _ hg7)) t2.out (by unfold maxLen; omega) (by omega) (Nat.le_trans HS5.out hg7.size) ?_
                 intro v8 w8 hown8 hg8)
              | (refine step_append_own _ rfl (.tmp 43) (.tmp 46) 36 rfl w6.heap.size 3 i0 (.int .i64 0) 1 8 Tryd.underlying36 hi hz0 hz1 hz2 rfl (by decide) _ 0 [] (by simp [Act.eval]) HOW.out ⟨g, o, none⟩ j lcap _ (by simp [Act.eval]) s1.out HC1.out s2.out (by unfold maxLen; omega) (by omega) HS5.out ?_
                 intro v7 w7 hown7 hg7))
            have hb8 : Below w6.heap.size w6 w8 := (HB7.out _ hg7).trans ((Below.refl _ _).grown hg8 (Nat.le_trans HS5.out hg7.size) (fun k hk => (hown7.lt k hk).1))
            have hI8 : Ints w8 v8 ((L.take j ++ L.drop (j + 1)).map Int.ofNat) := by
              refine Ints.of_nats (base := w6.heap.size) (e := 3) (n := 0 + j + (L.length - (j + 1))) ?_
              rw [List.map_append]
              exact hown8
            have hlv := owns_lenV hown8
            have hap8 : ∀ b, v6.ownBlock = some b → v8.ownBlock ≠ some b := fun b h6 h8 => by
              have := (HO6.out.lt b h6).2
              have := (hown8.lt b h8).1
              omega
            have ho8 := owns_below HO6.out hb8
            have hbe := hb6.trans (hb8.mono hs6)
            clear HB7 HC1 HC2 HOW HI6 HO6 hown7 hg7 hown8 hg8 hb8
            go_simp
            go_wp2
            go_roundw
            case rel => exact ⟨L.take j ++ L.drop (j + 1), O ++ [y], i + 1, by go_num, by have := HOI.out; rw [List.length_append]; simp; omega, by simpa using ho8, hI8, hap8, HPM.out, hbe⟩
            case measure => rw [hlv]; simp [lenV]; omega
          · have hbii : ¬ (i : Int) < (bs.length : Int) := by omega
            obtain ⟨j, hj⟩ : ∃ j : Nat, (0 : Int) = (j : Int) ∧ j < L.length := ⟨0, rfl, h0⟩
            obtain ⟨hj0, hjl⟩ := hj
            go_upto_region 13 with fail
            rw [hj0]
            clear hj0
            obtain ⟨g, o, hgo, hcj⟩ := ints_at hI hjl
            cases hgo
            have hji : (j : Int) < (L.length : Int) := by omega
            have HPM : Hid ((O ++ [L[j]] ++ (L.take j ++ L.drop (j + 1))).Perm (List.range k)) := Lib.hid ((perm_take O L j hjl).trans HP.out)
            have HLM : Hid ((L.take j ++ L.drop (j + 1)).length + 1 = L.length) := Lib.hid (by simp; omega)
            generalize L[j] = y at *
            have HI := Lib.hid hI
            have HAP := Lib.hid hap
            clear hI hap
            go_wp2_with (at_builtin; refine wpList_append_own _ rfl _ _ 36 rfl w.heap.size 3 i0 (.int .i64 0) 1 8 Tryd.underlying36 hi hz0 hz1 hz2 rfl (by decide) _ _ _ rfl (hown.alloc _) ⟨_, 0, none⟩ 1 1 [.int .i64 (y : Int)] rfl rfl ?c1 ?c2 ?c3 ?c4 ?c5 ?_)
            try case c1 => exact cell_one_new _ _ _
            case c2 => first | rfl | (intro u hu; simp at hu; subst hu; rfl)
            case c3 => unfold maxLen; omega
            case c4 => omega
            case c5 => have := hb.size; simp; omega
            intro v6 w6 hown6 hg6 _
            have hsz := hb.size
            have hb6 : Below w.heap.size w w6 := hb.trans (below_app (Below.refl _ _) hsz hown hg6)
            have hI6 : Ints w6 (.slice (some ⟨g, o, none⟩) L.length lcap) (L.map Int.ofNat) := by
              have h := (HI.out.below ((Below.refl _ _).alloc (Nat.le_refl _) _)).grown hg6 HAP.out
              exact h
            clear hown hg6 hb hcj HI HAP
            have hs6 := hb6.size
            have hW : Below w6.heap.size w6 (w6.drew.alloc (.cells #[] 3)) := (⟨rfl, rfl, rfl, Nat.le_refl _, fun _ _ => rfl⟩ : Below w6.heap.size w6 w6.drew).alloc (Nat.le_refl _) _
            have HOW := Lib.hid (World.ownsRow_made (base := w6.heap.size) (e := 3) (size := 1) w6.drew #[] 0 (Nat.le_refl _) (by decide) rfl)
            obtain ⟨A, hA, HC2⟩ : ∃ A : Addr, (if lcap = j + 1 then some (⟨g, o, none⟩ : Addr) else some ⟨g, o + (j + 1), none⟩) = some A ∧ Hid (∀ w7, Below w6.heap.size w6 w7 → ∀ i u, ((L.drop (j + 1)).map fun i : Nat => Value.int .i64 (i : Int))[i]? = some u → w7.cell? (A.add i) = some u) := by
              by_cases h : lcap = j + 1
              · refine ⟨⟨g, o, none⟩, by simp [h], fun w7 hb7 i u hu => ?_⟩
                rw [List.drop_eq_nil_of_le (by omega)] at hu
                simp at hu
              · exact ⟨⟨g, o + (j + 1), none⟩, by simp [h], fun w7 hb7 => (hI6.below hb7).news (j + 1)⟩
            have HC1 : Hid (∀ i u, ((L.take j).map fun i : Nat => Value.int .i64 (i : Int))[i]? = some u → (w6.drew.alloc (.cells #[] 3)).cell? ((⟨g, o, none⟩ : Addr).add i) = some u) := Lib.hid (fun i u hu => by
              have hi : i < j := by
                have := (List.getElem?_eq_some_iff.1 hu).1
                simp at this; omega
              refine (hI6.below hW).news 0 i u ?_
              rw [List.drop_zero, ← hu, List.map_take, List.getElem?_take, if_pos hi])
            have s1 : Hid (((L.take j).map fun i : Nat => Value.int .i64 (i : Int)).length = j * 1) := Lib.hid (by simp; omega)
            have s2 : Hid (∀ u ∈ ((L.take j).map fun i : Nat => Value.int .i64 (i : Int)), u.oneCell' = true) := Lib.hid (fun u hu => by
              obtain ⟨x, _, rfl⟩ := List.mem_map.1 hu
              rfl)
            have t1 : Hid (((L.drop (j + 1)).map fun i : Nat => Value.int .i64 (i : Int)).length = (L.length - (j + 1)) * 1) := Lib.hid (by simp)
            have t2 : Hid (∀ u ∈ ((L.drop (j + 1)).map fun i : Nat => Value.int .i64 (i : Int)), u.oneCell' = true) := Lib.hid (fun u hu => by
              obtain ⟨x, _, rfl⟩ := List.mem_map.1 hu
              rfl)
            have HS5 : Hid (w6.heap.size ≤ (w6.drew.alloc (.cells #[] 3)).heap.size) := Lib.hid hW.size
            have HB7 : Hid (∀ w7, (w6.drew.alloc (.cells #[] 3)).grownBy w7 (some w6.heap.size) → Below w6.heap.size w6 w7) := Lib.hid (fun w7 hg => hW.grown hg hW.size (fun k hk => by cases hk; exact Nat.le_refl _))
            have hjc : j ≤ lcap := by omega
            have hwr : IntKind.i64.wrap ((j : Int) + 1) = (j : Int) + 1 := by rw [IntKind.wrap_i64]; omega
            have hp0 : (0 : Int) ≤ (j : Int) + 1 := by omega
            have hp1 : (j : Int) + 1 ≤ (L.length : Int) := by omega
            have hp2 : ((j : Int) + 1).toNat = j + 1 := by omega
            have HI6 := Lib.hid hI6
            have HO6 := Lib.hid hown6
            clear hI6 hown6 hW
            go_wp2_with fail
            go_region_law (first
              | (refine step_append_own _ rfl (.tmp 47) (.tmp 51) 36 rfl w6.heap.size 3 i0 (.int .i64 0) 1 8 Tryd.underlying36 hi hz0 hz1 hz2 rfl (by decide) v7 (0 + j) _ (by simp [Act.eval]) hown7 A (L.length - (j + 1)) (lcap - (j + 1)) _ (by simp [Act.eval]) t1.out (HC2.out _ (HB7.out _ hg7)) t2.out (by unfold maxLen; omega) (by omega) (Nat.le_trans HS5.out hg7.size) ?_
                 intro v8 w8 hown8 hg8)
              | (refine step_append_own _ rfl (.tmp 43) (.tmp 46) 36 rfl w6.heap.size 3 i0 (.int .i64 0) 1 8 Tryd.underlying36 hi hz0 hz1 hz2 rfl (by decide) _ 0 [] (by simp [Act.eval]) HOW.out ⟨g, o, none⟩ j lcap _ (by simp [Act.eval]) s1.out HC1.out s2.out (by unfold maxLen; omega) (by omega) HS5.out ?_
                 intro v7 w7 hown7 hg7))
            have hb8 : Below w6.heap.size w6 w8 := (HB7.out _ hg7).trans ((Below.refl _ _).grown hg8 (Nat.le_trans HS5.out hg7.size) (fun k hk => (hown7.lt k hk).1))
            have hI8 : Ints w8 v8 ((L.take j ++ L.drop (j + 1)).map Int.ofNat) := by
              refine Ints.of_nats (base := w6.heap.size) (e := 3) (n := 0 + j + (L.length - (j + 1))) ?_
              rw [List.map_append]
              exact hown8
            have hlv := owns_lenV hown8
            have hap8 : ∀ b, v6.ownBlock = some b → v8.ownBlock ≠ some b := fun b h6 h8 => by
              have := (HO6.out.lt b h6).2
              have := (hown8.lt b h8).1
              omega
            have ho8 := owns_below HO6.out hb8
            have hbe := hb6.trans (hb8.mono hs6)
            clear HB7 HC1 HC2 HOW HI6 HO6 hown7 hg7 hown8 hg8 hb8
            go_simp
            go_wp2
            go_roundw
            case rel => exact ⟨L.take j ++ L.drop (j + 1), O ++ [y], i + 1, by go_num, by have := HOI.out; rw [List.length_append]; simp; omega, by simpa using ho8, hI8, hap8, HPM.out, hbe⟩
            case measure => rw [hlv]; simp [lenV]; omega
end Go.Proofs.YtflalehpdngklaaDoor

namespace Go.Proofs.YtflalehpdngklaaDoor
set_option maxRecDepth 100000
open Go.RowKit

/-- What lies in the block of the case that is handed in. -/
def CaseS (p : Nat) (vh : Value) (a : Nat) (vb : Value) (w : World) : Prop := w.cell? ⟨p, 0, none⟩ = some vh ∧ w.cell? ⟨p, 1, none⟩ = some (.int .u8 a) ∧ w.cell? ⟨p, 2, none⟩ = some vb
theorem CaseS.below {p a : Nat} {vh vb : Value} {w w' : World} (h : CaseS p vh a vb w) (hb : Below w.heap.size w w') : CaseS p vh a vb w' := by
  obtain ⟨h0, h1, h2⟩ := h
  exact ⟨(hb.cell (p := ⟨p, 0, none⟩) (block_lt h0)).trans h0, (hb.cell (p := ⟨p, 1, none⟩) (block_lt h1)).trans h1, (hb.cell (p := ⟨p, 2, none⟩) (block_lt h2)).trans h2⟩
end Go.Proofs.YtflalehpdngklaaDoor

namespace Go.Proofs.YtflalehpdngklaaDoor
set_option maxRecDepth 100000
open Go.RowKit

theorem plSeeI_out {h : List TxnV} {C : Nat} {r : List Nat} {i : Nat} (hlt : ∀ k ∈ r, k < 64) (hi : i ∉ r) : plSeeI h C r (i : Int) = 0 := by
  unfold plSeeI
  have : hasB (plS r) (i : Int) = false := by
    unfold hasB
    rw [Int.toNat_natCast, plS_bit i r hlt, decide_eq_false hi, Bool.and_false]
  rw [this]; rfl
theorem tryP_in {h : List TxnV} {C : Nat} {r : List Nat} {i : Nat} (hi : i ∈ r) : tryP h C r i = false := by
  unfold tryP
  rw [decide_eq_true hi]; simp
theorem tryP_out {h : List TxnV} {C : Nat} {r : List Nat} {i : Nat} (ht : tryP h C r i = true) : i < h.length ∧ i ∉ r := by
  unfold tryP at ht
  simp only [Bool.and_eq_true, decide_eq_true_eq, Bool.not_eq_true', decide_eq_false_iff_not] at ht
  exact ⟨ht.1, ht.2.1⟩
theorem rowx_at {S n cap : Nat} {vr : Value} {w : World} {ao : Option Addr} {L : List Nat} (h : RowX S vr w (.slice ao n cap) L.length 1 (L.map fun i : Nat => Value.int .i64 (i : Int))) {k : Nat} (hk : k < L.length) : ∃ g o, ao = some ⟨g, o, none⟩ ∧ w.cell? ⟨g, o + k, none⟩ = some (.int .i64 (L[k] : Int)) := by
  obtain ⟨⟨_, ao', cap', he, hm, _, hc⟩, _⟩ := h
  obtain ⟨rfl, _, _⟩ : ao = ao' ∧ n = L.length ∧ cap = cap' := by simpa using he
  obtain ⟨b, off, rfl, hcell⟩ := hc (by omega)
  refine ⟨b, off, rfl, ?_⟩
  rw [hcell k (by omega)]
  simp [List.getElem?_eq_getElem hk]
set_option maxRecDepth 100000 in
set_option maxHeartbeats 16000000 in
theorem back14_walk (vh vb : Value) (h : List TxnV) (bs : List Int) (a : Nat) (w : World) (ht : Tab w) (hT : Txns w vh h) (hok : ∀ t ∈ h, t.ok) (hsh : Short h) (hB : Row w vb bs.length 1 (bs.map (Value.int .u8))) (hbs : ∀ x ∈ bs, 0 ≤ x ∧ x < 256) (ha : a < 256) :
    Calls Tryd.prog 4 #[.agg #[vh, .int .u8 a, vb]] w fun e w' => e = .returned (.bool true) ∧ Below w.heap.size w w' := by
  have hg := ht.pos
  have HT : Hid (∀ wx, Below w.heap.size w wx → Tab wx) := Lib.hid (fun wx hb => ht.below hb hg)
  have HH := Lib.hid (fun wx (hx : Below w.heap.size w wx) => hT.below hx)
  have HBY := Lib.hid (fun wx (hx : Below w.heap.size w wx) => hB.below hx)
  obtain ⟨ao, cap, rfl, hal⟩ := hT.form
  have HOK := Lib.hid hok
  have HSH := Lib.hid hsh
  have HBS := Lib.hid hbs
  have hbx := box_below w (.cells #[.slice ao h.length cap, .int .u8 a, vb] 45)
  have hC0 : CaseS w.heap.size (.slice ao h.length cap) a vb (w.alloc (.cells #[.slice ao h.length cap, .int .u8 a, vb] 45)) := by
    refine ⟨?_, ?_, ?_⟩ <;> (rw [cell_of_row _ _ _ _ _ _ (heap_alloc_new w _)]; rfl)
  obtain ⟨bo, bcap, rfl⟩ : ∃ bo bcap, vb = .slice bo bs.length bcap := by
    obtain ⟨_, bo, bcap, e, _⟩ := hB
    exact ⟨bo, bcap, e⟩
  clear ht hT hok hB hbs
  go_enter Tryd.func4, Tryd.ntmps4
  go_upto_region 1 with fail
  generalize w.alloc (.cells #[.slice ao h.length cap, .int .u8 a, .slice bo bs.length bcap] 45) = w0 at *
  go_wp2_with fail
  refine (speaks14_any _ (HT.out _ hbx)).mono ?_
  rintro e w1 ⟨rfl, hb1⟩
  have hC1 := hC0.below hb1
  have hb1 := below_then hbx hb1
  obtain ⟨n0, n1, n2⟩ := hC1
  go_wp2_with fail
  refine (small_any _ h _ (HH.out _ hb1) HSH.out).mono ?_
  rintro e w2 ⟨rfl, hb2⟩
  have hC2 := CaseS.below ⟨n0, n1, n2⟩ hb2
  have hb2 := below_then hb1 hb2
  clear n0 n1 n2 hb1 hC0 hbx
  by_cases hs : smallI h = 0
  · rw [hs]
    go_wp2_with fail
    go_ret
    exact ⟨rfl, hb2⟩
  obtain ⟨h7, hc, h1⟩ := small_no hs
  rw [h1]
  have CO := Lib.hid (of_done _ h w2 (HH.out _ hb2) HOK.out HSH.out hc)
  have HC := Lib.hid hc
  clear hs h1 hc hsh
  obtain ⟨n0, n1, n2⟩ := hC2
  go_wp2_with fail
  refine (CO.out).mono ?_
  rintro e w3 ⟨⟨B, rfl, hB, hO⟩, hb3⟩
  have hC3 := CaseS.below ⟨n0, n1, n2⟩ hb3
  have hb3 := below_then hb2 hb3
  have hwa : IntKind.i64.wrap (a : Int) = (a : Int) := by rw [IntKind.wrap_i64]; omega
  have CN := Lib.hid (pnew_any (a : Int) h B (B + 2) w3 hO HC.out (HT.out _ hb3))
  have hCl : clI (a : Int) < 9223372036854775808 := by have := clI_lt (a : Int); omega
  have HS := Lib.hid (fun wx (hx : Below w3.heap.size w3 wx) => hC3.below hx)
  have HW := Lib.hid (fun wx (hx : Below w3.heap.size w3 wx) => hb3.trans (hx.mono hb3.size))
  clear n0 n1 n2 hb2 CO hB hO
  obtain ⟨n0, n1, n2⟩ := hC3
  go_wp2_with fail
  refine (CN.out).mono ?_
  rintro e w4 ⟨S, vb2, aF, sF, rfl, p⟩
  clear n0 n1 n2 CN hwa
  obtain ⟨n0, n1, n2⟩ := HS.out _ p.bel
  have HCL := Lib.hid hCl
  clear hCl
  generalize clI (a : Int) = C at *
  have CR := Lib.hid (lrow_own h.length (by omega) _ bs w4 (HBY.out _ (HW.out _ p.bel)) HBS.out)
  have hS4 := p.a.lt
  go_wp2_with fail
  refine (CR.out).mono ?_
  rintro e w5 ⟨⟨v, L, rfl, hown, hP⟩, h5⟩
  have p := p.below h5
  have hX : RowX S (.slice none 0 0) w5 v L.length 1 (L.map fun i : Nat => Value.int .i64 (i : Int)) := ⟨Row.of_owns hown, fun _ _ g hg => ⟨by have := (hown.lt g hg).1; omega, by intro e; cases e⟩⟩
  have HL : Hid (∀ i ∈ L, i < h.length) := Lib.hid (fun i hi => List.mem_range.1 (hP.mem_iff.1 hi))
  have hLl : L.length = h.length := by rw [hP.length_eq, List.length_range]
  obtain ⟨va, vc, rfl⟩ := owns_form hown
  have h64 := (check_zero HC.out).1
  have HLL := Lib.hid hLl
  have hL7 : L.length ≤ 7 := by omega
  clear hown hP h5 hS4 CR n0 n1 n2 hLl
  go_wp2_with fail
  go_loopw [6, 40] (fun nv iv wr => ∃ (k : Nat) (r : List Nat) (vr : Value) (aF sF : Nat → Nat), k ≤ L.length ∧ iv = .int .i64 k ∧ nv = .int .i64 r.length ∧ PlIs w3 S B (B + 2) h C r vb2 vr aF sF wr ∧ RowX S vr wr (.slice va L.length vc) L.length 1 (L.map fun i : Nat => Value.int .i64 (i : Int))) (fun _ iv _ => L.length - (intOf iv).toNat)
  case atStart => exact ⟨0, [], _, _, _, by omega, rfl, rfl, p, hX⟩
  case round =>
    clear p hX
    obtain ⟨k, r, vr, aF, sF, hk, rfl, rfl, p, hX⟩ := hrel
    have hrl := p.len
    by_cases hlt : k < L.length
    · have hki : (k : Int) < (L.length : Int) := by omega
      obtain ⟨g, o, hao, hcell⟩ := rowx_at hX hlt
      cases hao
      have hil := HL.out _ (List.getElem_mem hlt)
      generalize L[k] = i at *
      have hlt64 : ∀ j ∈ r, j < 64 := fun j hj => by have := p.lt j hj; omega
      cases htr : tryP h C r i with
      | false =>
        have CT := Lib.hid (ptry_no p HC.out HCL.out (i : Int) (by rw [tryI_nat]; exact htr))
        have HP := Lib.hid (fun wx (hx : Below wr.heap.size wr wx) => And.intro (p.below hx) (hX.step (by omega) (PlStep.of_below (S := S) (vr := vr) hx)))
        clear htr p hX hlt64
        go_wp2_with fail
        refine (CT.out).mono ?_
        rintro e w6 ⟨rfl, h6⟩
        have hp := HP.out _ h6
        clear hcell CT HP
        go_wp2_with fail
        go_roundw
        case rel => exact ⟨k + 1, r, vr, aF, sF, by omega, by go_num, rfl, hp.1, hp.2⟩
        case measure => simp [intOf]; omega
      | true =>
        obtain ⟨_, hin⟩ := tryP_out htr
        have CT := Lib.hid (ptry_yes p HC.out HCL.out i htr)
        have HZ := Lib.hid (plSeeI_out (h := h) (C := C) hlt64 hin)
        have HTR := Lib.hid htr
        have HTN : Hid (tryI h C (i :: r) (i : Int) = false) := Lib.hid (by rw [tryI_nat]; exact tryP_in (List.mem_cons_self ..))
        have hr7 : r.length ≤ 7 := by omega
        have hX := Lib.hid hX
        clear htr p hlt64 hin
        go_wp2_with fail
        refine (CT.out).mono ?_
        rintro e w6 ⟨rfl, vr1, aF1, sF1, p1, s1⟩
        have X1 := Lib.hid (hX.out.step (by omega) s1)
        have CS := Lib.hid (psees_any (i : Int) p1 h64)
        have CU := Lib.hid (pundo_cons p1 h64)
        clear hcell CT p1 s1 hX
        obtain ⟨sv, hsv⟩ : ∃ sv, sv = plSeeI h C (i :: r) (i : Int) := ⟨_, rfl⟩
        rw [← hsv] at CS
        have HSV := Lib.hid hsv
        clear hsv
        go_wp2_with fail
        refine (CS.out).mono ?_
        rintro e wq ⟨rfl, rfl⟩
        go_wp2_with fail
        refine (CU.out).mono ?_
        rintro e w7 ⟨rfl, vr2, p2, s2⟩
        have X2 := Lib.hid (X1.out.step (by omega) s2)
        have CS := Lib.hid (psees_any (i : Int) p2 h64)
        rw [HZ.out] at CS
        have CT := Lib.hid (ptry_yes p2 HC.out HCL.out i HTR.out)
        clear CU p2 s2 X1
        go_wp2_with fail
        refine (CS.out).mono ?_
        rintro e wq ⟨rfl, rfl⟩
        go_wp2_with fail
        refine (CT.out).mono ?_
        rintro e w8 ⟨rfl, vr3, aF3, sF3, p3, s3⟩
        have X3 := Lib.hid (X2.out.step (by omega) s3)
        have CS := Lib.hid (psees_any (i : Int) p3 h64)
        rw [← HSV.out] at CS
        have CT := Lib.hid (ptry_no p3 HC.out HCL.out (i : Int) HTN.out)
        have HP := Lib.hid (fun wx (hx : Below w8.heap.size w8 wx) => And.intro (p3.below hx) (X3.out.step (by omega) (PlStep.of_below (S := S) (vr := vr3) hx)))
        clear p3 s3 X2 X3
        go_wp2_with fail
        refine (CS.out).mono ?_
        rintro e wq ⟨rfl, rfl⟩
        go_wp2_with fail
        refine (CT.out).mono ?_
        rintro e w9 ⟨rfl, h9⟩
        have hp := HP.out _ h9
        clear CS CT HP h9
        go_wp2_with fail
        go_roundw
        case rel => exact ⟨k + 1, i :: r, vr3, aF3, sF3, by omega, by go_num, by rw [List.length_cons]; go_num, hp.1, hp.2⟩
        case measure => simp [intOf]; omega
    · have hkn : ¬ (k : Int) < (L.length : Int) := by omega
      have hr7 : r.length ≤ 7 := by omega
      clear hX
      obtain ⟨N, hN⟩ : ∃ N, N = r.length := ⟨_, rfl⟩
      rw [← hN] at hr7 ⊢
      have HN := Lib.hid hN
      clear hN hrl
      go_wp2_with fail
      go_loopw [82] (fun jv wx => ∃ (j : Nat) (r : List Nat) (vr : Value) (aF sF : Nat → Nat), j ≤ N ∧ jv = .int .i64 j ∧ Hid (j + r.length = N) ∧ PlIs w3 S B (B + 2) h C r vb2 vr aF sF wx) (fun jv _ => N - (intOf jv).toNat)
      case atStart => exact ⟨0, r, vr, aF, sF, by omega, rfl, Lib.hid (by have := HN.out; omega), p⟩
      case round =>
        clear p
        obtain ⟨j, r, vr, aF, sF, hj, rfl, HJ, p⟩ := hrel
        cases r with
        | cons i r =>
          have hjl : (j : Int) < (N : Int) := by have := HJ.out; simp at this; omega
          have hjN : j < N := by have := HJ.out; simp at this; omega
          have CU := Lib.hid (pundo_cons p h64)
          clear p
          go_wp2_with fail
          refine (CU.out).mono ?_
          rintro e w7 ⟨rfl, vr2, p2, s2⟩
          clear CU
          go_wp2_with fail
          go_roundw
          case rel => exact ⟨j + 1, r, vr2, aF, sF, by omega, by go_num, Lib.hid (by have := HJ.out; simp at this; omega), p2⟩
          case measure => simp [intOf]; omega
        | nil =>
          have hjn : ¬ (j : Int) < (N : Int) := by have := HJ.out; simp at this; omega
          have CU := Lib.hid (pundo_nil p)
          have CP := Lib.hid (pplaced_any p)
          have CR := Lib.hid (prow_any p h64)
          have HF := Lib.hid (HW.out _ p.bel)
          rw [show plS [] = 0 from rfl] at CP
          clear p
          go_wp2_with fail
          refine (CU.out).mono ?_
          rintro e wq ⟨rfl, rfl⟩
          go_wp2_with fail
          refine (CP.out).mono ?_
          rintro e wq ⟨rfl, rfl⟩
          go_wp2_with fail
          refine (CR.out).mono ?_
          rintro e w9 ⟨v9, rfl, hI9, h9⟩
          obtain ⟨a9, c9, rfl, _⟩ := hI9.form
          have hz := below_then HF.out h9
          simp only [List.reverse_nil, List.map_nil, List.length_nil]
          go_wp2_with fail
          go_ret
          exact ⟨rfl, hz⟩
end Go.Proofs.YtflalehpdngklaaDoor
