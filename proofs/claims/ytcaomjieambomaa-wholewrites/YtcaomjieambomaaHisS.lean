/- The walk of the statement on what is needed of the others. Conditions: a slice's cells are known; a transaction has fewer operations than memory holds. -/
import Derived.Test.YtcaomjieambomaaHisR
import Derived.Deep.QuietTactic
import Derived.BigQuiet
namespace Go.Proofs.Ytcaomjieambomaa
set_option maxRecDepth 100000
open Go.RowKit

theorem spH1_may : mayT 0 1 2 [⟨true, 0, 5⟩] = true := by rfl
theorem spH1_ok (v : Value) : ∀ t ∈ spH1 v, t.ok := fun t ht => spH_ok v v t (by simp [spH1] at ht; subst ht; simp [spH])
theorem need_succ (F : Int → Option WV) {h : List TxnV} {N k : Nat} (hN : h.length = N + 1) (hk : k < h.length) :
    needB F N ((h.take N).take (k + 1)) = (needB F N ((h.take N).take k) || (decide (k ≠ N) && h[k].l.any (needO F N))) := by
  by_cases e : k = N
  · subst e
    have h1 : (h.take k).take (k + 1) = h.take k := List.take_of_length_le (by rw [List.length_take]; omega)
    have h2 : (h.take k).take k = h.take k := List.take_of_length_le (by rw [List.length_take]; omega)
    rw [h1, h2]; simp
  · have hlt : k < (h.take N).length := by rw [List.length_take]; omega
    rw [List.take_succ_eq_append_getElem hlt]
    unfold needB
    rw [List.any_append, List.getElem_take]
    simp [e]
theorem fieldW0 (i k : Int) (b : Bool) (w : World) : Sem.run Try.prog (Instr.field 37 (.agg #[.int .i64 i, .int .i64 k, .bool b]) 0) w = .ok (.int .i64 i) w := by kernel_rfl
theorem fieldW2 (i k : Int) (b : Bool) (w : World) : Sem.run Try.prog (Instr.field 37 (.agg #[.int .i64 i, .int .i64 k, .bool b]) 2) w = .ok (.bool b) w := by kernel_rfl
set_option maxHeartbeats 32000000 in
theorem whole3_walk (va : Value) (h : List TxnV) (w : World) (hT : Txns w va h) (hok : ∀ t ∈ h, t.ok) (hsh : Short h) :
    Calls Try.prog 7 #[va] w fun e w' => e = .returned (.bool true) ∧ Below w.heap.size w w' := by
  have HT := Lib.hid (fun wx (hx : Below w.heap.size w wx) => hT.below hx)
  obtain ⟨ao, cap, rfl, hal⟩ := hT.form
  have HOK := Lib.hid hok
  clear hT hok
  go_enter Try.func7, Try.ntmps7
  go_wp2_with fail
  refine (write_op 0 5 w).mono ?_
  rintro e w1 ⟨rfl, hb1⟩
  have hO1 : Ops _ (.slice (some ⟨w1.heap.size, 0, none⟩) 1 1) [⟨true, 0, 5⟩] := ((Row.of_owns (World.ownsRow_lit (base := 0) (e := 35) (size := 3) w1 #[.bool true, .int .i64 0, .int .i64 5] 1 (Nat.zero_le _) (by decide) rfl)).below (box_below _ (.cells #[.int .i64 0, .int .i64 1, .int .i64 2, .slice (some ⟨w1.heap.size, 0, none⟩) 1 1] 33))).below (box_below _ (.cells #[.int .i64 0, .int .i64 1, .int .i64 2, .slice (some ⟨w1.heap.size, 0, none⟩) 1 1] 33))
  have hR : Row _ _ 1 4 _ := Row.of_owns (World.ownsRow_lit (base := 0) (e := 33) (size := 4) ((w1.alloc (.cells #[.bool true, .int .i64 0, .int .i64 5] 35)).alloc (.cells #[.int .i64 0, .int .i64 1, .int .i64 2, .slice (some ⟨w1.heap.size, 0, none⟩) 1 1] 33)) #[.int .i64 0, .int .i64 1, .int .i64 2, .slice (some ⟨w1.heap.size, 0, none⟩) 1 1] 1 (Nat.zero_le _) (by decide) rfl)
  have hA := (At.new (w1.alloc (.cells #[.bool true, .int .i64 0, .int .i64 5] 35)) (.cells #[.int .i64 0, .int .i64 1, .int .i64 2, .slice (some ⟨w1.heap.size, 0, none⟩) 1 1] 33)).alloc (.cells #[.int .i64 0, .int .i64 1, .int .i64 2, .slice (some ⟨w1.heap.size, 0, none⟩) 1 1] 33)
  rw [show ((w1.alloc (.cells #[.bool true, .int .i64 0, .int .i64 5] 35)).alloc (.cells #[.int .i64 0, .int .i64 1, .int .i64 2, .slice (some ⟨w1.heap.size, 0, none⟩) 1 1] 33)).heap.size = w1.heap.size + 1 + 1 from by simp] at hR
  rw [show (w1.alloc (.cells #[.bool true, .int .i64 0, .int .i64 5] 35)).heap.size = w1.heap.size + 1 from by simp] at hA
  have hb2 := ((hb1.alloc hb1.size (.cells #[.bool true, .int .i64 0, .int .i64 5] 35)).alloc (by simp; exact Nat.le_succ_of_le hb1.size) (.cells #[.int .i64 0, .int .i64 1, .int .i64 2, .slice (some ⟨w1.heap.size, 0, none⟩) 1 1] 33)).alloc (by simp; have := hb1.size; omega) (.cells #[.int .i64 0, .int .i64 1, .int .i64 2, .slice (some ⟨w1.heap.size, 0, none⟩) 1 1] 33)
  go_wp2_with fail
  generalize ((w1.alloc (.cells #[.bool true, .int .i64 0, .int .i64 5] 35)).alloc (.cells #[.int .i64 0, .int .i64 1, .int .i64 2, .slice (some ⟨w1.heap.size, 0, none⟩) 1 1] 33)).alloc (.cells #[.int .i64 0, .int .i64 1, .int .i64 2, .slice (some ⟨w1.heap.size, 0, none⟩) 1 1] 33) = w2 at *
  generalize w1.heap.size = a1 at *
  have hT1 : Txns w2 (.slice (some ⟨a1 + 1 + 1, 0, none⟩) 1 1) (spH1 (.slice (some ⟨a1, 0, none⟩) 1 1)) := ⟨hR, fun t ht => by
    simp [spH1] at ht
    subst ht
    exact hO1⟩
  clear hR hb1
  refine (hwrites_any _ _ _ hT1 (spH1_ok _) (fun t ht => by simp [spH1] at ht; subst ht; simp [keysIn]) (show (1 : Nat) ≤ 100000 by omega) (show (1 : Nat) ≤ 100000 by omega)).mono ?_
  rintro e w4 ⟨hb4, ⟨hno, _⟩ | ⟨_, b, n, rfl, hbb, hM⟩⟩
  · cases hno
  have hM : MapI eW Try.prog 3 w4 b n (wrTo (spH1 (.slice (some ⟨a1, 0, none⟩) 1 1)) 1) 1 := hM
  obtain ⟨x0, x1, x2, x3⟩ := (hA.below hb4).cells4
  have hO4 := hO1.below hb4
  have hb5 := below_then hb2 hb4
  have hk5 : InI 5 := by decide
  have HK := lookI_run (t := 28) (el := 37) (w := w4) false keyI mapIW wZ (zeroW _) hM hk5
  rw [spH1_wr] at HK
  simp only [Bool.false_eq_true, if_false, Option.getD_some, eW] at HK
  clear hT1 hA hM hO1 hb2 hb4 hbb
  have HF2 := fun (w : World) => fieldW2 0 0 true w
  go_wp2_with fail
  refine (tright_any 0 1 2 _ _ _ hO4).mono ?_
  rintro e w5 ⟨rfl, hb6⟩
  rw [spH1_may]
  have hb6 := below_then hb5 hb6
  clear HK x0 x1 x2 x3 hO4 hb5
  go_wp2_with fail
  refine (big_any _ h _ (HT.out _ hb6) hsh).mono ?_
  rintro e w6 ⟨rfl, hb7⟩
  have hb7 := below_then hb6 hb7
  clear hb6
  by_cases hbig : bigI h = 1
  · rw [hbig]
    go_wp2_with fail
    go_ret
    exact ⟨rfl, hb7⟩
  have h0 : bigI h = 0 := by
    unfold bigI at hbig ⊢; split at hbig
    · exact (hbig rfl).elim
    · rename_i hn; rw [if_neg hn]
  obtain ⟨hs1, hs2⟩ := big_no h0
  rw [h0]
  clear hbig h0
  go_wp2_with fail
  refine (rcheck_any _ h _ (HT.out _ hb7) hsh).mono ?_
  rintro e w7 ⟨rfl, hb8⟩
  have hb8 := below_then hb7 hb8
  clear hb7
  rcases checkR_cases h with ⟨hc, hmay⟩ | hc | hc
  rotate_left
  · rw [hc]
    go_wp2_with fail
    go_ret
    exact ⟨rfl, hb8⟩
  · rw [hc]
    go_wp2_with fail
    go_ret
    exact ⟨rfl, hb8⟩
  have hc2 := Lib.hid hc
  rw [hc]
  by_cases hz : h.length = 0
  · have hz' : (h.length : Int) = 0 := by omega
    go_wp2_with fail
    go_ret
    exact ⟨rfl, hb8⟩
  have hz' : ((h.length : Int) == 0) = false := by rw [beq_eq_false_iff_ne]; omega
  obtain ⟨hokw, hks⟩ := may_parts hmay
  go_wp2_with fail
  refine (hwrites_any _ h _ (HT.out _ hb8) HOK.out hks (by omega) (by omega)).mono ?_
  rintro e w8 ⟨hb9, ⟨hno, _⟩ | ⟨_, B, n0, rfl, hB, hM0⟩⟩
  · rw [hokw] at hno; cases hno
  have hb9 := below_then hb8 hb9
  have hwr : wrap64 ((h.length : Int) - 1) = (h.length : Int) - 1 := wrap64_small (by omega) (by omega)
  have hc0 := hc2
  clear hb8 hokw hc
  go_wp2_with fail
  obtain ⟨N, hN⟩ : ∃ N, h.length = N + 1 := ⟨h.length - 1, by omega⟩
  have HRF := Lib.hid (fun k (hk : k < h.length) o (ho : o ∈ h[k].l) wo => reads_F hmay hk ho wo)
  have HPR := Lib.hid (prefix_ref hN hmay)
  have HKS := Lib.hid hks
  have HNS := Lib.hid (fun k (hk : k < h.length) => need_succ (wrTo h h.length) hN hk)
  generalize wrTo h h.length = F at *
  generalize (wvH h).length = cnt at *
  have HN := Lib.hid hN
  have hN2 : (h.length : Int) - 1 = (N : Int) := by omega
  clear hks hmay hwr hz hz' hN
  simp only [hN2]
  go_loopw [9, 65] (fun nd i wr => ∃ k : Nat, k ≤ h.length ∧ i = .int .i64 k ∧ nd = .bool (needB F N ((h.take N).take k)) ∧ MapI eW Try.prog 3 wr B n0 F cnt ∧ Below w.heap.size w wr) (fun _ i _ => h.length - (intOf i).toNat)
  case atStart => exact ⟨0, by omega, rfl, by simp [needB], hM0, hb9⟩
  case round =>
    obtain ⟨k, hk, rfl, rfl, hM, hb⟩ := hrel
    clear hM0 hb9
    by_cases hlt : k < h.length
    · have hki : (k : Int) < (h.length : Int) := by omega
      obtain ⟨g, o, hao, c0, c1, c2, c3⟩ := (HT.out _ hb).at hlt
      cases hao
      have hOps := fun wx (hx : Below w.heap.size w wx) => (HT.out wx hx).ops hlt
      have hon := opsN_take h k hlt
      have hol := opsN_le h (k + 1)
      have HTK := Lib.hid (HOK.out h[k] (List.getElem_mem hlt))
      have HKK := Lib.hid (HKS.out h[k] (List.getElem_mem hlt))
      have HRD := Lib.hid (HRF.out k hlt)
      have HNK := Lib.hid (HNS.out k hlt)
      generalize h[k] = t at *
      obtain ⟨s, b, cc, v, l⟩ := t
      simp only at c0 c1 c2 c3 hOps hon HTK HKK HRD HNK
      obtain ⟨ai, capi, rfl, hli⟩ := (hOps wr hb).form
      have HOP := Lib.hid hOps
      have hM1 := hM.alloc (.cells #[.int .i64 s, .int .i64 b, .int .i64 cc, .slice ai l.length capi] 33)
      have hbb := hb.alloc hb.size (.cells #[.int .i64 s, .int .i64 b, .int .i64 cc, .slice ai l.length capi] 33)
      clear hOps hM hb
      generalize needB F N ((h.take N).take k) = nd0 at *
      go_wp2_with fail
      have hA0 := At.new wr (.cells #[.int .i64 s, .int .i64 b, .int .i64 cc, .slice ai l.length capi] 33)
      generalize wr.alloc (.cells #[.int .i64 s, .int .i64 b, .int .i64 cc, .slice ai l.length capi] 33) = w5 at *
      generalize hpp : wr.heap.size = p at *
      have hA1 : At w5 p (.cells #[.int .i64 s, .int .i64 b, .int .i64 cc, .slice ai l.length capi] 33) := hA0
      clear hA0 c0 c1 c2 c3
      refine (reads_any s b cc _ l _ (HOP.out _ hbb) HTK.out.2 (by omega)).mono ?_
      rintro e w9 ⟨vr, out, rfl, hOR, hRise, hle2, hb10⟩
      obtain rfl := hRise.eq (refReads_rise HKK.out)
      have hOR := (hOR.base (base' := 0) (Nat.zero_le _)).ops
      have HRM : Hid (∀ r ∈ refReads l, r ∈ l ∧ r.wr = false) := Lib.hid (fun r hr => by
        have h1 := (hRise.2 r).1 hr
        exact ⟨(firstO_key h1.1).2, h1.2⟩)
      have hb11 := below_then hbb hb10
      have HX : Hid (∀ wx, Below w9.heap.size w9 wx → MapI eW Try.prog 3 wx B n0 F cnt ∧ At wx p (.cells #[.int .i64 s, .int .i64 b, .int .i64 cc, .slice ai l.length capi] 33) ∧ Ops wx vr (refReads l) ∧ Below w.heap.size w wx) :=
        Lib.hid (fun wx hx => ⟨(hM1.below hb10).below hx, (hA1.below hb10).below hx, hOR.below hx, below_then hb11 hx⟩)
      clear hRise hM1 hbb hA1 hb10 hb11
      generalize refReads l = R at *
      obtain ⟨ar, capr, rfl, hlr⟩ := hOR.form
      clear hOR
      go_wp2_with fail
      go_loopw [73] (fun i wx => ∃ j : Nat, j ≤ R.length ∧ i = .int .i64 j ∧ Below w9.heap.size w9 wx) (fun i _ => R.length - (intOf i).toNat)
      case atStart => exact ⟨0, by omega, rfl, Below.refl _ _⟩
      case round =>
        obtain ⟨j, hj, rfl, hb⟩ := hrel
        by_cases hltj : j < R.length
        · have hkj : (j : Int) < (R.length : Int) := by omega
          obtain ⟨hM2, hA2, hO2, hbw⟩ := HX.out _ hb
          obtain ⟨g2, o2, hao2, e0, e1, e2⟩ := hO2.at hltj
          cases hao2
          obtain ⟨hin, hwo⟩ := HRM.out R[j] (List.getElem_mem hltj)
          have hD := HRD.out R[j] hin hwo
          have hox := HTK.out.2 R[j] hin
          generalize R[j] = x at *
          obtain ⟨xw, xk, xv⟩ := x
          simp only at e0 e1 e2 hwo hD
          subst hwo
          have hkv := inI_of hox.2
          have hM3 := hM2.alloc (.cells #[.bool false, .int .i64 xk, .int .i64 xv] 35)
          have hb3 := hb.alloc hb.size (.cells #[.bool false, .int .i64 xk, .int .i64 xv] 35)
          clear hox hM2 hA2 hO2 hbw hin
          rcases hD with ⟨rfl, hF0⟩ | ⟨hv0, u, hFu, huk, hui⟩
          · have hb4 := hb3.alloc hb3.size (.cells #[.int .i64 0, .int .i64 0, .bool false] 37)
            go_wp2_with (first | (at_lookup; refine wpList_lookI_ok _ rfl _ _ 28 rfl 3 37 keyI mapIW wZ (zeroW _) _ _ _ _ rfl hM3 _ rfl hkv ?_; rw [hF0]; simp only [Option.getD_none, Option.isSome_none, eW, wZ]) | go_in)
            go_quiet (fail)
            go_wp2_with fail
            go_roundw
            case rel => exact ⟨j + 1, by omega, by go_num, by first | exact hb4 | exact hb4.drew | exact below_drewN hb4 _⟩
            case measure => simp [intOf]; omega
          · obtain ⟨ui, uk, ul⟩ := u
            simp only at huk hui
            subst huk
            have hb4 := hb3.alloc hb3.size (.cells #[.int .i64 ui, .int .i64 uk, .bool ul] 37)
            have hnz : (xv == 0) = false := by simpa using hv0
            go_wp2_with (first | (at_lookup; refine wpList_lookI_ok _ rfl _ _ 28 rfl 3 37 keyI mapIW wZ (zeroW _) _ _ _ _ rfl hM3 _ rfl hkv ?_; rw [hFu]; simp only [Option.getD_some, Option.isSome_some, eW]) | go_in)
            have hxo := (At.new wr (.cells #[.bool false, .int .i64 uk, .int .i64 xv] 35)).alloc (.cells #[.int .i64 ui, .int .i64 uk, .bool ul] 37)
            have hxw := At.new (wr.alloc (.cells #[.bool false, .int .i64 uk, .int .i64 xv] 35)) (.cells #[.int .i64 ui, .int .i64 uk, .bool ul] 37)
            rw [show (wr.alloc (.cells #[.bool false, .int .i64 uk, .int .i64 xv] 35)).heap.size = wr.heap.size + 1 from by simp] at hxw
            have CWR := Lib.hid (fun wx (hx : Below w9.heap.size w9 wx) => writer_any _ h uk xv wx (HT.out _ (HX.out _ hx).2.2.2))
            rw [hui] at CWR
            clear hM3 hb3 hFu hui
            have hnz2 : (xv != 0) = true := by simpa using hv0
            have hnz3 : decide (xv = 0) = false := by simpa using hv0
            generalize (wr.alloc (.cells #[.bool false, .int .i64 uk, .int .i64 xv] 35)).alloc (.cells #[.int .i64 ui, .int .i64 uk, .bool ul] 37) = w6 at *
            obtain ⟨y1, y2⟩ : w6.cell? ⟨wr.heap.size, 1, none⟩ = some (.int .i64 uk) ∧ w6.cell? ⟨wr.heap.size, 2, none⟩ = some (.int .i64 xv) := by unfold At at hxo; simp [World.cell?, hxo]
            obtain ⟨z0, z1⟩ : w6.cell? ⟨wr.heap.size + 1, 0, none⟩ = some (.int .i64 ui) ∧ w6.cell? ⟨wr.heap.size + 1, 1, none⟩ = some (.int .i64 uk) := by unfold At at hxw; simp [World.cell?, hxw]
            have hlo := hxo.lt
            have hlw := hxw.lt
            clear hxo hxw
            generalize wr.heap.size = p2 at *
            have kk := Below.refl w6.heap.size w6
            go_region_held3 (fun w' => w'.cell? ⟨p2, 1, none⟩ = some (.int .i64 uk) ∧ w'.cell? ⟨p2, 2, none⟩ = some (.int .i64 xv) ∧ w'.cell? ⟨p2 + 1, 0, none⟩ = some (.int .i64 ui) ∧ w'.cell? ⟨p2 + 1, 1, none⟩ = some (.int .i64 uk))
              (go_keep)
              (first
                | (go_at_call 22; refine (CWR.out _ (below_then hb4 (by first | exact kk | exact kk.drew | exact below_drewN kk _))).mono ?_; rintro e wx ⟨rfl, hbx⟩; have kk : Below w6.heap.size w6 wx := (by first | exact below_then kk hbx | exact below_then kk ⟨hbx.os, hbx.tape, hbx.output, hbx.size, hbx.block⟩); have y1 := (kk.cell (p := ⟨p2, 1, none⟩) hlo).trans y1; have y2 := (kk.cell (p := ⟨p2, 2, none⟩) hlo).trans y2; have z0 := (kk.cell (p := ⟨p2 + 1, 0, none⟩) hlw).trans z0; have z1 := (kk.cell (p := ⟨p2 + 1, 1, none⟩) hlw).trans z1))
            all_goals
              have hb7 := below_then hb4 kk
              clear CWR y1 y2 z0 z1
              go_wp2_with fail
              go_roundw
              case rel => exact ⟨j + 1, by omega, by go_num, hb7⟩
              case measure => simp [intOf]; omega
        · have hj2 : j = R.length := by omega
          subst hj2
          obtain ⟨hM2, hA2, _, hbw⟩ := HX.out _ hb
          obtain ⟨q0, q1, q2, q3⟩ := hA2.cells4
          have hOl := HOP.out _ hbw
          clear HX HRM HRD
          go_wp2_with fail
          go_loopw [9, 114] (fun nd i wx => ∃ j : Nat, j ≤ l.length ∧ i = .int .i64 j ∧ nd = .bool (nd0 || (decide (k ≠ N) && (l.take j).any (needO F N))) ∧ MapI eW Try.prog 3 wx B n0 F cnt ∧ At wx p (.cells #[.int .i64 s, .int .i64 b, .int .i64 cc, .slice ai l.length capi] 33) ∧ Below w.heap.size w wx) (fun _ i _ => l.length - (intOf i).toNat)
          case atStart => exact ⟨0, by omega, rfl, by simp, hM2, hA2, hbw⟩
          case round =>
            obtain ⟨j, hj, rfl, rfl, hM2, hA2, hb2⟩ := hrel
            clear q0 q1 q2 q3 hOl hbw hb
            by_cases hltj : j < l.length
            · have hkj : (j : Int) < (l.length : Int) := by omega
              obtain ⟨g2, o2, hao2, e0, e1, e2⟩ := (HOP.out _ hb2).at hltj
              cases hao2
              have HS : Hid ((nd0 || (decide (k ≠ N) && (l.take (j + 1)).any (needO F N))) = ((nd0 || (decide (k ≠ N) && (l.take j).any (needO F N))) || (decide (k ≠ N) && needO F N l[j]))) := Lib.hid (by
                rw [take_snoc l j hltj, List.any_append]
                cases nd0 <;> cases decide (k ≠ N) <;> simp)
              have hox := HTK.out.2 l[j] (List.getElem_mem hltj)
              generalize l[j] = x at *
              obtain ⟨xw, xk, xv⟩ := x
              simp only at e0 e1 e2
              have hkv := inI_of hox.2
              have hM3 := hM2.alloc (.cells #[.bool xw, .int .i64 xk, .int .i64 xv] 35)
              have hA3 := hA2.alloc (.cells #[.bool xw, .int .i64 xk, .int .i64 xv] 35)
              have hb3 := hb2.alloc hb2.size (.cells #[.bool xw, .int .i64 xk, .int .i64 xv] 35)
              clear hox hM2 hA2 hb2
              generalize (nd0 || (decide (k ≠ N) && (l.take j).any (needO F N))) = nd at *
              cases nd with
              | true =>
                  go_wp2_with fail
                  go_roundw
                  case rel => exact ⟨j + 1, by omega, by go_num, by rw [HS.out]; simp, hM3, hA3, hb3⟩
                  case measure => simp [intOf]; omega
              | false =>
                by_cases e : k = N
                · have e1' : ((k : Int) != (N : Int)) = false := by simp [e]
                  have e2' : ((k : Int) == (N : Int)) = true := by simp [e]
                  go_wp2_with fail
                  go_roundw
                  case rel => exact ⟨j + 1, by omega, by go_num, by rw [HS.out]; simp [needO, e], hM3, hA3, hb3⟩
                  case measure => simp [intOf]; omega
                · have e1' : ((k : Int) != (N : Int)) = true := by simp; omega
                  have e2' : ((k : Int) == (N : Int)) = false := by simp; omega
                  cases xw with
                  | true =>
                    go_wp2_with fail
                    go_roundw
                    case rel => exact ⟨j + 1, by omega, by go_num, by rw [HS.out]; simp [needO, e], hM3, hA3, hb3⟩
                    case measure => simp [intOf]; omega
                  | false =>
                    by_cases hv0 : xv = 0
                    · subst hv0
                      go_wp2_with fail
                      go_roundw
                      case rel => exact ⟨j + 1, by omega, by go_num, by rw [HS.out]; simp [needO, e], hM3, hA3, hb3⟩
                      case measure => simp [intOf]; omega
                    · have z1 : (xv != 0) = true := by simpa using hv0
                      have z2 : (xv == 0) = false := by simpa using hv0
                      have HK := lookI_run (t := 28) (el := 37) (w := wr.alloc (.cells #[.bool false, .int .i64 xk, .int .i64 xv] 35)) false keyI mapIW wZ (zeroW _) hM3 hkv
                      simp only [Bool.false_eq_true, if_false, eW] at HK
                      have HS2 : Hid ((false || (decide (k ≠ N) && needO F N ⟨false, xk, xv⟩)) = (((F xv).getD wZ).i == (N : Int))) := Lib.hid (by simp [needO, e, z1])
                      have hf := fieldW0 ((F xv).getD wZ).i ((F xv).getD wZ).key ((F xv).getD wZ).last
                      generalize (F xv).getD wZ = u at *
                      go_wp2_with fail
                      go_roundw
                      case rel => exact ⟨j + 1, by omega, by go_num, by rw [HS.out, HS2.out], hM3, hA3, hb3⟩
                      case measure => simp [intOf]; omega
            · have hj2 : j = l.length := by omega
              subst hj2
              have HE : Hid ((nd0 || (decide (k ≠ N) && (l.take l.length).any (needO F N))) = needB F N ((h.take N).take (k + 1))) := Lib.hid (by rw [List.take_length, HNK.out])
              generalize (nd0 || (decide (k ≠ N) && (l.take l.length).any (needO F N))) = nd at *
              go_wp2_with fail
              go_roundw
              case rel => exact ⟨k + 1, by omega, by go_num, by rw [HE.out], hM2, hb2⟩
              case measure => simp [intOf]; omega
    · have hkl : k = h.length := by omega
      subst hkl
      have hN := HN.out
      have HQ : Hid (needB F N ((h.take N).take h.length) = needB F N (h.take N)) := Lib.hid (by rw [List.take_of_length_le (by rw [List.length_take]; omega)])
      rw [HQ.out]
      have hHT := (HT.out _ hb).take (k := N) (by omega)
      have HNE : Hid (∀ t ∈ h.take N, t ∈ h) := Lib.hid (fun t ht => List.mem_of_mem_take ht)
      have hN2 : (h.length : Int) - 1 = (N : Int) := by omega
      have HCK := Lib.hid HPR.out
      generalize needB F N (h.take N) = nd at *
      obtain ⟨g, o, rfl, _⟩ := (HT.out _ hb).at (show 0 < h.length by omega)
      have hNc : (N : Int) ≤ (cap : Int) := by
        obtain ⟨_, ao', cap', he, hm, _⟩ := (HT.out _ hb).1
        have he2 := (Value.slice.inj he).2.2
        have := hm.1
        omega
      have hN0 : (0 : Int) ≤ (N : Int) := by omega
      have hNn : N ≤ cap := by omega
      have CC := Lib.hid (hcheck_any _ (h.take N) _ hHT (fun t ht => HOK.out t (HNE.out t ht)) (fun t ht => hsh t (HNE.out t ht)))
      have HCI : Hid (checkI (h.take N) = if !nd then 0 else 2) := Lib.hid (by
        rw [check_ref]
        unfold checkR
        have h1 := opsN_le h N
        have h2 : (h.take N).length = N := by rw [List.length_take]; omega
        have h3 : ¬ (64 < h.length ∨ 1024 < opsN h) := by
          intro hh; have := hc0.out; unfold checkR at this; rw [if_pos hh] at this; cases this
        rw [if_neg (by rw [h2]; omega), HCK.out])
      try simp only [hN2]
      go_wp2_with fail
      refine (CC.out).mono ?_
      rintro e w10 ⟨rfl, hb10⟩
      have hb11 := below_then hb hb10
      rw [HCI.out]
      clear CC HCI
      cases nd
      · go_wp2_with fail
        refine bodyPost_ret (v := .bool true) (by simp [results, Try.results7, go_sem]) rfl ⟨rfl, hb11⟩
      · go_wp2_with fail
        refine bodyPost_ret (v := .bool true) (by simp [results, Try.results7, go_sem]) rfl ⟨rfl, hb11⟩
end Go.Proofs.Ytcaomjieambomaa
