/- The walk of the law on who writes each value. Conditions: a slice's cells are known; a transaction has fewer operations than memory holds. -/
import Derived.Test.YtcaomjieambomaaHisP
import Derived.Deep.RegionHeld3
namespace Go.Proofs.Ytcaomjieambomaa
set_option maxRecDepth 100000
open Go.RowKit

theorem checkR_cases (h : List TxnV) : (checkR h = 0 ∧ mayRef h = true) ∨ checkR h = 2 ∨ checkR h = 3 := by
  unfold checkR
  split
  · exact .inr (.inr rfl)
  · cases mayRef h
    · exact .inr (.inl rfl)
    · exact .inl ⟨rfl, rfl⟩
theorem may_parts {h : List TxnV} (hm : mayRef h = true) : okW h = true ∧ ∀ t ∈ h, keysIn t.l := by
  rw [← right_ref] at hm
  unfold rightB valuesB at hm
  simp only [Bool.and_eq_true] at hm
  exact ⟨hm.2.1.1, parts_keys hm.1⟩
theorem neqW (i k : Int) (b : Bool) (w : World) : Sem.run Try.prog (binOp .neq 37 (.agg #[.int .i64 i, .int .i64 k, .bool b]) (.agg #[.int .i64 i, .int .i64 k, .bool b])) w = .ok (.bool false) w := by
  have hS : Try.prog.underlying 37 = some (.struct (Try.prog.fieldsOf 37)) := by kernel_rfl
  have hp : Try.prog.stoodInHeld 37 = false := by kernel_rfl
  have u3 := Try.underlying3
  have u4 := Try.underlying4
  rw [run_neq_struct, show (10000 : Nat) = 9999 + 1 from rfl, run_equalIn_agg w 9999 37 _ _ hS hp]
  simp only [Program.fieldsOf, Try.underlying37]
  go_simp
theorem snoc_cast (q0 : Nat) (A B : List Int) (x : Int) (h : A = B ++ [x]) : ((q0 + A.length : Nat) : Int) = (q0 : Int) + (B.length : Int) + 1 := by
  subst h; simp; omega
set_option maxHeartbeats 32000000 in
theorem writes6_walk (va : Value) (h : List TxnV) (w : World) (hT : Txns w va h) (hok : ∀ t ∈ h, t.ok) (hsh : Short h) :
    Calls Try.prog 4 #[va] w fun e w' => e = .returned (.bool true) ∧ Below w.heap.size w w' := by
  have HT := Lib.hid (fun wx (hx : Below w.heap.size w wx) => hT.below hx)
  obtain ⟨ao, cap, rfl, hal⟩ := hT.form
  have HOK := Lib.hid hok
  clear hT hok
  go_enter Try.func4, Try.ntmps4
  go_wp2_with fail
  refine (speaks6_any _).mono ?_
  rintro e w1 ⟨rfl, hb1⟩
  go_wp2_with fail
  refine (big_any _ h _ (HT.out _ hb1) hsh).mono ?_
  rintro e w2 ⟨rfl, hb2⟩
  have hb2 := below_then hb1 hb2
  clear hb1
  by_cases hbig : bigI h = 1
  · rw [hbig]
    go_wp2_with fail
    go_ret
    exact ⟨rfl, hb2⟩
  have h0 : bigI h = 0 := by
    unfold bigI at hbig ⊢; split at hbig
    · exact (hbig rfl).elim
    · rename_i hn; rw [if_neg hn]
  obtain ⟨hs1, hs2⟩ := big_no h0
  rw [h0]
  clear hbig h0
  go_wp2_with fail
  refine (rcheck_any _ h _ (HT.out _ hb2) hsh).mono ?_
  rintro e w3 ⟨rfl, hb3⟩
  have hb3 := below_then hb2 hb3
  clear hb2 hsh
  rcases checkR_cases h with ⟨hc, hmay⟩ | hc | hc
  rotate_left
  · rw [hc]
    go_wp2_with fail
    go_ret
    exact ⟨rfl, hb3⟩
  · rw [hc]
    go_wp2_with fail
    go_ret
    exact ⟨rfl, hb3⟩
  rw [hc]
  obtain ⟨hokw, hks⟩ := may_parts hmay
  have HAT := Lib.hid (wrTo_at hks h.length (Nat.le_refl _) (by rw [List.take_length]; unfold okW at hokw; simpa using hokw))
  clear hc hmay
  go_wp2_with fail
  refine (hwrites_any _ h _ (HT.out _ hb3) HOK.out hks (by omega) (by omega)).mono ?_
  rintro e w4 ⟨hb4, ⟨hno, _⟩ | ⟨_, B, n0, rfl, hB, hM0⟩⟩
  · rw [hokw] at hno; cases hno
  have hb4 := below_then hb3 hb4
  clear hb3 hokw hks
  have HLEN : Hid ((wvH (h.take h.length)).length = (wvH h).length) := Lib.hid (by rw [List.take_length])
  generalize wrTo h h.length = F at *
  generalize (wvH h).length = cnt at *
  go_wp2_with fail
  go_loopw [5, 27] (fun nn i wr => ∃ k : Nat, k ≤ h.length ∧ i = .int .i64 k ∧ nn = .int .i64 (wvH (h.take k)).length ∧ MapI eW Try.prog 3 wr B n0 F cnt ∧ Below w.heap.size w wr) (fun _ i _ => h.length - (intOf i).toNat)
  case atStart => exact ⟨0, by omega, rfl, by simp [wvH], hM0, hb4⟩
  case round =>
    obtain ⟨k, hk, rfl, rfl, hM, hb⟩ := hrel
    clear hM0 hb4
    by_cases hlt : k < h.length
    · have hki : (k : Int) < (h.length : Int) := by omega
      obtain ⟨g, o, hao, c0, c1, c2, c3⟩ := (HT.out _ hb).at hlt
      cases hao
      have HW := Lib.hid (wvH_succ h k hlt)
      have HWL := Lib.hid (wvH_len (h.take k))
      have hOps := fun wx (hx : Below w.heap.size w wx) => (HT.out wx hx).ops hlt
      have hon := opsN_take h k hlt
      have hol := opsN_le h (k + 1)
      have HTK := Lib.hid (HOK.out h[k] (List.getElem_mem hlt))
      have HA := Lib.hid (HAT.out k hlt hlt)
      generalize h[k] = t at *
      obtain ⟨s, b, cc, v, l⟩ := t
      simp only at c0 c1 c2 c3 HW hOps hon HTK HA
      obtain ⟨ai, capi, rfl, hli⟩ := (hOps wr hb).form
      have HOP := Lib.hid hOps
      have hpl := hM.lt
      have hM1 := hM.alloc (.cells #[.int .i64 s, .int .i64 b, .int .i64 cc, .slice ai l.length capi] 33)
      have hbb := hb.alloc hb.size (.cells #[.int .i64 s, .int .i64 b, .int .i64 cc, .slice ai l.length capi] 33)
      have hsz := hb.size
      clear hOps hM hb
      have hwl := HWL.out
      generalize wvH (h.take k) = W at *
      go_wp2_with fail
      have hA0 := At.new wr (.cells #[.int .i64 s, .int .i64 b, .int .i64 cc, .slice ai l.length capi] 33)
      generalize wr.alloc (.cells #[.int .i64 s, .int .i64 b, .int .i64 cc, .slice ai l.length capi] 33) = w5 at *
      generalize hpp : wr.heap.size = p at *
      have hA1 : At w5 p (.cells #[.int .i64 s, .int .i64 b, .int .i64 cc, .slice ai l.length capi] 33) := hA0
      clear hA0 c0 c1 c2 c3
      go_loopw [5, 35] (fun nn i wx => ∃ j : Nat, j ≤ l.length ∧ i = .int .i64 j ∧ nn = .int .i64 ((W.length + (wv (l.take j)).length : Nat) : Int) ∧ MapI eW Try.prog 3 wx B n0 F cnt ∧ At wx p (.cells #[.int .i64 s, .int .i64 b, .int .i64 cc, .slice ai l.length capi] 33) ∧ Below w.heap.size w wx) (fun _ i _ => l.length - (intOf i).toNat)
      case atStart => exact ⟨0, by omega, rfl, by simp [wv], hM1, hA1, hbb⟩
      case round =>
        obtain ⟨j, hj, rfl, rfl, hM2, hA2, hb2⟩ := hrel
        clear hM1 hA1 hbb
        by_cases hltj : j < l.length
        · have hkj : (j : Int) < (l.length : Int) := by omega
          obtain ⟨g2, o2, hao2, e0, e1, e2⟩ := (HOP.out _ hb2).at hltj
          cases hao2
          have HWJ : Hid (wv (l.take (j + 1)) = wv (l.take j) ++ (if l[j].wr then [l[j].val] else [])) := Lib.hid (by rw [take_snoc l j hltj, wv_snoc])
          have hox := HTK.out.2 l[j] (List.getElem_mem hltj)
          have HB := Lib.hid (HA.out l[j] (List.getElem_mem hltj))
          generalize l[j] = x at *
          obtain ⟨xw, xk, xv⟩ := x
          simp only at e0 e1 e2 HWJ HB
          have hkv := inI_of hox.2
          have hA3 := hA2.alloc (.cells #[.bool xw, .int .i64 xk, .int .i64 xv] 35)
          have hx3 := At.new wr (.cells #[.bool xw, .int .i64 xk, .int .i64 xv] 35)
          have hM3 := hM2.alloc (.cells #[.bool xw, .int .i64 xk, .int .i64 xv] 35)
          have hb3 := hb2.alloc hb2.size (.cells #[.bool xw, .int .i64 xk, .int .i64 xv] 35)
          have hwj := wv_len (l.take j)
          rw [List.length_take] at hwj
          clear hox hM2 hA2 hb2 HA HAT
          cases xw with
          | false =>
            simp only [Bool.false_eq_true, if_false, List.append_nil] at HWJ
            clear hx3
            go_wp2_with fail
            go_roundw
            case rel => exact ⟨j + 1, by omega, by go_num, by rw [HWJ.out], hM3, hA3, hb3⟩
            case measure => simp [intOf]; omega
          | true =>
            have HXL := Lib.hid (snoc_cast W.length _ _ xv (by simpa using HWJ.out))
            have HV := Lib.hid (HB.out rfl)
            clear HWJ HB
            generalize (wv (l.take j)).length = q at *
            generalize W.length = q0 at *
            have hwr : wrap64 ((q0 : Int) + (q : Int) + 1) = (q0 : Int) + (q : Int) + 1 := wrap64_small (by omega) (by omega)
            go_wp2_with fail
            have HK : Hid (∀ wx, Below (wr.alloc (.cells #[.bool true, .int .i64 xk, .int .i64 xv] 35)).heap.size (wr.alloc (.cells #[.bool true, .int .i64 xk, .int .i64 xv] 35)) wx → Sem.run Try.prog (Instr.lookup 28 (.map (some B)) (.int .i64 xv) false) wx = .ok (.agg #[.int .i64 k, .int .i64 xk, .bool (vOf l xk == xv)]) wx) := Lib.hid (fun wx hx => by
              have hK := lookI_run (t := 28) (el := 37) (w := wx) false keyI mapIW wZ (zeroW _) (hM3.below hx) hkv
              rw [HV.out] at hK
              simpa only [Bool.false_eq_true, if_false, Option.getD_some, eW] using hK)
            have HO := Lib.hid (fun wx (hx : Below (wr.alloc (.cells #[.bool true, .int .i64 xk, .int .i64 xv] 35)).heap.size (wr.alloc (.cells #[.bool true, .int .i64 xk, .int .i64 xv] 35)) wx) => HOP.out wx (below_then hb3 hx))
            have CL := Lib.hid (fun wx (ha : Ops wx (.slice (some ⟨g2, o2, none⟩) l.length capi) l) => rlast_any s b cc _ l xk xv wx ha)
            have HPA : Hid (∀ wx, Below (wr.alloc (.cells #[.bool true, .int .i64 xk, .int .i64 xv] 35)).heap.size (wr.alloc (.cells #[.bool true, .int .i64 xk, .int .i64 xv] 35)) wx → MapI eW Try.prog 3 wx B n0 F cnt ∧ At wx p (.cells #[.int .i64 s, .int .i64 b, .int .i64 cc, .slice (some ⟨g2, o2, none⟩) l.length capi] 33) ∧ Below w.heap.size w wx) := Lib.hid (fun wx hx => ⟨hM3.below hx, hA3.below hx, below_then hb3 hx⟩)
            obtain ⟨a0, a1, a2, a3⟩ := hA3.cells4
            have y0 : (wr.alloc (.cells #[.bool true, .int .i64 xk, .int .i64 xv] 35)).cell? ⟨wr.heap.size, 0, none⟩ = some (.bool true) := by simp
            have y1 : (wr.alloc (.cells #[.bool true, .int .i64 xk, .int .i64 xv] 35)).cell? ⟨wr.heap.size, 1, none⟩ = some (.int .i64 xk) := by simp
            have y2 : (wr.alloc (.cells #[.bool true, .int .i64 xk, .int .i64 xv] 35)).cell? ⟨wr.heap.size, 2, none⟩ = some (.int .i64 xv) := by simp
            have hltp := hA3.lt
            have hltx := hx3.lt
            clear hM3 hA3 hb3 hx3 HV e0 e1 e2
            generalize wr.alloc (.cells #[.bool true, .int .i64 xk, .int .i64 xv] 35) = w6 at *
            generalize wr.heap.size = p2 at *
            generalize (vOf l xk == xv) = bl at *
            have kk := Below.refl w6.heap.size w6
            have N0 := neqW (k : Int) xk bl
            have G0 := fun (x y : Operand) (w : World) => guardW .neq x y (k : Int) xk bl (k : Int) xk bl w
            have HK0 := HK.out _ kk.drew
            clear HWL HW HTK HOK HT
            go_region_held3 (fun w' => Sem.run Try.prog (Instr.lookup 28 (.map (some B)) (.int .i64 xv) false) w' = .ok (.agg #[.int .i64 k, .int .i64 xk, .bool bl]) w' ∧ w'.cell? ⟨p, 0, none⟩ = some (.int .i64 s) ∧ w'.cell? ⟨p, 1, none⟩ = some (.int .i64 b) ∧ w'.cell? ⟨p, 2, none⟩ = some (.int .i64 cc) ∧ w'.cell? ⟨p, 3, none⟩ = some (.slice (some ⟨g2, o2, none⟩) l.length capi) ∧ w'.cell? ⟨p2, 1, none⟩ = some (.int .i64 xk) ∧ w'.cell? ⟨p2, 2, none⟩ = some (.int .i64 xv))
              (go_keep)
              (first
                | (go_at_call 15; refine (CL.out _ (HO.out _ (by first | exact kk | exact kk.drew | exact below_drewN kk _))).mono ?_; rintro e wx ⟨rfl, hbx⟩; have kk : Below w6.heap.size w6 wx := (by first | exact below_then kk hbx | exact below_then kk ⟨hbx.os, hbx.tape, hbx.output, hbx.size, hbx.block⟩); have a0 := (kk.cell (p := ⟨p, 0, none⟩) hltp).trans a0; have a1 := (kk.cell (p := ⟨p, 1, none⟩) hltp).trans a1; have a2 := (kk.cell (p := ⟨p, 2, none⟩) hltp).trans a2; have a3 := (kk.cell (p := ⟨p, 3, none⟩) hltp).trans a3; have y1 := (kk.cell (p := ⟨p2, 1, none⟩) hltx).trans y1; have y2 := (kk.cell (p := ⟨p2, 2, none⟩) hltx).trans y2; have HK1 := HK.out wx kk))
            all_goals
              obtain ⟨hM7, hA7, hb7⟩ := HPA.out _ kk
              clear HK HO CL HPA HK0 HK1 a0 a1 a2 a3 y0 y1 y2 N0 G0
              go_wp2_with fail
              go_roundw
              case rel => exact ⟨j + 1, by omega, by go_num, by rw [HXL.out], hM7, hA7, hb7⟩
              case measure => simp [intOf]; omega
        · have hj2 : j = l.length := by omega
          subst hj2
          rw [List.take_length]
          have HW1 : Hid (((wvH (h.take (k + 1))).length : Int) = ((W.length + (wv l).length : Nat) : Int)) := Lib.hid (by rw [HW.out]; simp)
          go_wp2_with fail
          go_roundw
          case rel => exact ⟨k + 1, by omega, by go_num, by rw [HW1.out], hM2, hb2⟩
          case measure => simp [intOf]; omega
    · have hkl : k = h.length := by omega
      subst hkl
      rw [HLEN.out]
      obtain ⟨D, hD, hDs, _⟩ := id hM
      have HL := fun ty => hD.len mapIW ty
      rw [hDs] at HL
      clear hD hDs hM HT HAT HOK
      go_wp2_with fail
      refine bodyPost_ret (v := .bool true) (by simp [results, Try.results4, go_sem]) rfl ⟨rfl, hb⟩
end Go.Proofs.Ytcaomjieambomaa
