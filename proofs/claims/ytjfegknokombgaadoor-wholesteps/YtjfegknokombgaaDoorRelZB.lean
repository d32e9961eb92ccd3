/- The walk of the statement on steps: it answers true. Condition: First's library table lies where it is laid; the slice's cells are known. (Written by gen_steps.py.) -/
import Derived.Test.YtjfegknokombgaaDoorRelZ
import Derived.Test.YtjfegknokombgaaDoorRelW
import Derived.Test.YtjfegknokombgaaDoorRelO
import Derived.Deep.RegionHeld
namespace Go.Proofs.YtjfegknokombgaaDoor
set_option maxRecDepth 100000
open Go.RowKit

theorem yields_load_rel {ops : Array Oper} {S : World → Prop} {o : Oper} {a : Act} {g : Nat} {R : Mat} (hw : Region.wanted o (yielded ops a.tmps) = true) (x : Operand) (ho : o.op = .load 27 x)
    (hx : a.eval x = .pointer (some ⟨g, 0, none⟩)) (hS : ∀ w, S w → RelAt w g 27 R) : YieldsIf Tryd.prog ops S o (.agg (rowsA R)) a :=
  .inl ⟨hw, fun w hw' => by
    unfold execOp
    simp only [ho, hx, Instr.loadAt, Instr.sureAddr, Sem.run_bind, Sem.run_pure, Result.andThen_ok, run_loadVar_row w g _ _ _ _ _ (hS w hw') Tryd.underlying27 rfl (infoRel' _)]⟩
theorem yields_eql_rel {ops : Array Oper} {S : World → Prop} {o : Oper} {a : Act} {R : Mat} (hw : Region.wanted o (yielded ops a.tmps) = true) (x y : Operand) (ho : o.op = .binOp .eql 27 x y 27)
    (hx : a.eval x = .agg (rowsA R)) (hy : a.eval y = .agg (rowsA R)) : YieldsIf Tryd.prog ops S o (.bool true) a :=
  .inl ⟨hw, fun w _ => by
    have hm : Tryd.prog.eqGuardType Tryd.prog.depth 27 = false := by kernel_rfl
    unfold execOp
    simp only [ho, hx, hy, Sem.run_bind, run_eqGuard_agg w _ _ _ _ _ _ hm, run_eql_rel, Result.andThen_ok, Sem.run_pure]⟩
theorem takeH {P : Program} {ops : Array Oper} {Q : Exit → Act → World → Prop} {md : Region.Mode} {S : World → Prop} (d : Option Tmp) {i : Nat} {oi : Oper} {v : Value} {fuel : Nat} {listed : Array Bool} {a : Act} {w : World} (hi : ops[i]? = some oi) (hd : oi.dst = d)
    (hs : Region.noSelect ops = true) (hf : Region.free md ops listed i = true) (hr : (Region.ready md ops listed).contains i = true)
    (hQ : ∀ c a w, Q (.panic c) (a.put oi.dst v) w → Q (.panic c) a w) (hy : YieldsIf P ops S oi v a) (hS : S w)
    (h : wpAnyH P md ops Q S fuel (listed.setIfInBounds i true) (a.put d v) w) : wpAnyH P md ops Q S (fuel + 1) listed a w := by
  subst hd; exact wpAnyH_take hi hs hf hr hQ hy hS h
theorem wp_store_rel {o : Oper} {a : Act} {w : World} {K : Act → World → Prop} {Q : Exit → Act → World → Prop} {g : Nat} {S : Mat} (h : RelAt w g 27 S) (R : Mat) (x y : Operand) (ho : o.op = .store 27 x y)
    (hx : a.eval x = .pointer (some ⟨g, 0, none⟩)) (hy : a.eval y = .agg (rowsA R)) (hn : K (a.put o.dst undef) (w.setRow g (rowsA R))) : o.wp Tryd.prog a w K Q :=
  wp_store_row 27 x y ho g _ hx hy _ _ h (infoRel' _) (by rw [rowsA_size, rowsA_size]) (rows_one _) hn
theorem zero_grow (w : World) : Below w.heap.size w (w.alloc (.cells #[.int .u64 0, .int .u64 0, .int .u64 0, .int .u64 0, .int .u64 0, .int .u64 0, .int .u64 0, .int .u64 0, .int .u64 0, .int .u64 0, .int .u64 0, .int .u64 0, .int .u64 0, .int .u64 0, .int .u64 0, .int .u64 0, .int .u64 0, .int .u64 0, .int .u64 0, .int .u64 0, .int .u64 0, .int .u64 0, .int .u64 0, .int .u64 0, .int .u64 0, .int .u64 0, .int .u64 0, .int .u64 0, .int .u64 0, .int .u64 0, .int .u64 0, .int .u64 0, .int .u64 0, .int .u64 0, .int .u64 0, .int .u64 0, .int .u64 0, .int .u64 0, .int .u64 0, .int .u64 0, .int .u64 0, .int .u64 0, .int .u64 0, .int .u64 0, .int .u64 0, .int .u64 0, .int .u64 0, .int .u64 0, .int .u64 0, .int .u64 0, .int .u64 0, .int .u64 0, .int .u64 0, .int .u64 0, .int .u64 0, .int .u64 0, .int .u64 0, .int .u64 0, .int .u64 0, .int .u64 0, .int .u64 0, .int .u64 0, .int .u64 0, .int .u64 0] 27)) := (Below.refl _ _).alloc (Nat.le_refl _) _
theorem wsSort : sortS noR 65 6 = some [1, 2] := by decide +kernel
theorem isSet6 : IsSet 6 := by unfold IsSet; omega
theorem isSetFull : IsSet 18446744073709551615 := (endInv_start noR).set
theorem ws_of (W : World) (v : Value) (h : Ints W v [2, 1]) : Calls Tryd.prog 35 #[v] W fun e w' => e = .returned (.int .u64 ((6 : Nat) : Int)) ∧ W = w' := by
  have h := of_any _ [2, 1] _ h
  have e : setL [2, 1] = 6 := by decide
  rw [e] at h
  exact h
theorem ws_sorted (W : World) (ht : Tab W) : Calls Tryd.prog 15 #[.agg (rowsA noR), .int .u64 ((6 : Nat) : Int)] W fun e w' => ∃ v, e = .returned (.tuple #[v, .bool true]) ∧ Ints w' v [1, 2] ∧ Below W.heap.size W w' := by
  refine (sorted_any noR 6 W isSet6 ht).mono ?_
  rintro e w' ⟨v, b, rfl, hs, hb⟩
  rw [wsSort] at hs
  obtain ⟨rfl, hI⟩ := hs
  exact ⟨v, rfl, hI, hb⟩
theorem ws_same (w1 : World) (v : Value) (hv : Ints w1 v [1, 2]) : Calls Tryd.prog 18 #[v, .slice (some ⟨w1.heap.size, 0, none⟩) 2 2] (w1.alloc (.cells #[.int .i64 1, .int .i64 2] 3)) fun e w' => e = .returned (.bool true) ∧ Below w1.heap.size w1 w' := by
  have h := same_any v _ [1, 2] [1, 2] _ (hv.below ((Below.refl _ _).alloc (Nat.le_refl _) _)) (ints_lit w1 [1, 2] #[.int .i64 1, .int .i64 2] 2 rfl rfl (by decide))
  rw [show sameL [1, 2] [1, 2] = true from by decide] at h
  refine h.mono ?_
  rintro e w' ⟨he, hb⟩
  exact ⟨he, ((Below.refl w1.heap.size w1).alloc (Nat.le_refl _) _).trans (hb.mono (by simp))⟩
set_option maxHeartbeats 8000000 in
theorem steps_walk (va : Value) (l : List Pr) (w : World) (ht : Tab w) (ha : Prs w va l) :
    Calls Tryd.prog 11 #[va] w fun e w' => e = .returned (.bool true) ∧ Below w.heap.size w w' := by
  have hg := ht.pos
  have HT : Hid (∀ wx, Below w.heap.size w wx → Tab wx) := Lib.hid (fun wx hb => ht.below hb hg)
  clear ht
  obtain ⟨ao, cap, rfl, hal⟩ := ha.form
  go_enter Tryd.func11, Tryd.ntmps11
  go_wp2_with fail
  have hz := zero_block w
  have hbz := zero_grow w
  have hlz := hz.lt
  have ha1 := ha.below hbz
  clear ha
  generalize World.alloc w _ = w1 at *
  have HZ : Hid (∀ wx, Below w1.heap.size w1 wx → RelAt wx w.heap.size 27 noR) := Lib.hid (fun wx hb => hz.below hb hlz)
  have HT1 : Hid (∀ wx, Below w1.heap.size w1 wx → Tab wx) := Lib.hid (fun wx hb => HT.out _ (hbz.trans (hb.mono hbz.size)))
  have HL : Hid (Ints (w1.drew.alloc (.cells #[.int .i64 2, .int .i64 1] 3)) (.slice (some ⟨w1.heap.size, 0, none⟩) 2 2) [2, 1]) := Lib.hid (ints_lit w1.drew [2, 1] #[.int .i64 2, .int .i64 1] 2 rfl rfl (by decide))
  clear hz hlz
  refine wp_region_held_drew (S := Below w1.heap.size w1) (by kernel_rfl) ⟨rfl, rfl, rfl, Nat.le_refl _, fun _ _ => rfl⟩ (fun hS0 => ?_)
  refine takeH (some 13) (i := 0) (v := _) rfl rfl (by kernel_rfl) (by kernel_rfl) (by kernel_rfl) (fun _ _ _ h => h) (yields_load_rel (by rfl) (.tmp 3) rfl rfl HZ.out) hS0 ?_
  try simp only [Act.put, List.setIfInBounds_toArray, List.set_cons_zero, List.set_cons_succ]
  refine wpAnyH_ready (rs := [1]) (by kernel_rfl) (by simp) ?_
  refine AllReadyH.cons rfl (fun K hK => ?_) AllReadyH.nil
  go_simp
  have hS1 := hS0.alloc hS0.size (.cells #[.int .i64 2, .int .i64 1] 3)
  refine hK.out _ _ hS1 (fun _ => ?_)
  clear hK K
  refine wpAnyH_ready (rs := [2]) (by kernel_rfl) (by simp) ?_
  refine AllReadyH.cons rfl (fun K hK => ?_) AllReadyH.nil
  go_simp
  refine (ws_of _ _ HL.out).mono ?_
  rintro e q2 ⟨rfl, rfl⟩
  show K _ _
  have hS2 := hS1
  refine hK.out _ _ hS2 (fun _ => ?_)
  clear hK K
  refine wpAnyH_ready (rs := [3]) (by kernel_rfl) (by simp) ?_
  refine AllReadyH.cons rfl (fun K hK => ?_) AllReadyH.nil
  go_simp
  refine (ws_sorted _ (HT1.out _ hS2)).mono ?_
  rintro e q3 ⟨v5, rfl, hI5, hbn⟩
  show K _ _
  have hS3 := hS2.trans (hbn.mono hS2.size)
  refine hK.out _ _ hS3 (fun _ => ?_)
  clear hK K
  refine wpAnyH_ready (rs := [4]) (by kernel_rfl) (by simp) ?_
  refine AllReadyH.cons rfl (fun K hK => ?_) AllReadyH.nil
  go_simp
  have hS4 := hS3
  refine hK.out _ _ hS4 (fun _ => ?_)
  clear hK K
  refine takeH (some 17) (i := 5) (v := ?v1) rfl rfl (by kernel_rfl) (by kernel_rfl) (by kernel_rfl) (fun _ _ _ h => h) (Or.inl ⟨by rfl, ?h1⟩) hS4 ?r1
  case h1 => (intro w _; go_simp; try (with_reducible rfl))
  try simp only [Act.put, List.setIfInBounds_toArray, List.set_cons_zero, List.set_cons_succ]
  refine takeH (some 18) (i := 6) (v := ?v2) rfl rfl (by kernel_rfl) (by kernel_rfl) (by kernel_rfl) (fun _ _ _ h => h) (Or.inl ⟨by rfl, ?h2⟩) hS4 ?r2
  case h2 => (intro w _; go_simp; try (with_reducible rfl))
  try simp only [Act.put, List.setIfInBounds_toArray, List.set_cons_zero, List.set_cons_succ]
  refine wpAnyH_ready (rs := [7]) (by kernel_rfl) (by simp) ?_
  refine AllReadyH.cons rfl (fun K hK => ?_) AllReadyH.nil
  go_simp
  have hS5 := hS4
  refine hK.out _ _ hS5 (fun _ => ?_)
  clear hK K
  refine wpAnyH_ready (rs := [8]) (by kernel_rfl) (by simp) ?_
  refine AllReadyH.cons rfl (fun K hK => ?_) AllReadyH.nil
  go_simp
  have hS6 := hS5
  refine hK.out _ _ hS6 (fun _ => ?_)
  clear hK K
  refine wpAnyH_done (by kernel_rfl) ?_ _
  have ha5 := ha1.below hS6
  have hb5 := hbz.trans (hS6.mono hbz.size)
  clear HZ HT1 HL hbn ha1 hbz hS0 hS1 hS2 hS3 hS4 hS5 hS6
  generalize q3 = w5 at *
  go_wp2_with fail
  refine (ws_same w5 v5 hI5).mono ?_
  rintro e w6 ⟨rfl, hb6⟩
  have ha6 := ha5.below hb6
  have hbb := hb5.trans (hb6.mono hb5.size)
  clear hI5 ha5 hb5 hb6
  by_cases hbig : 60 < l.length
  · have hbig' : (60 : Int) < (l.length : Int) := by omega
    go_wp2_with fail
    go_ret
    exact ⟨rfl, hbb⟩
  have hbig' : ¬ (60 : Int) < (l.length : Int) := by omega
  clear hbig
  go_wp2_with fail
  have hz := zero_block w6
  have hbz := zero_grow w6
  go_loopw [32] (fun i wr => ∃ k : Nat, k ≤ l.length ∧ i = .int .i64 k ∧ RelAt wr w6.heap.size 27 (addAll noR (l.take k)) ∧ Below w6.heap.size w6 wr)
    (fun i _ => l.length - (intOf i).toNat)
  case atStart => exact ⟨0, by omega, rfl, hz, hbz⟩
  case round =>
    obtain ⟨k, hk, rfl, hr, hb⟩ := hrel
    by_cases hlt : k < l.length
    · have hki : (k : Int) < (l.length : Int) := by omega
      obtain ⟨p, off, hao, hc1, hc2⟩ := (ha6.below hb).at hlt
      cases hao
      have HS := Lib.hid (addAll_succ noR l k hlt)
      generalize l[k] = z at *
      obtain ⟨x, y⟩ := z
      simp only at hc1 hc2
      have hra := hr.alloc (.cells #[.int .i64 x, .int .i64 y] 61)
      have hba := hb.alloc hb.size (.cells #[.int .i64 x, .int .i64 y] 61)
      obtain ⟨pb0, pb1⟩ := pair_block wr x y
      generalize addAll noR (l.take k) = R at *
      go_wp2_with fail
      refine (add_any R w6.heap.size x y _ hra).mono ?_
      rintro e w7 ⟨rfl, hr7, hg7⟩
      have hb7 := hba.grown hg7 hba.size (fun q hq => by cases hq; exact Nat.le_refl _)
      go_wp2_with fail
      go_roundw
      case rel => exact ⟨k + 1, by omega, by go_num, by rw [HS.out]; exact hr7, hb7⟩
      case measure => simp [intOf]; omega
    · have hkl : k = l.length := by omega
      subst hkl
      rw [List.take_length] at hr
      have hki : ¬ (l.length : Int) < (l.length : Int) := by omega
      have hbw := hbb.trans (hb.mono hbb.size)
      have hlr := hr.lt
      have HF := Lib.hid (sort_full (addAll noR l))
      generalize addAll noR l = R at *
      have HR : Hid (∀ wx, Below wr.heap.size wr wx → RelAt wx w6.heap.size 27 R) := Lib.hid (fun wx hb => hr.below hb hlr)
      have HTR : Hid (∀ wx, Below wr.heap.size wr wx → Tab wx) := Lib.hid (fun wx hb => HT.out _ (hbw.trans (hb.mono hbw.size)))
      have HBW := Lib.hid hbw
      clear hz hbz hb hbb ha6 hk hlt hr
      go_wp2_with fail
      refine wp_region_held_drew (S := Below wr.heap.size wr) (by kernel_rfl) ⟨rfl, rfl, rfl, Nat.le_refl _, fun _ _ => rfl⟩ (fun hS0 => ?_)
      refine takeH (some 43) (i := 0) (v := _) rfl rfl (by kernel_rfl) (by kernel_rfl) (by kernel_rfl) (fun _ _ _ h => h) (yields_load_rel (by rfl) (.tmp 6) rfl rfl HR.out) hS0 ?_
      try simp only [Act.put, List.setIfInBounds_toArray, List.set_cons_zero, List.set_cons_succ]
      refine wpAnyH_ready (rs := [1]) (by kernel_rfl) (by simp) ?_
      refine AllReadyH.cons rfl (fun K hK => ?_) AllReadyH.nil
      go_simp
      refine (sp_below64 _).mono ?_
      rintro e q1 ⟨rfl, rfl⟩
      show K _ _
      have hS1 := hS0
      refine hK.out _ _ hS1 (fun _ => ?_)
      clear hK K
      refine wpAnyH_ready (rs := [2]) (by kernel_rfl) (by simp) ?_
      refine AllReadyH.cons rfl (fun K hK => ?_) AllReadyH.nil
      go_simp
      refine (sorted_any R _ _ isSetFull (HTR.out _ hS1)).mono ?_
      rintro e q2 ⟨v9, b10, rfl, hso, hbn⟩
      show K _ _
      have hS2 := hS1.trans (hbn.mono hS1.size)
      refine hK.out _ _ hS2 (fun _ => ?_)
      clear hK K
      refine wpAnyH_ready (rs := [3]) (by kernel_rfl) (by simp) ?_
      refine AllReadyH.cons rfl (fun K hK => ?_) AllReadyH.nil
      go_simp
      have hS3 := hS2
      refine hK.out _ _ hS3 (fun _ => ?_)
      clear hK K
      refine takeH (some 46) (i := 4) (v := ?v3) rfl rfl (by kernel_rfl) (by kernel_rfl) (by kernel_rfl) (fun _ _ _ h => h) (Or.inl ⟨by rfl, ?h3⟩) hS3 ?r3
      case h3 => (intro w _; go_simp; try (with_reducible rfl))
      try simp only [Act.put, List.setIfInBounds_toArray, List.set_cons_zero, List.set_cons_succ]
      refine takeH (some 47) (i := 5) (v := ?v4) rfl rfl (by kernel_rfl) (by kernel_rfl) (by kernel_rfl) (fun _ _ _ h => h) (Or.inl ⟨by rfl, ?h4⟩) hS3 ?r4
      case h4 => (intro w _; go_simp; try (with_reducible rfl))
      try simp only [Act.put, List.setIfInBounds_toArray, List.set_cons_zero, List.set_cons_succ]
      refine wpAnyH_ready (rs := [6]) (by kernel_rfl) (by simp) ?_
      refine AllReadyH.cons rfl (fun K hK => ?_) AllReadyH.nil
      go_simp
      have hS4 := hS3
      refine hK.out _ _ hS4 (fun _ => ?_)
      clear hK K
      refine wpAnyH_ready (rs := [7]) (by kernel_rfl) (by simp) ?_
      refine AllReadyH.cons rfl (fun K hK => ?_) AllReadyH.nil
      go_simp
      have hS5 := hS4
      refine hK.out _ _ hS5 (fun _ => ?_)
      clear hK K
      refine wpAnyH_done (by kernel_rfl) ?_ _
      have HQ : Hid (∀ wx, Below q2.heap.size q2 wx → Below wr.heap.size wr wx) := Lib.hid (fun wx hb => hS2.trans (hb.mono hS2.size))
      clear hbn hS0 hS1 hS2 hS3 hS4 hS5
      generalize q2 = w9 at *
      have HF2 := HF.out
      cases hcs : sortS R 65 18446744073709551615 with
      | none =>
        rw [hcs] at hso HF2
        obtain ⟨rfl, rfl⟩ := hso
        have hac : acy R = false := HF2
        have CA : Hid (∀ W, Calls Tryd.prog 38 #[.agg (rowsA R)] W fun e w' => e = .returned (.bool false) ∧ Below W.heap.size W w') := Lib.hid (fun W => by
          have h := acyclic_any R W
          rwa [hac] at h)
        have CY : Hid (∀ W, Tab W → Calls Tryd.prog 39 #[.agg (rowsA R)] W fun e w' => ∃ ao n cap, e = .returned (.slice ao n cap) ∧ ((n : Int) == 0) = false ∧ Below W.heap.size W w') := Lib.hid (fun W ht => by
          refine (cycle_any R W ht).mono ?_
          rintro e w' ⟨v, C, rfl, hI, hC, hb⟩
          rcases hC with ⟨_, h⟩ | ⟨h, _⟩
          · rw [hac] at h; cases h
          · obtain ⟨ao, cap, rfl, _⟩ := hI.form
            refine ⟨ao, _, cap, rfl, ?_, hb⟩
            have := List.length_pos_iff.2 h.1
            rw [beq_eq_false_iff_ne, List.length_map]; omega)
        clear hac hcs HF2
        go_wp2_with fail
        refine wp_region_held_drew (S := Below w9.heap.size w9) (by kernel_rfl) ⟨rfl, rfl, rfl, Nat.le_refl _, fun _ _ => rfl⟩ (fun hS0 => ?_)
        refine takeH (some 48) (i := 0) (v := ?v5) rfl rfl (by kernel_rfl) (by kernel_rfl) (by kernel_rfl) (fun _ _ _ h => h) (Or.inl ⟨by rfl, ?h5⟩) hS0 ?r5
        case h5 => (intro w _; go_simp; try (with_reducible rfl))
        try simp only [Act.put, List.setIfInBounds_toArray, List.set_cons_zero, List.set_cons_succ]
        refine takeH (some 49) (i := 1) (v := _) rfl rfl (by kernel_rfl) (by kernel_rfl) (by kernel_rfl) (fun _ _ _ h => h) (yields_load_rel (by rfl) (.tmp 6) rfl rfl (fun wx hb => HR.out wx (HQ.out wx hb))) hS0 ?_
        try simp only [Act.put, List.setIfInBounds_toArray, List.set_cons_zero, List.set_cons_succ]
        refine wpAnyH_ready (rs := [2]) (by kernel_rfl) (by simp) ?_
        refine AllReadyH.cons rfl (fun K hK => ?_) AllReadyH.nil
        go_simp
        refine (CA.out _).mono ?_
        rintro e q1 ⟨rfl, hbn⟩
        show K _ _
        have hS1 := hS0.trans (hbn.mono hS0.size)
        refine hK.out _ _ hS1 (fun _ => ?_)
        clear hK K
        refine takeH (some 51) (i := 3) (v := ?v6) rfl rfl (by kernel_rfl) (by kernel_rfl) (by kernel_rfl) (fun _ _ _ h => h) (Or.inl ⟨by rfl, ?h6⟩) hS1 ?r6
        case h6 => (intro w _; go_simp; try (with_reducible rfl))
        try simp only [Act.put, List.setIfInBounds_toArray, List.set_cons_zero, List.set_cons_succ]
        refine takeH (some 52) (i := 4) (v := ?v7) rfl rfl (by kernel_rfl) (by kernel_rfl) (by kernel_rfl) (fun _ _ _ h => h) (Or.inl ⟨by rfl, ?h7⟩) hS1 ?r7
        case h7 => (intro w _; go_simp; try (with_reducible rfl))
        try simp only [Act.put, List.setIfInBounds_toArray, List.set_cons_zero, List.set_cons_succ]
        refine takeH (some 53) (i := 5) (v := ?v8) rfl rfl (by kernel_rfl) (by kernel_rfl) (by kernel_rfl) (fun _ _ _ h => h) (Or.inl ⟨by rfl, ?h8⟩) hS1 ?r8
        case h8 => (intro w _; go_simp; try (with_reducible rfl))
        try simp only [Act.put, List.setIfInBounds_toArray, List.set_cons_zero, List.set_cons_succ]
        refine takeH (some 54) (i := 6) (v := _) rfl rfl (by kernel_rfl) (by kernel_rfl) (by kernel_rfl) (fun _ _ _ h => h) (yields_load_rel (by rfl) (.tmp 6) rfl rfl (fun wx hb => HR.out wx (HQ.out wx hb))) hS1 ?_
        try simp only [Act.put, List.setIfInBounds_toArray, List.set_cons_zero, List.set_cons_succ]
        refine wpAnyH_ready (rs := [7]) (by kernel_rfl) (by simp) ?_
        refine AllReadyH.cons rfl (fun K hK => ?_) AllReadyH.nil
        go_simp
        refine (CY.out _ (HTR.out _ (HQ.out _ hS1))).mono ?_
        rintro e q2 ⟨cao, cn, ccap, rfl, hcn, hbn⟩
        show K _ _
        have hS2 := hS1.trans (hbn.mono hS1.size)
        refine hK.out _ _ hS2 (fun _ => ?_)
        clear hK K
        refine takeH (some 56) (i := 8) (v := ?v9) rfl rfl (by kernel_rfl) (by kernel_rfl) (by kernel_rfl) (fun _ _ _ h => h) (Or.inl ⟨by rfl, ?h9⟩) hS2 ?r9
        case h9 => (intro w _; go_simp; try (with_reducible rfl))
        try simp only [Act.put, List.setIfInBounds_toArray, List.set_cons_zero, List.set_cons_succ]
        refine takeH (some 57) (i := 9) (v := ?v10) rfl rfl (by kernel_rfl) (by kernel_rfl) (by kernel_rfl) (fun _ _ _ h => h) (Or.inl ⟨by rfl, ?h10⟩) hS2 ?r10
        case h10 => (intro w _; go_simp; try (with_reducible rfl))
        try simp only [Act.put, List.setIfInBounds_toArray, List.set_cons_zero, List.set_cons_succ]
        refine takeH (some 58) (i := 10) (v := ?v11) rfl rfl (by kernel_rfl) (by kernel_rfl) (by kernel_rfl) (fun _ _ _ h => h) (Or.inl ⟨by rfl, ?h11⟩) hS2 ?r11
        case h11 => (intro w _; go_simp; try (with_reducible rfl))
        try simp only [Act.put, List.setIfInBounds_toArray, List.set_cons_zero, List.set_cons_succ]
        refine takeH (some 59) (i := 11) (v := ?v12) rfl rfl (by kernel_rfl) (by kernel_rfl) (by kernel_rfl) (fun _ _ _ h => h) (Or.inl ⟨by rfl, ?h12⟩) hS2 ?r12
        case h12 => (intro w _; go_simp; try (with_reducible rfl))
        try simp only [Act.put, List.setIfInBounds_toArray, List.set_cons_zero, List.set_cons_succ]
        refine takeH (some 60) (i := 12) (v := ?v13) rfl rfl (by kernel_rfl) (by kernel_rfl) (by kernel_rfl) (fun _ _ _ h => h) (Or.inl ⟨by rfl, ?h13⟩) hS2 ?r13
        case h13 => (intro w _; go_simp; try (with_reducible rfl))
        try simp only [Act.put, List.setIfInBounds_toArray, List.set_cons_zero, List.set_cons_succ]
        refine takeH (some 61) (i := 13) (v := ?v14) rfl rfl (by kernel_rfl) (by kernel_rfl) (by kernel_rfl) (fun _ _ _ h => h) (Or.inl ⟨by rfl, ?h14⟩) hS2 ?r14
        case h14 => (intro w _; go_simp; try (with_reducible rfl))
        try simp only [Act.put, List.setIfInBounds_toArray, List.set_cons_zero, List.set_cons_succ]
        refine takeH (some 62) (i := 14) (v := ?v15) rfl rfl (by kernel_rfl) (by kernel_rfl) (by kernel_rfl) (fun _ _ _ h => h) (Or.inl ⟨by rfl, ?h15⟩) hS2 ?r15
        case h15 => (intro w _; go_simp; try (with_reducible rfl))
        try simp only [Act.put, List.setIfInBounds_toArray, List.set_cons_zero, List.set_cons_succ]
        refine takeH (some 63) (i := 15) (v := undef) rfl rfl (by kernel_rfl) (by kernel_rfl) (by kernel_rfl) (fun _ _ _ h => h) (Or.inr ⟨by rfl, rfl⟩) hS2 ?_
        try simp only [Act.put, List.setIfInBounds_toArray, List.set_cons_zero, List.set_cons_succ]
        refine takeH (some 64) (i := 16) (v := undef) rfl rfl (by kernel_rfl) (by kernel_rfl) (by kernel_rfl) (fun _ _ _ h => h) (Or.inr ⟨by rfl, rfl⟩) hS2 ?_
        try simp only [Act.put, List.setIfInBounds_toArray, List.set_cons_zero, List.set_cons_succ]
        refine takeH (some 65) (i := 17) (v := undef) rfl rfl (by kernel_rfl) (by kernel_rfl) (by kernel_rfl) (fun _ _ _ h => h) (Or.inr ⟨by rfl, rfl⟩) hS2 ?_
        try simp only [Act.put, List.setIfInBounds_toArray, List.set_cons_zero, List.set_cons_succ]
        refine takeH (some 66) (i := 18) (v := undef) rfl rfl (by kernel_rfl) (by kernel_rfl) (by kernel_rfl) (fun _ _ _ h => h) (Or.inr ⟨by rfl, rfl⟩) hS2 ?_
        try simp only [Act.put, List.setIfInBounds_toArray, List.set_cons_zero, List.set_cons_succ]
        refine takeH (some 67) (i := 19) (v := undef) rfl rfl (by kernel_rfl) (by kernel_rfl) (by kernel_rfl) (fun _ _ _ h => h) (Or.inr ⟨by rfl, rfl⟩) hS2 ?_
        try simp only [Act.put, List.setIfInBounds_toArray, List.set_cons_zero, List.set_cons_succ]
        refine takeH (some 68) (i := 20) (v := ?v16) rfl rfl (by kernel_rfl) (by kernel_rfl) (by kernel_rfl) (fun _ _ _ h => h) (Or.inl ⟨by rfl, ?h16⟩) hS2 ?r16
        case h16 => (intro w _; go_simp; try (with_reducible rfl))
        try simp only [Act.put, List.setIfInBounds_toArray, List.set_cons_zero, List.set_cons_succ]
        refine takeH (some 69) (i := 21) (v := ?v17) rfl rfl (by kernel_rfl) (by kernel_rfl) (by kernel_rfl) (fun _ _ _ h => h) (Or.inl ⟨by rfl, ?h17⟩) hS2 ?r17
        case h17 => (intro w _; go_simp; try (with_reducible rfl))
        try simp only [Act.put, List.setIfInBounds_toArray, List.set_cons_zero, List.set_cons_succ]
        refine wpAnyH_done (by kernel_rfl) ?_ _
        have hbx : Below w.heap.size w q2 := HBW.out.trans ((HQ.out _ hS2).mono HBW.out.size)
        have hrx : RelAt q2 w6.heap.size 27 R := HR.out _ (HQ.out _ hS2)
        clear hS0 hS1 hS2 hbn HQ HR HTR HBW CA CY HF
        generalize q2 = wx at *
        have hz := zero_block wx
        have hzz := hz.setRow R
        have hzb := zero_below wx R
        have hlx := hrx.lt
        have hry := hrx.below hzb hlx
        have hb3 := hbx.trans (hzb.mono hbx.size)
        go_wp2_with (first
          | (with_reducible refine wpList_store_rel hz R rfl _ _ rfl rfl rfl ?_)
          | (with_reducible refine wpList_load_rel hrx rfl _ rfl rfl ?_))
        clear hz hrx hzb
        generalize World.setRow _ _ _ = w3 at *
        go_loopw [71] (fun i wr => ∃ k : Nat, k ≤ 7 ∧ i = .int .i64 k ∧ RelAt wr wx.heap.size 27 (sqr R k) ∧ Below wx.heap.size w3 wr)
          (fun i _ => 7 - (intOf i).toNat)
        case atStart => exact ⟨0, by omega, rfl, hzz, Below.refl _ _⟩
        case round =>
          obtain ⟨k, hk, rfl, hr, hb⟩ := hrel
          have hbw := hb3.trans (hb.mono hbx.size)
          have HTR : Hid (∀ W, Below wr.heap.size wr W → Tab W) := Lib.hid (fun W hW => HT.out _ (hbw.trans (hW.mono hbw.size)))
          have hlr := hr.lt
          by_cases hlt : k < 7
          · have hki : (k : Int) < 7 := by omega
            have HN : Hid (sqr R (k + 1) = orR (sqr R k) (thenR (sqr R k) (sqr R k))) := Lib.hid rfl
            generalize sqr R k = C at *
            have HC : Hid (∀ W, Below wr.heap.size wr W → RelAt W wx.heap.size 27 C) := Lib.hid (fun W hW => hr.below hW hlr)
            have CT : Hid (∀ W, Below wr.heap.size wr W → Calls Tryd.prog 43 #[.agg (rowsA C), .agg (rowsA C)] W fun e w' => e = .returned (.agg (rowsA (thenR C C))) ∧ Below W.heap.size W w') := Lib.hid (fun W hW => then_any C C W (HTR.out _ hW))
            have CU : Hid (∀ W, Calls Tryd.prog 42 #[.agg (rowsA C), .agg (rowsA (thenR C C))] W fun e w' => e = .returned (.agg (rowsA (orR C (thenR C C)))) ∧ Below W.heap.size W w') := Lib.hid (fun W => union_any C (thenR C C) W)
            have HB : Hid (∀ W, Below wr.heap.size wr W → RelAt (W.setRow wx.heap.size (rowsA (orR C (thenR C C)))) wx.heap.size 27 (sqr R (k + 1)) ∧ Below wx.heap.size w3 (W.setRow wx.heap.size (rowsA (orR C (thenR C C))))) := Lib.hid (fun W hW => ⟨by rw [HN.out]; exact (HC.out W hW).setRow _, below_setRow (hb.trans (hW.mono (by omega))) (Nat.le_refl _) _⟩)
            have hb0 : Below wr.heap.size wr wr.drew := (Below.refl _ _).drew
            clear hr hb hbw HN
            go_wp2_with fail
            refine wp_region_any (by kernel_rfl) ?_
            change wpAny _ _ _ _ _ _ _ (World.drew _)
            refine wpAny_ready (rs := [0, 1, 2]) (by kernel_rfl) (by simp) ?_
            refine AllReady.cons rfl ?_ ?_
            · intro K hK
              rw [if_pos (by rfl)]
              refine wp_load_rel (HC.out _ hb0) (.tmp 11) rfl rfl ?_
              refine hK _ _ ?_
              clear hK K
              refine wpAny_ready (rs := [1, 2]) (by kernel_rfl) (by simp) ?_
              refine AllReady.cons rfl ?_ ?_
              · intro K hK
                rw [if_pos (by rfl)]
                refine wp_load_rel (HC.out _ hb0) (.tmp 11) rfl rfl ?_
                refine hK _ _ ?_
                clear hK K
                refine wpAny_ready (rs := [2]) (by kernel_rfl) (by simp) ?_
                refine AllReady.cons rfl (fun K hK => ?_) AllReady.nil
                rw [if_pos (by rfl)]
                refine wp_load_rel (HC.out _ hb0) (.tmp 11) rfl rfl ?_
                refine hK _ _ ?_
                clear hK K
                refine wpAny_ready (rs := [3]) (by kernel_rfl) (by simp) ?_
                refine AllReady.cons rfl (fun K hK => ?_) AllReady.nil
                go_simp
                refine (CT.out _ hb0).mono ?_
                rintro e q1 ⟨rfl, hbn⟩
                have hb1 := hb0.trans (hbn.mono hb0.size)
                clear hbn
                show K _ _
                refine hK _ _ ?_
                clear hK K
                refine wpAny_ready (rs := [4]) (by kernel_rfl) (by simp) ?_
                refine AllReady.cons rfl (fun K hK => ?_) AllReady.nil
                go_simp
                refine (CU.out _).mono ?_
                rintro e q2 ⟨rfl, hbn⟩
                have hb2 := hb1.trans (hbn.mono hb1.size)
                clear hbn
                show K _ _
                refine hK _ _ ?_
                clear hK K
                refine wpAny_ready (rs := [5]) (by kernel_rfl) (by simp) ?_
                refine AllReady.cons rfl (fun K hK => ?_) AllReady.nil
                rw [if_pos (by rfl)]
                refine wp_store_rel (HC.out _ hb2) (orR C (thenR C C)) (.tmp 11) (.tmp 77) rfl rfl rfl ?_
                refine hK _ _ ?_
                clear hK K
                refine wpAny_done (by kernel_rfl) ?_ _
                have hfin := HB.out _ hb2
                generalize World.setRow _ _ _ = wz at *
                go_simp
                go_wp2_with fail
                go_roundw
                case rel => exact ⟨k + 1, by omega, by go_num, hfin.1, hfin.2⟩
                case measure => simp [intOf]; omega
              refine AllReady.cons rfl ?_ AllReady.nil
              intro K hK
              rw [if_pos (by rfl)]
              refine wp_load_rel (HC.out _ hb0) (.tmp 11) rfl rfl ?_
              refine hK _ _ ?_
              clear hK K
              refine wpAny_ready (rs := [1]) (by kernel_rfl) (by simp) ?_
              refine AllReady.cons rfl (fun K hK => ?_) AllReady.nil
              rw [if_pos (by rfl)]
              refine wp_load_rel (HC.out _ hb0) (.tmp 11) rfl rfl ?_
              refine hK _ _ ?_
              clear hK K
              refine wpAny_ready (rs := [3]) (by kernel_rfl) (by simp) ?_
              refine AllReady.cons rfl (fun K hK => ?_) AllReady.nil
              go_simp
              refine (CT.out _ hb0).mono ?_
              rintro e q1 ⟨rfl, hbn⟩
              have hb1 := hb0.trans (hbn.mono hb0.size)
              clear hbn
              show K _ _
              refine hK _ _ ?_
              clear hK K
              refine wpAny_ready (rs := [4]) (by kernel_rfl) (by simp) ?_
              refine AllReady.cons rfl (fun K hK => ?_) AllReady.nil
              go_simp
              refine (CU.out _).mono ?_
              rintro e q2 ⟨rfl, hbn⟩
              have hb2 := hb1.trans (hbn.mono hb1.size)
              clear hbn
              show K _ _
              refine hK _ _ ?_
              clear hK K
              refine wpAny_ready (rs := [5]) (by kernel_rfl) (by simp) ?_
              refine AllReady.cons rfl (fun K hK => ?_) AllReady.nil
              rw [if_pos (by rfl)]
              refine wp_store_rel (HC.out _ hb2) (orR C (thenR C C)) (.tmp 11) (.tmp 77) rfl rfl rfl ?_
              refine hK _ _ ?_
              clear hK K
              refine wpAny_done (by kernel_rfl) ?_ _
              have hfin := HB.out _ hb2
              generalize World.setRow _ _ _ = wz at *
              go_simp
              go_wp2_with fail
              go_roundw
              case rel => exact ⟨k + 1, by omega, by go_num, hfin.1, hfin.2⟩
              case measure => simp [intOf]; omega
            refine AllReady.cons rfl ?_ ?_
            · intro K hK
              rw [if_pos (by rfl)]
              refine wp_load_rel (HC.out _ hb0) (.tmp 11) rfl rfl ?_
              refine hK _ _ ?_
              clear hK K
              refine wpAny_ready (rs := [0, 2]) (by kernel_rfl) (by simp) ?_
              refine AllReady.cons rfl ?_ ?_
              · intro K hK
                rw [if_pos (by rfl)]
                refine wp_load_rel (HC.out _ hb0) (.tmp 11) rfl rfl ?_
                refine hK _ _ ?_
                clear hK K
                refine wpAny_ready (rs := [2]) (by kernel_rfl) (by simp) ?_
                refine AllReady.cons rfl (fun K hK => ?_) AllReady.nil
                rw [if_pos (by rfl)]
                refine wp_load_rel (HC.out _ hb0) (.tmp 11) rfl rfl ?_
                refine hK _ _ ?_
                clear hK K
                refine wpAny_ready (rs := [3]) (by kernel_rfl) (by simp) ?_
                refine AllReady.cons rfl (fun K hK => ?_) AllReady.nil
                go_simp
                refine (CT.out _ hb0).mono ?_
                rintro e q1 ⟨rfl, hbn⟩
                have hb1 := hb0.trans (hbn.mono hb0.size)
                clear hbn
                show K _ _
                refine hK _ _ ?_
                clear hK K
                refine wpAny_ready (rs := [4]) (by kernel_rfl) (by simp) ?_
                refine AllReady.cons rfl (fun K hK => ?_) AllReady.nil
                go_simp
                refine (CU.out _).mono ?_
                rintro e q2 ⟨rfl, hbn⟩
                have hb2 := hb1.trans (hbn.mono hb1.size)
                clear hbn
                show K _ _
                refine hK _ _ ?_
                clear hK K
                refine wpAny_ready (rs := [5]) (by kernel_rfl) (by simp) ?_
                refine AllReady.cons rfl (fun K hK => ?_) AllReady.nil
                rw [if_pos (by rfl)]
                refine wp_store_rel (HC.out _ hb2) (orR C (thenR C C)) (.tmp 11) (.tmp 77) rfl rfl rfl ?_
                refine hK _ _ ?_
                clear hK K
                refine wpAny_done (by kernel_rfl) ?_ _
                have hfin := HB.out _ hb2
                generalize World.setRow _ _ _ = wz at *
                go_simp
                go_wp2_with fail
                go_roundw
                case rel => exact ⟨k + 1, by omega, by go_num, hfin.1, hfin.2⟩
                case measure => simp [intOf]; omega
              refine AllReady.cons rfl ?_ AllReady.nil
              intro K hK
              rw [if_pos (by rfl)]
              refine wp_load_rel (HC.out _ hb0) (.tmp 11) rfl rfl ?_
              refine hK _ _ ?_
              clear hK K
              refine wpAny_ready (rs := [0, 3]) (by kernel_rfl) (by simp) ?_
              refine AllReady.cons rfl ?_ ?_
              · intro K hK
                rw [if_pos (by rfl)]
                refine wp_load_rel (HC.out _ hb0) (.tmp 11) rfl rfl ?_
                refine hK _ _ ?_
                clear hK K
                refine wpAny_ready (rs := [3]) (by kernel_rfl) (by simp) ?_
                refine AllReady.cons rfl (fun K hK => ?_) AllReady.nil
                go_simp
                refine (CT.out _ hb0).mono ?_
                rintro e q1 ⟨rfl, hbn⟩
                have hb1 := hb0.trans (hbn.mono hb0.size)
                clear hbn
                show K _ _
                refine hK _ _ ?_
                clear hK K
                refine wpAny_ready (rs := [4]) (by kernel_rfl) (by simp) ?_
                refine AllReady.cons rfl (fun K hK => ?_) AllReady.nil
                go_simp
                refine (CU.out _).mono ?_
                rintro e q2 ⟨rfl, hbn⟩
                have hb2 := hb1.trans (hbn.mono hb1.size)
                clear hbn
                show K _ _
                refine hK _ _ ?_
                clear hK K
                refine wpAny_ready (rs := [5]) (by kernel_rfl) (by simp) ?_
                refine AllReady.cons rfl (fun K hK => ?_) AllReady.nil
                rw [if_pos (by rfl)]
                refine wp_store_rel (HC.out _ hb2) (orR C (thenR C C)) (.tmp 11) (.tmp 77) rfl rfl rfl ?_
                refine hK _ _ ?_
                clear hK K
                refine wpAny_done (by kernel_rfl) ?_ _
                have hfin := HB.out _ hb2
                generalize World.setRow _ _ _ = wz at *
                go_simp
                go_wp2_with fail
                go_roundw
                case rel => exact ⟨k + 1, by omega, by go_num, hfin.1, hfin.2⟩
                case measure => simp [intOf]; omega
              refine AllReady.cons rfl ?_ AllReady.nil
              intro K hK
              go_simp
              refine (CT.out _ hb0).mono ?_
              rintro e q1 ⟨rfl, hbn⟩
              have hb1 := hb0.trans (hbn.mono hb0.size)
              clear hbn
              show K _ _
              refine hK _ _ ?_
              clear hK K
              refine wpAny_ready (rs := [0]) (by kernel_rfl) (by simp) ?_
              refine AllReady.cons rfl (fun K hK => ?_) AllReady.nil
              rw [if_pos (by rfl)]
              refine wp_load_rel (HC.out _ hb1) (.tmp 11) rfl rfl ?_
              refine hK _ _ ?_
              clear hK K
              refine wpAny_ready (rs := [4]) (by kernel_rfl) (by simp) ?_
              refine AllReady.cons rfl (fun K hK => ?_) AllReady.nil
              go_simp
              refine (CU.out _).mono ?_
              rintro e q2 ⟨rfl, hbn⟩
              have hb2 := hb1.trans (hbn.mono hb1.size)
              clear hbn
              show K _ _
              refine hK _ _ ?_
              clear hK K
              refine wpAny_ready (rs := [5]) (by kernel_rfl) (by simp) ?_
              refine AllReady.cons rfl (fun K hK => ?_) AllReady.nil
              rw [if_pos (by rfl)]
              refine wp_store_rel (HC.out _ hb2) (orR C (thenR C C)) (.tmp 11) (.tmp 77) rfl rfl rfl ?_
              refine hK _ _ ?_
              clear hK K
              refine wpAny_done (by kernel_rfl) ?_ _
              have hfin := HB.out _ hb2
              generalize World.setRow _ _ _ = wz at *
              go_simp
              go_wp2_with fail
              go_roundw
              case rel => exact ⟨k + 1, by omega, by go_num, hfin.1, hfin.2⟩
              case measure => simp [intOf]; omega
            refine AllReady.cons rfl ?_ AllReady.nil
            intro K hK
            rw [if_pos (by rfl)]
            refine wp_load_rel (HC.out _ hb0) (.tmp 11) rfl rfl ?_
            refine hK _ _ ?_
            clear hK K
            refine wpAny_ready (rs := [0, 1]) (by kernel_rfl) (by simp) ?_
            refine AllReady.cons rfl ?_ ?_
            · intro K hK
              rw [if_pos (by rfl)]
              refine wp_load_rel (HC.out _ hb0) (.tmp 11) rfl rfl ?_
              refine hK _ _ ?_
              clear hK K
              refine wpAny_ready (rs := [1]) (by kernel_rfl) (by simp) ?_
              refine AllReady.cons rfl (fun K hK => ?_) AllReady.nil
              rw [if_pos (by rfl)]
              refine wp_load_rel (HC.out _ hb0) (.tmp 11) rfl rfl ?_
              refine hK _ _ ?_
              clear hK K
              refine wpAny_ready (rs := [3]) (by kernel_rfl) (by simp) ?_
              refine AllReady.cons rfl (fun K hK => ?_) AllReady.nil
              go_simp
              refine (CT.out _ hb0).mono ?_
              rintro e q1 ⟨rfl, hbn⟩
              have hb1 := hb0.trans (hbn.mono hb0.size)
              clear hbn
              show K _ _
              refine hK _ _ ?_
              clear hK K
              refine wpAny_ready (rs := [4]) (by kernel_rfl) (by simp) ?_
              refine AllReady.cons rfl (fun K hK => ?_) AllReady.nil
              go_simp
              refine (CU.out _).mono ?_
              rintro e q2 ⟨rfl, hbn⟩
              have hb2 := hb1.trans (hbn.mono hb1.size)
              clear hbn
              show K _ _
              refine hK _ _ ?_
              clear hK K
              refine wpAny_ready (rs := [5]) (by kernel_rfl) (by simp) ?_
              refine AllReady.cons rfl (fun K hK => ?_) AllReady.nil
              rw [if_pos (by rfl)]
              refine wp_store_rel (HC.out _ hb2) (orR C (thenR C C)) (.tmp 11) (.tmp 77) rfl rfl rfl ?_
              refine hK _ _ ?_
              clear hK K
              refine wpAny_done (by kernel_rfl) ?_ _
              have hfin := HB.out _ hb2
              generalize World.setRow _ _ _ = wz at *
              go_simp
              go_wp2_with fail
              go_roundw
              case rel => exact ⟨k + 1, by omega, by go_num, hfin.1, hfin.2⟩
              case measure => simp [intOf]; omega
            refine AllReady.cons rfl ?_ AllReady.nil
            intro K hK
            rw [if_pos (by rfl)]
            refine wp_load_rel (HC.out _ hb0) (.tmp 11) rfl rfl ?_
            refine hK _ _ ?_
            clear hK K
            refine wpAny_ready (rs := [0, 3]) (by kernel_rfl) (by simp) ?_
            refine AllReady.cons rfl ?_ ?_
            · intro K hK
              rw [if_pos (by rfl)]
              refine wp_load_rel (HC.out _ hb0) (.tmp 11) rfl rfl ?_
              refine hK _ _ ?_
              clear hK K
              refine wpAny_ready (rs := [3]) (by kernel_rfl) (by simp) ?_
              refine AllReady.cons rfl (fun K hK => ?_) AllReady.nil
              go_simp
              refine (CT.out _ hb0).mono ?_
              rintro e q1 ⟨rfl, hbn⟩
              have hb1 := hb0.trans (hbn.mono hb0.size)
              clear hbn
              show K _ _
              refine hK _ _ ?_
              clear hK K
              refine wpAny_ready (rs := [4]) (by kernel_rfl) (by simp) ?_
              refine AllReady.cons rfl (fun K hK => ?_) AllReady.nil
              go_simp
              refine (CU.out _).mono ?_
              rintro e q2 ⟨rfl, hbn⟩
              have hb2 := hb1.trans (hbn.mono hb1.size)
              clear hbn
              show K _ _
              refine hK _ _ ?_
              clear hK K
              refine wpAny_ready (rs := [5]) (by kernel_rfl) (by simp) ?_
              refine AllReady.cons rfl (fun K hK => ?_) AllReady.nil
              rw [if_pos (by rfl)]
              refine wp_store_rel (HC.out _ hb2) (orR C (thenR C C)) (.tmp 11) (.tmp 77) rfl rfl rfl ?_
              refine hK _ _ ?_
              clear hK K
              refine wpAny_done (by kernel_rfl) ?_ _
              have hfin := HB.out _ hb2
              generalize World.setRow _ _ _ = wz at *
              go_simp
              go_wp2_with fail
              go_roundw
              case rel => exact ⟨k + 1, by omega, by go_num, hfin.1, hfin.2⟩
              case measure => simp [intOf]; omega
            refine AllReady.cons rfl ?_ AllReady.nil
            intro K hK
            go_simp
            refine (CT.out _ hb0).mono ?_
            rintro e q1 ⟨rfl, hbn⟩
            have hb1 := hb0.trans (hbn.mono hb0.size)
            clear hbn
            show K _ _
            refine hK _ _ ?_
            clear hK K
            refine wpAny_ready (rs := [0]) (by kernel_rfl) (by simp) ?_
            refine AllReady.cons rfl (fun K hK => ?_) AllReady.nil
            rw [if_pos (by rfl)]
            refine wp_load_rel (HC.out _ hb1) (.tmp 11) rfl rfl ?_
            refine hK _ _ ?_
            clear hK K
            refine wpAny_ready (rs := [4]) (by kernel_rfl) (by simp) ?_
            refine AllReady.cons rfl (fun K hK => ?_) AllReady.nil
            go_simp
            refine (CU.out _).mono ?_
            rintro e q2 ⟨rfl, hbn⟩
            have hb2 := hb1.trans (hbn.mono hb1.size)
            clear hbn
            show K _ _
            refine hK _ _ ?_
            clear hK K
            refine wpAny_ready (rs := [5]) (by kernel_rfl) (by simp) ?_
            refine AllReady.cons rfl (fun K hK => ?_) AllReady.nil
            rw [if_pos (by rfl)]
            refine wp_store_rel (HC.out _ hb2) (orR C (thenR C C)) (.tmp 11) (.tmp 77) rfl rfl rfl ?_
            refine hK _ _ ?_
            clear hK K
            refine wpAny_done (by kernel_rfl) ?_ _
            have hfin := HB.out _ hb2
            generalize World.setRow _ _ _ = wz at *
            go_simp
            go_wp2_with fail
            go_roundw
            case rel => exact ⟨k + 1, by omega, by go_num, hfin.1, hfin.2⟩
            case measure => simp [intOf]; omega
          · obtain rfl : k = 7 := by omega
            have hki : ¬ ((7 : Nat) : Int) < 7 := by omega
            have hrc := hr.as (sqr_clo R)
            have hr6 := hry.below hb hlx
            have HC : Hid (∀ W, Below wr.heap.size wr W → RelAt W wx.heap.size 27 (clo R)) := Lib.hid (fun W hW => hrc.below hW hlr)
            have H6 : Hid (∀ W, Below wr.heap.size wr W → RelAt W w6.heap.size 27 R) := Lib.hid (fun W hW => hr6.below hW hr6.lt)
            have CL := Lib.hid (closure_any R)
            have CTH := Lib.hid (fun W hW => then_any (clo R) (clo R) W (HTR.out W hW))
            have CWI : Hid (∀ W, Calls Tryd.prog 40 #[.agg (rowsA (thenR (clo R) (clo R))), .agg (rowsA (clo R))] W fun e w' => e = .returned (.bool true) ∧ Below W.heap.size W w') := Lib.hid (fun W => by
              have h := withinR_any (thenR (clo R) (clo R)) (clo R) W
              rwa [clo_then] at h)
            have CTU := Lib.hid (fun W hW => turned_any R W (HTR.out W hW))
            have CLT : Hid (∀ W, Calls Tryd.prog 44 #[.agg (rowsA (turnR R))] W fun e w' => e = .returned (.agg (rowsA (turnR (clo R)))) ∧ Below W.heap.size W w') := Lib.hid (fun W => by
              have h := closure_any (turnR R) W
              rwa [clo_turn] at h)
            have CTC := Lib.hid (fun W hW => turned_any (clo R) W (HTR.out W hW))
            clear hr hb hry hrc hr6 hb3 hzz hk
            go_wp2_with fail
            refine wp_region_held_drew (S := Below wr.heap.size wr) (by kernel_rfl) ⟨rfl, rfl, rfl, Nat.le_refl _, fun _ _ => rfl⟩ (fun hS0 => ?_)
            refine takeH (some 79) (i := 0) (v := _) rfl rfl (by kernel_rfl) (by kernel_rfl) (by kernel_rfl) (fun _ _ _ h => h) (yields_load_rel (by rfl) (.tmp 11) rfl rfl HC.out) hS0 ?_
            try simp only [Act.put, List.setIfInBounds_toArray, List.set_cons_zero, List.set_cons_succ]
            refine takeH (some 80) (i := 1) (v := _) rfl rfl (by kernel_rfl) (by kernel_rfl) (by kernel_rfl) (fun _ _ _ h => h) (yields_load_rel (by rfl) (.tmp 6) rfl rfl H6.out) hS0 ?_
            try simp only [Act.put, List.setIfInBounds_toArray, List.set_cons_zero, List.set_cons_succ]
            refine wpAnyH_ready (rs := [2]) (by kernel_rfl) (by simp) ?_
            refine AllReadyH.cons rfl (fun K hK => ?_) AllReadyH.nil
            go_simp
            refine (CL.out _).mono ?_
            rintro e q1 ⟨rfl, hbn⟩
            show K _ _
            have hS1 := hS0.trans (hbn.mono hS0.size)
            refine hK.out _ _ hS1 (fun _ => ?_)
            clear hK K
            refine takeH (some 82) (i := 3) (v := .bool true) rfl rfl (by kernel_rfl) (by kernel_rfl) (by kernel_rfl) (fun _ _ _ h => h) (yields_eql_rel (by rfl) (.tmp 79) (.tmp 81) rfl rfl rfl) hS1 ?_
            try simp only [Act.put, List.setIfInBounds_toArray, List.set_cons_zero, List.set_cons_succ]
            refine takeH (some 83) (i := 4) (v := ?v18) rfl rfl (by kernel_rfl) (by kernel_rfl) (by kernel_rfl) (fun _ _ _ h => h) (Or.inl ⟨by rfl, ?h18⟩) hS1 ?r18
            case h18 => (intro w _; go_simp; try (with_reducible rfl))
            try simp only [Act.put, List.setIfInBounds_toArray, List.set_cons_zero, List.set_cons_succ]
            refine takeH (some 84) (i := 5) (v := _) rfl rfl (by kernel_rfl) (by kernel_rfl) (by kernel_rfl) (fun _ _ _ h => h) (yields_load_rel (by rfl) (.tmp 11) rfl rfl HC.out) hS1 ?_
            try simp only [Act.put, List.setIfInBounds_toArray, List.set_cons_zero, List.set_cons_succ]
            refine takeH (some 85) (i := 6) (v := _) rfl rfl (by kernel_rfl) (by kernel_rfl) (by kernel_rfl) (fun _ _ _ h => h) (yields_load_rel (by rfl) (.tmp 11) rfl rfl HC.out) hS1 ?_
            try simp only [Act.put, List.setIfInBounds_toArray, List.set_cons_zero, List.set_cons_succ]
            refine takeH (some 87) (i := 8) (v := _) rfl rfl (by kernel_rfl) (by kernel_rfl) (by kernel_rfl) (fun _ _ _ h => h) (yields_load_rel (by rfl) (.tmp 11) rfl rfl HC.out) hS1 ?_
            try simp only [Act.put, List.setIfInBounds_toArray, List.set_cons_zero, List.set_cons_succ]
            refine wpAnyH_ready (rs := [7]) (by kernel_rfl) (by simp) ?_
            refine AllReadyH.cons rfl (fun K hK => ?_) AllReadyH.nil
            go_simp
            refine (CTH.out _ hS1).mono ?_
            rintro e q2 ⟨rfl, hbn⟩
            show K _ _
            have hS2 := hS1.trans (hbn.mono hS1.size)
            refine hK.out _ _ hS2 (fun _ => ?_)
            clear hK K
            refine wpAnyH_ready (rs := [9]) (by kernel_rfl) (by simp) ?_
            refine AllReadyH.cons rfl (fun K hK => ?_) AllReadyH.nil
            go_simp
            refine (CWI.out _).mono ?_
            rintro e q3 ⟨rfl, hbn⟩
            show K _ _
            have hS3 := hS2.trans (hbn.mono hS2.size)
            refine hK.out _ _ hS3 (fun _ => ?_)
            clear hK K
            refine takeH (some 89) (i := 10) (v := ?v19) rfl rfl (by kernel_rfl) (by kernel_rfl) (by kernel_rfl) (fun _ _ _ h => h) (Or.inl ⟨by rfl, ?h19⟩) hS3 ?r19
            case h19 => (intro w _; go_simp; try (with_reducible rfl))
            try simp only [Act.put, List.setIfInBounds_toArray, List.set_cons_zero, List.set_cons_succ]
            refine takeH (some 90) (i := 11) (v := ?v20) rfl rfl (by kernel_rfl) (by kernel_rfl) (by kernel_rfl) (fun _ _ _ h => h) (Or.inl ⟨by rfl, ?h20⟩) hS3 ?r20
            case h20 => (intro w _; go_simp; try (with_reducible rfl))
            try simp only [Act.put, List.setIfInBounds_toArray, List.set_cons_zero, List.set_cons_succ]
            refine takeH (some 91) (i := 12) (v := _) rfl rfl (by kernel_rfl) (by kernel_rfl) (by kernel_rfl) (fun _ _ _ h => h) (yields_load_rel (by rfl) (.tmp 6) rfl rfl H6.out) hS3 ?_
            try simp only [Act.put, List.setIfInBounds_toArray, List.set_cons_zero, List.set_cons_succ]
            refine takeH (some 94) (i := 15) (v := _) rfl rfl (by kernel_rfl) (by kernel_rfl) (by kernel_rfl) (fun _ _ _ h => h) (yields_load_rel (by rfl) (.tmp 11) rfl rfl HC.out) hS3 ?_
            try simp only [Act.put, List.setIfInBounds_toArray, List.set_cons_zero, List.set_cons_succ]
            refine wpAnyH_ready (rs := [13]) (by kernel_rfl) (by simp) ?_
            refine AllReadyH.cons rfl (fun K hK => ?_) AllReadyH.nil
            go_simp
            refine (CTU.out _ hS3).mono ?_
            rintro e q4 ⟨rfl, hbn⟩
            show K _ _
            have hS4 := hS3.trans (hbn.mono hS3.size)
            refine hK.out _ _ hS4 (fun _ => ?_)
            clear hK K
            refine wpAnyH_ready (rs := [14]) (by kernel_rfl) (by simp) ?_
            refine AllReadyH.cons rfl (fun K hK => ?_) AllReadyH.nil
            go_simp
            refine (CLT.out _).mono ?_
            rintro e q5 ⟨rfl, hbn⟩
            show K _ _
            have hS5 := hS4.trans (hbn.mono hS4.size)
            refine hK.out _ _ hS5 (fun _ => ?_)
            clear hK K
            refine wpAnyH_ready (rs := [16]) (by kernel_rfl) (by simp) ?_
            refine AllReadyH.cons rfl (fun K hK => ?_) AllReadyH.nil
            go_simp
            refine (CTC.out _ hS5).mono ?_
            rintro e q6 ⟨rfl, hbn⟩
            show K _ _
            have hS6 := hS5.trans (hbn.mono hS5.size)
            refine hK.out _ _ hS6 (fun _ => ?_)
            clear hK K
            refine takeH (some 96) (i := 17) (v := .bool true) rfl rfl (by kernel_rfl) (by kernel_rfl) (by kernel_rfl) (fun _ _ _ h => h) (yields_eql_rel (by rfl) (.tmp 93) (.tmp 95) rfl rfl rfl) hS6 ?_
            try simp only [Act.put, List.setIfInBounds_toArray, List.set_cons_zero, List.set_cons_succ]
            refine takeH (some 97) (i := 18) (v := ?v21) rfl rfl (by kernel_rfl) (by kernel_rfl) (by kernel_rfl) (fun _ _ _ h => h) (Or.inl ⟨by rfl, ?h21⟩) hS6 ?r21
            case h21 => (intro w _; go_simp; try (with_reducible rfl))
            try simp only [Act.put, List.setIfInBounds_toArray, List.set_cons_zero, List.set_cons_succ]
            refine wpAnyH_ready (rs := [19]) (by kernel_rfl) (by simp) ?_
            refine AllReadyH.cons rfl (fun K hK => ?_) AllReadyH.nil
            go_simp
            have hS7 := hS6
            refine hK.out _ _ hS7 (fun _ => ?_)
            clear hK K
            refine wpAnyH_done (by kernel_rfl) ?_ _
            go_wp2_with fail
            go_ret
            exact ⟨rfl, hbw.trans (hS7.mono hbw.size)⟩
      | some N =>
        rw [hcs] at hso HF2
        obtain ⟨rfl, hI9⟩ := hso
        obtain ⟨hac, hin⟩ := HF2
        have CA : Hid (∀ W, Calls Tryd.prog 38 #[.agg (rowsA R)] W fun e w' => e = .returned (.bool true) ∧ Below W.heap.size W w') := Lib.hid (fun W => by
          have h := acyclic_any R W
          rwa [hac] at h)
        have CY : Hid (∀ W, Tab W → Calls Tryd.prog 39 #[.agg (rowsA R)] W fun e w' => ∃ ao cap, e = .returned (.slice ao 0 cap) ∧ Below W.heap.size W w') := Lib.hid (fun W ht => by
          refine (cycle_any R W ht).mono ?_
          rintro e w' ⟨v, C, rfl, hI, hC, hb⟩
          rcases hC with ⟨rfl, _⟩ | ⟨_, h⟩
          · obtain ⟨ao, cap, rfl, _⟩ := hI.form
            exact ⟨ao, cap, rfl, hb⟩
          · rw [hac] at h; cases h)
        have CW : Hid (∀ W, Calls Tryd.prog 40 #[.agg (rowsA R), .agg (rowsA (chainR (N.map Int.ofNat)))] W fun e w' => e = .returned (.bool true) ∧ Below W.heap.size W w') := Lib.hid (fun W => by
          have h := withinR_any R (chainR (N.map Int.ofNat)) W
          rwa [hin] at h)
        have HI9 := Lib.hid hI9
        clear hac hin hcs hI9
        go_wp2_with fail
        refine wp_region_held_drew (S := Below w9.heap.size w9) (by kernel_rfl) ⟨rfl, rfl, rfl, Nat.le_refl _, fun _ _ => rfl⟩ (fun hS0 => ?_)
        refine takeH (some 48) (i := 0) (v := ?v22) rfl rfl (by kernel_rfl) (by kernel_rfl) (by kernel_rfl) (fun _ _ _ h => h) (Or.inl ⟨by rfl, ?h22⟩) hS0 ?r22
        case h22 => (intro w _; go_simp; try (with_reducible rfl))
        try simp only [Act.put, List.setIfInBounds_toArray, List.set_cons_zero, List.set_cons_succ]
        refine takeH (some 49) (i := 1) (v := _) rfl rfl (by kernel_rfl) (by kernel_rfl) (by kernel_rfl) (fun _ _ _ h => h) (yields_load_rel (by rfl) (.tmp 6) rfl rfl (fun wx hb => HR.out wx (HQ.out wx hb))) hS0 ?_
        try simp only [Act.put, List.setIfInBounds_toArray, List.set_cons_zero, List.set_cons_succ]
        refine wpAnyH_ready (rs := [2]) (by kernel_rfl) (by simp) ?_
        refine AllReadyH.cons rfl (fun K hK => ?_) AllReadyH.nil
        go_simp
        refine (CA.out _).mono ?_
        rintro e q1 ⟨rfl, hbn⟩
        show K _ _
        have hS1 := hS0.trans (hbn.mono hS0.size)
        refine hK.out _ _ hS1 (fun _ => ?_)
        clear hK K
        refine takeH (some 51) (i := 3) (v := ?v23) rfl rfl (by kernel_rfl) (by kernel_rfl) (by kernel_rfl) (fun _ _ _ h => h) (Or.inl ⟨by rfl, ?h23⟩) hS1 ?r23
        case h23 => (intro w _; go_simp; try (with_reducible rfl))
        try simp only [Act.put, List.setIfInBounds_toArray, List.set_cons_zero, List.set_cons_succ]
        refine takeH (some 52) (i := 4) (v := ?v24) rfl rfl (by kernel_rfl) (by kernel_rfl) (by kernel_rfl) (fun _ _ _ h => h) (Or.inl ⟨by rfl, ?h24⟩) hS1 ?r24
        case h24 => (intro w _; go_simp; try (with_reducible rfl))
        try simp only [Act.put, List.setIfInBounds_toArray, List.set_cons_zero, List.set_cons_succ]
        refine takeH (some 53) (i := 5) (v := ?v25) rfl rfl (by kernel_rfl) (by kernel_rfl) (by kernel_rfl) (fun _ _ _ h => h) (Or.inl ⟨by rfl, ?h25⟩) hS1 ?r25
        case h25 => (intro w _; go_simp; try (with_reducible rfl))
        try simp only [Act.put, List.setIfInBounds_toArray, List.set_cons_zero, List.set_cons_succ]
        refine takeH (some 54) (i := 6) (v := _) rfl rfl (by kernel_rfl) (by kernel_rfl) (by kernel_rfl) (fun _ _ _ h => h) (yields_load_rel (by rfl) (.tmp 6) rfl rfl (fun wx hb => HR.out wx (HQ.out wx hb))) hS1 ?_
        try simp only [Act.put, List.setIfInBounds_toArray, List.set_cons_zero, List.set_cons_succ]
        refine wpAnyH_ready (rs := [7]) (by kernel_rfl) (by simp) ?_
        refine AllReadyH.cons rfl (fun K hK => ?_) AllReadyH.nil
        go_simp
        refine (CY.out _ (HTR.out _ (HQ.out _ hS1))).mono ?_
        rintro e q2 ⟨cao, ccap, rfl, hbn⟩
        show K _ _
        have hS2 := hS1.trans (hbn.mono hS1.size)
        refine hK.out _ _ hS2 (fun _ => ?_)
        clear hK K
        refine takeH (some 56) (i := 8) (v := ?v26) rfl rfl (by kernel_rfl) (by kernel_rfl) (by kernel_rfl) (fun _ _ _ h => h) (Or.inl ⟨by rfl, ?h26⟩) hS2 ?r26
        case h26 => (intro w _; go_simp; try (with_reducible rfl))
        try simp only [Act.put, List.setIfInBounds_toArray, List.set_cons_zero, List.set_cons_succ]
        refine takeH (some 57) (i := 9) (v := ?v27) rfl rfl (by kernel_rfl) (by kernel_rfl) (by kernel_rfl) (fun _ _ _ h => h) (Or.inl ⟨by rfl, ?h27⟩) hS2 ?r27
        case h27 => (intro w _; go_simp; try (with_reducible rfl))
        try simp only [Act.put, List.setIfInBounds_toArray, List.set_cons_zero, List.set_cons_succ]
        refine takeH (some 58) (i := 10) (v := ?v28) rfl rfl (by kernel_rfl) (by kernel_rfl) (by kernel_rfl) (fun _ _ _ h => h) (Or.inl ⟨by rfl, ?h28⟩) hS2 ?r28
        case h28 => (intro w _; go_simp; try (with_reducible rfl))
        try simp only [Act.put, List.setIfInBounds_toArray, List.set_cons_zero, List.set_cons_succ]
        refine takeH (some 59) (i := 11) (v := ?v29) rfl rfl (by kernel_rfl) (by kernel_rfl) (by kernel_rfl) (fun _ _ _ h => h) (Or.inl ⟨by rfl, ?h29⟩) hS2 ?r29
        case h29 => (intro w _; go_simp; try (with_reducible rfl))
        try simp only [Act.put, List.setIfInBounds_toArray, List.set_cons_zero, List.set_cons_succ]
        refine takeH (some 60) (i := 12) (v := ?v30) rfl rfl (by kernel_rfl) (by kernel_rfl) (by kernel_rfl) (fun _ _ _ h => h) (Or.inl ⟨by rfl, ?h30⟩) hS2 ?r30
        case h30 => (intro w _; go_simp; try (with_reducible rfl))
        try simp only [Act.put, List.setIfInBounds_toArray, List.set_cons_zero, List.set_cons_succ]
        refine takeH (some 61) (i := 13) (v := ?v31) rfl rfl (by kernel_rfl) (by kernel_rfl) (by kernel_rfl) (fun _ _ _ h => h) (Or.inl ⟨by rfl, ?h31⟩) hS2 ?r31
        case h31 => (intro w _; go_simp; try (with_reducible rfl))
        try simp only [Act.put, List.setIfInBounds_toArray, List.set_cons_zero, List.set_cons_succ]
        refine takeH (some 62) (i := 14) (v := ?v32) rfl rfl (by kernel_rfl) (by kernel_rfl) (by kernel_rfl) (fun _ _ _ h => h) (Or.inl ⟨by rfl, ?h32⟩) hS2 ?r32
        case h32 => (intro w _; go_simp; try (with_reducible rfl))
        try simp only [Act.put, List.setIfInBounds_toArray, List.set_cons_zero, List.set_cons_succ]
        refine takeH (some 63) (i := 15) (v := _) rfl rfl (by kernel_rfl) (by kernel_rfl) (by kernel_rfl) (fun _ _ _ h => h) (yields_load_rel (by rfl) (.tmp 6) rfl rfl (fun wx hb => HR.out wx (HQ.out wx hb))) hS2 ?_
        try simp only [Act.put, List.setIfInBounds_toArray, List.set_cons_zero, List.set_cons_succ]
        refine takeH (some 64) (i := 16) (v := ?v33) rfl rfl (by kernel_rfl) (by kernel_rfl) (by kernel_rfl) (fun _ _ _ h => h) (Or.inl ⟨by rfl, ?h33⟩) hS2 ?r33
        case h33 => (intro w _; go_simp; try (with_reducible rfl))
        try simp only [Act.put, List.setIfInBounds_toArray, List.set_cons_zero, List.set_cons_succ]
        refine wpAnyH_ready (rs := [17]) (by kernel_rfl) (by simp) ?_
        refine AllReadyH.cons rfl (fun K hK => ?_) AllReadyH.nil
        go_simp
        refine (chain_any _ _ _ (HI9.out.below hS2)).mono ?_
        rintro e q3 ⟨rfl, hbn⟩
        show K _ _
        have hS3 := hS2.trans (hbn.mono hS2.size)
        refine hK.out _ _ hS3 (fun _ => ?_)
        clear hK K
        refine wpAnyH_ready (rs := [18]) (by kernel_rfl) (by simp) ?_
        refine AllReadyH.cons rfl (fun K hK => ?_) AllReadyH.nil
        go_simp
        refine (CW.out _).mono ?_
        rintro e q4 ⟨rfl, hbn⟩
        show K _ _
        have hS4 := hS3.trans (hbn.mono hS3.size)
        refine hK.out _ _ hS4 (fun _ => ?_)
        clear hK K
        refine takeH (some 67) (i := 19) (v := ?v34) rfl rfl (by kernel_rfl) (by kernel_rfl) (by kernel_rfl) (fun _ _ _ h => h) (Or.inl ⟨by rfl, ?h34⟩) hS4 ?r34
        case h34 => (intro w _; go_simp; try (with_reducible rfl))
        try simp only [Act.put, List.setIfInBounds_toArray, List.set_cons_zero, List.set_cons_succ]
        refine takeH (some 68) (i := 20) (v := ?v35) rfl rfl (by kernel_rfl) (by kernel_rfl) (by kernel_rfl) (fun _ _ _ h => h) (Or.inl ⟨by rfl, ?h35⟩) hS4 ?r35
        case h35 => (intro w _; go_simp; try (with_reducible rfl))
        try simp only [Act.put, List.setIfInBounds_toArray, List.set_cons_zero, List.set_cons_succ]
        refine takeH (some 69) (i := 21) (v := ?v36) rfl rfl (by kernel_rfl) (by kernel_rfl) (by kernel_rfl) (fun _ _ _ h => h) (Or.inl ⟨by rfl, ?h36⟩) hS4 ?r36
        case h36 => (intro w _; go_simp; try (with_reducible rfl))
        try simp only [Act.put, List.setIfInBounds_toArray, List.set_cons_zero, List.set_cons_succ]
        refine wpAnyH_done (by kernel_rfl) ?_ _
        have hbx : Below w.heap.size w q4 := HBW.out.trans ((HQ.out _ hS4).mono HBW.out.size)
        have hrx : RelAt q4 w6.heap.size 27 R := HR.out _ (HQ.out _ hS4)
        clear hS0 hS1 hS2 hS3 hS4 hbn HQ HR HTR HBW CA CY HF
        generalize q4 = wx at *
        have hz := zero_block wx
        have hzz := hz.setRow R
        have hzb := zero_below wx R
        have hlx := hrx.lt
        have hry := hrx.below hzb hlx
        have hb3 := hbx.trans (hzb.mono hbx.size)
        go_wp2_with (first
          | (with_reducible refine wpList_store_rel hz R rfl _ _ rfl rfl rfl ?_)
          | (with_reducible refine wpList_load_rel hrx rfl _ rfl rfl ?_))
        clear hz hrx hzb
        generalize World.setRow _ _ _ = w3 at *
        go_loopw [71] (fun i wr => ∃ k : Nat, k ≤ 7 ∧ i = .int .i64 k ∧ RelAt wr wx.heap.size 27 (sqr R k) ∧ Below wx.heap.size w3 wr)
          (fun i _ => 7 - (intOf i).toNat)
        case atStart => exact ⟨0, by omega, rfl, hzz, Below.refl _ _⟩
        case round =>
          obtain ⟨k, hk, rfl, hr, hb⟩ := hrel
          have hbw := hb3.trans (hb.mono hbx.size)
          have HTR : Hid (∀ W, Below wr.heap.size wr W → Tab W) := Lib.hid (fun W hW => HT.out _ (hbw.trans (hW.mono hbw.size)))
          have hlr := hr.lt
          by_cases hlt : k < 7
          · have hki : (k : Int) < 7 := by omega
            have HN : Hid (sqr R (k + 1) = orR (sqr R k) (thenR (sqr R k) (sqr R k))) := Lib.hid rfl
            generalize sqr R k = C at *
            have HC : Hid (∀ W, Below wr.heap.size wr W → RelAt W wx.heap.size 27 C) := Lib.hid (fun W hW => hr.below hW hlr)
            have CT : Hid (∀ W, Below wr.heap.size wr W → Calls Tryd.prog 43 #[.agg (rowsA C), .agg (rowsA C)] W fun e w' => e = .returned (.agg (rowsA (thenR C C))) ∧ Below W.heap.size W w') := Lib.hid (fun W hW => then_any C C W (HTR.out _ hW))
            have CU : Hid (∀ W, Calls Tryd.prog 42 #[.agg (rowsA C), .agg (rowsA (thenR C C))] W fun e w' => e = .returned (.agg (rowsA (orR C (thenR C C)))) ∧ Below W.heap.size W w') := Lib.hid (fun W => union_any C (thenR C C) W)
            have HB : Hid (∀ W, Below wr.heap.size wr W → RelAt (W.setRow wx.heap.size (rowsA (orR C (thenR C C)))) wx.heap.size 27 (sqr R (k + 1)) ∧ Below wx.heap.size w3 (W.setRow wx.heap.size (rowsA (orR C (thenR C C))))) := Lib.hid (fun W hW => ⟨by rw [HN.out]; exact (HC.out W hW).setRow _, below_setRow (hb.trans (hW.mono (by omega))) (Nat.le_refl _) _⟩)
            have hb0 : Below wr.heap.size wr wr.drew := (Below.refl _ _).drew
            clear hr hb hbw HN
            go_wp2_with fail
            refine wp_region_any (by kernel_rfl) ?_
            change wpAny _ _ _ _ _ _ _ (World.drew _)
            refine wpAny_ready (rs := [0, 1, 2]) (by kernel_rfl) (by simp) ?_
            refine AllReady.cons rfl ?_ ?_
            · intro K hK
              rw [if_pos (by rfl)]
              refine wp_load_rel (HC.out _ hb0) (.tmp 11) rfl rfl ?_
              refine hK _ _ ?_
              clear hK K
              refine wpAny_ready (rs := [1, 2]) (by kernel_rfl) (by simp) ?_
              refine AllReady.cons rfl ?_ ?_
              · intro K hK
                rw [if_pos (by rfl)]
                refine wp_load_rel (HC.out _ hb0) (.tmp 11) rfl rfl ?_
                refine hK _ _ ?_
                clear hK K
                refine wpAny_ready (rs := [2]) (by kernel_rfl) (by simp) ?_
                refine AllReady.cons rfl (fun K hK => ?_) AllReady.nil
                rw [if_pos (by rfl)]
                refine wp_load_rel (HC.out _ hb0) (.tmp 11) rfl rfl ?_
                refine hK _ _ ?_
                clear hK K
                refine wpAny_ready (rs := [3]) (by kernel_rfl) (by simp) ?_
                refine AllReady.cons rfl (fun K hK => ?_) AllReady.nil
                go_simp
                refine (CT.out _ hb0).mono ?_
                rintro e q1 ⟨rfl, hbn⟩
                have hb1 := hb0.trans (hbn.mono hb0.size)
                clear hbn
                show K _ _
                refine hK _ _ ?_
                clear hK K
                refine wpAny_ready (rs := [4]) (by kernel_rfl) (by simp) ?_
                refine AllReady.cons rfl (fun K hK => ?_) AllReady.nil
                go_simp
                refine (CU.out _).mono ?_
                rintro e q2 ⟨rfl, hbn⟩
                have hb2 := hb1.trans (hbn.mono hb1.size)
                clear hbn
                show K _ _
                refine hK _ _ ?_
                clear hK K
                refine wpAny_ready (rs := [5]) (by kernel_rfl) (by simp) ?_
                refine AllReady.cons rfl (fun K hK => ?_) AllReady.nil
                rw [if_pos (by rfl)]
                refine wp_store_rel (HC.out _ hb2) (orR C (thenR C C)) (.tmp 11) (.tmp 77) rfl rfl rfl ?_
                refine hK _ _ ?_
                clear hK K
                refine wpAny_done (by kernel_rfl) ?_ _
                have hfin := HB.out _ hb2
                generalize World.setRow _ _ _ = wz at *
                go_simp
                go_wp2_with fail
                go_roundw
                case rel => exact ⟨k + 1, by omega, by go_num, hfin.1, hfin.2⟩
                case measure => simp [intOf]; omega
              refine AllReady.cons rfl ?_ AllReady.nil
              intro K hK
              rw [if_pos (by rfl)]
              refine wp_load_rel (HC.out _ hb0) (.tmp 11) rfl rfl ?_
              refine hK _ _ ?_
              clear hK K
              refine wpAny_ready (rs := [1]) (by kernel_rfl) (by simp) ?_
              refine AllReady.cons rfl (fun K hK => ?_) AllReady.nil
              rw [if_pos (by rfl)]
              refine wp_load_rel (HC.out _ hb0) (.tmp 11) rfl rfl ?_
              refine hK _ _ ?_
              clear hK K
              refine wpAny_ready (rs := [3]) (by kernel_rfl) (by simp) ?_
              refine AllReady.cons rfl (fun K hK => ?_) AllReady.nil
              go_simp
              refine (CT.out _ hb0).mono ?_
              rintro e q1 ⟨rfl, hbn⟩
              have hb1 := hb0.trans (hbn.mono hb0.size)
              clear hbn
              show K _ _
              refine hK _ _ ?_
              clear hK K
              refine wpAny_ready (rs := [4]) (by kernel_rfl) (by simp) ?_
              refine AllReady.cons rfl (fun K hK => ?_) AllReady.nil
              go_simp
              refine (CU.out _).mono ?_
              rintro e q2 ⟨rfl, hbn⟩
              have hb2 := hb1.trans (hbn.mono hb1.size)
              clear hbn
              show K _ _
              refine hK _ _ ?_
              clear hK K
              refine wpAny_ready (rs := [5]) (by kernel_rfl) (by simp) ?_
              refine AllReady.cons rfl (fun K hK => ?_) AllReady.nil
              rw [if_pos (by rfl)]
              refine wp_store_rel (HC.out _ hb2) (orR C (thenR C C)) (.tmp 11) (.tmp 77) rfl rfl rfl ?_
              refine hK _ _ ?_
              clear hK K
              refine wpAny_done (by kernel_rfl) ?_ _
              have hfin := HB.out _ hb2
              generalize World.setRow _ _ _ = wz at *
              go_simp
              go_wp2_with fail
              go_roundw
              case rel => exact ⟨k + 1, by omega, by go_num, hfin.1, hfin.2⟩
              case measure => simp [intOf]; omega
            refine AllReady.cons rfl ?_ ?_
            · intro K hK
              rw [if_pos (by rfl)]
              refine wp_load_rel (HC.out _ hb0) (.tmp 11) rfl rfl ?_
              refine hK _ _ ?_
              clear hK K
              refine wpAny_ready (rs := [0, 2]) (by kernel_rfl) (by simp) ?_
              refine AllReady.cons rfl ?_ ?_
              · intro K hK
                rw [if_pos (by rfl)]
                refine wp_load_rel (HC.out _ hb0) (.tmp 11) rfl rfl ?_
                refine hK _ _ ?_
                clear hK K
                refine wpAny_ready (rs := [2]) (by kernel_rfl) (by simp) ?_
                refine AllReady.cons rfl (fun K hK => ?_) AllReady.nil
                rw [if_pos (by rfl)]
                refine wp_load_rel (HC.out _ hb0) (.tmp 11) rfl rfl ?_
                refine hK _ _ ?_
                clear hK K
                refine wpAny_ready (rs := [3]) (by kernel_rfl) (by simp) ?_
                refine AllReady.cons rfl (fun K hK => ?_) AllReady.nil
                go_simp
                refine (CT.out _ hb0).mono ?_
                rintro e q1 ⟨rfl, hbn⟩
                have hb1 := hb0.trans (hbn.mono hb0.size)
                clear hbn
                show K _ _
                refine hK _ _ ?_
                clear hK K
                refine wpAny_ready (rs := [4]) (by kernel_rfl) (by simp) ?_
                refine AllReady.cons rfl (fun K hK => ?_) AllReady.nil
                go_simp
                refine (CU.out _).mono ?_
                rintro e q2 ⟨rfl, hbn⟩
                have hb2 := hb1.trans (hbn.mono hb1.size)
                clear hbn
                show K _ _
                refine hK _ _ ?_
                clear hK K
                refine wpAny_ready (rs := [5]) (by kernel_rfl) (by simp) ?_
                refine AllReady.cons rfl (fun K hK => ?_) AllReady.nil
                rw [if_pos (by rfl)]
                refine wp_store_rel (HC.out _ hb2) (orR C (thenR C C)) (.tmp 11) (.tmp 77) rfl rfl rfl ?_
                refine hK _ _ ?_
                clear hK K
                refine wpAny_done (by kernel_rfl) ?_ _
                have hfin := HB.out _ hb2
                generalize World.setRow _ _ _ = wz at *
                go_simp
                go_wp2_with fail
                go_roundw
                case rel => exact ⟨k + 1, by omega, by go_num, hfin.1, hfin.2⟩
                case measure => simp [intOf]; omega
              refine AllReady.cons rfl ?_ AllReady.nil
              intro K hK
              rw [if_pos (by rfl)]
              refine wp_load_rel (HC.out _ hb0) (.tmp 11) rfl rfl ?_
              refine hK _ _ ?_
              clear hK K
              refine wpAny_ready (rs := [0, 3]) (by kernel_rfl) (by simp) ?_
              refine AllReady.cons rfl ?_ ?_
              · intro K hK
                rw [if_pos (by rfl)]
                refine wp_load_rel (HC.out _ hb0) (.tmp 11) rfl rfl ?_
                refine hK _ _ ?_
                clear hK K
                refine wpAny_ready (rs := [3]) (by kernel_rfl) (by simp) ?_
                refine AllReady.cons rfl (fun K hK => ?_) AllReady.nil
                go_simp
                refine (CT.out _ hb0).mono ?_
                rintro e q1 ⟨rfl, hbn⟩
                have hb1 := hb0.trans (hbn.mono hb0.size)
                clear hbn
                show K _ _
                refine hK _ _ ?_
                clear hK K
                refine wpAny_ready (rs := [4]) (by kernel_rfl) (by simp) ?_
                refine AllReady.cons rfl (fun K hK => ?_) AllReady.nil
                go_simp
                refine (CU.out _).mono ?_
                rintro e q2 ⟨rfl, hbn⟩
                have hb2 := hb1.trans (hbn.mono hb1.size)
                clear hbn
                show K _ _
                refine hK _ _ ?_
                clear hK K
                refine wpAny_ready (rs := [5]) (by kernel_rfl) (by simp) ?_
                refine AllReady.cons rfl (fun K hK => ?_) AllReady.nil
                rw [if_pos (by rfl)]
                refine wp_store_rel (HC.out _ hb2) (orR C (thenR C C)) (.tmp 11) (.tmp 77) rfl rfl rfl ?_
                refine hK _ _ ?_
                clear hK K
                refine wpAny_done (by kernel_rfl) ?_ _
                have hfin := HB.out _ hb2
                generalize World.setRow _ _ _ = wz at *
                go_simp
                go_wp2_with fail
                go_roundw
                case rel => exact ⟨k + 1, by omega, by go_num, hfin.1, hfin.2⟩
                case measure => simp [intOf]; omega
              refine AllReady.cons rfl ?_ AllReady.nil
              intro K hK
              go_simp
              refine (CT.out _ hb0).mono ?_
              rintro e q1 ⟨rfl, hbn⟩
              have hb1 := hb0.trans (hbn.mono hb0.size)
              clear hbn
              show K _ _
              refine hK _ _ ?_
              clear hK K
              refine wpAny_ready (rs := [0]) (by kernel_rfl) (by simp) ?_
              refine AllReady.cons rfl (fun K hK => ?_) AllReady.nil
              rw [if_pos (by rfl)]
              refine wp_load_rel (HC.out _ hb1) (.tmp 11) rfl rfl ?_
              refine hK _ _ ?_
              clear hK K
              refine wpAny_ready (rs := [4]) (by kernel_rfl) (by simp) ?_
              refine AllReady.cons rfl (fun K hK => ?_) AllReady.nil
              go_simp
              refine (CU.out _).mono ?_
              rintro e q2 ⟨rfl, hbn⟩
              have hb2 := hb1.trans (hbn.mono hb1.size)
              clear hbn
              show K _ _
              refine hK _ _ ?_
              clear hK K
              refine wpAny_ready (rs := [5]) (by kernel_rfl) (by simp) ?_
              refine AllReady.cons rfl (fun K hK => ?_) AllReady.nil
              rw [if_pos (by rfl)]
              refine wp_store_rel (HC.out _ hb2) (orR C (thenR C C)) (.tmp 11) (.tmp 77) rfl rfl rfl ?_
              refine hK _ _ ?_
              clear hK K
              refine wpAny_done (by kernel_rfl) ?_ _
              have hfin := HB.out _ hb2
              generalize World.setRow _ _ _ = wz at *
              go_simp
              go_wp2_with fail
              go_roundw
              case rel => exact ⟨k + 1, by omega, by go_num, hfin.1, hfin.2⟩
              case measure => simp [intOf]; omega
            refine AllReady.cons rfl ?_ AllReady.nil
            intro K hK
            rw [if_pos (by rfl)]
            refine wp_load_rel (HC.out _ hb0) (.tmp 11) rfl rfl ?_
            refine hK _ _ ?_
            clear hK K
            refine wpAny_ready (rs := [0, 1]) (by kernel_rfl) (by simp) ?_
            refine AllReady.cons rfl ?_ ?_
            · intro K hK
              rw [if_pos (by rfl)]
              refine wp_load_rel (HC.out _ hb0) (.tmp 11) rfl rfl ?_
              refine hK _ _ ?_
              clear hK K
              refine wpAny_ready (rs := [1]) (by kernel_rfl) (by simp) ?_
              refine AllReady.cons rfl (fun K hK => ?_) AllReady.nil
              rw [if_pos (by rfl)]
              refine wp_load_rel (HC.out _ hb0) (.tmp 11) rfl rfl ?_
              refine hK _ _ ?_
              clear hK K
              refine wpAny_ready (rs := [3]) (by kernel_rfl) (by simp) ?_
              refine AllReady.cons rfl (fun K hK => ?_) AllReady.nil
              go_simp
              refine (CT.out _ hb0).mono ?_
              rintro e q1 ⟨rfl, hbn⟩
              have hb1 := hb0.trans (hbn.mono hb0.size)
              clear hbn
              show K _ _
              refine hK _ _ ?_
              clear hK K
              refine wpAny_ready (rs := [4]) (by kernel_rfl) (by simp) ?_
              refine AllReady.cons rfl (fun K hK => ?_) AllReady.nil
              go_simp
              refine (CU.out _).mono ?_
              rintro e q2 ⟨rfl, hbn⟩
              have hb2 := hb1.trans (hbn.mono hb1.size)
              clear hbn
              show K _ _
              refine hK _ _ ?_
              clear hK K
              refine wpAny_ready (rs := [5]) (by kernel_rfl) (by simp) ?_
              refine AllReady.cons rfl (fun K hK => ?_) AllReady.nil
              rw [if_pos (by rfl)]
              refine wp_store_rel (HC.out _ hb2) (orR C (thenR C C)) (.tmp 11) (.tmp 77) rfl rfl rfl ?_
              refine hK _ _ ?_
              clear hK K
              refine wpAny_done (by kernel_rfl) ?_ _
              have hfin := HB.out _ hb2
              generalize World.setRow _ _ _ = wz at *
              go_simp
              go_wp2_with fail
              go_roundw
              case rel => exact ⟨k + 1, by omega, by go_num, hfin.1, hfin.2⟩
              case measure => simp [intOf]; omega
            refine AllReady.cons rfl ?_ AllReady.nil
            intro K hK
            rw [if_pos (by rfl)]
            refine wp_load_rel (HC.out _ hb0) (.tmp 11) rfl rfl ?_
            refine hK _ _ ?_
            clear hK K
            refine wpAny_ready (rs := [0, 3]) (by kernel_rfl) (by simp) ?_
            refine AllReady.cons rfl ?_ ?_
            · intro K hK
              rw [if_pos (by rfl)]
              refine wp_load_rel (HC.out _ hb0) (.tmp 11) rfl rfl ?_
              refine hK _ _ ?_
              clear hK K
              refine wpAny_ready (rs := [3]) (by kernel_rfl) (by simp) ?_
              refine AllReady.cons rfl (fun K hK => ?_) AllReady.nil
              go_simp
              refine (CT.out _ hb0).mono ?_
              rintro e q1 ⟨rfl, hbn⟩
              have hb1 := hb0.trans (hbn.mono hb0.size)
              clear hbn
              show K _ _
              refine hK _ _ ?_
              clear hK K
              refine wpAny_ready (rs := [4]) (by kernel_rfl) (by simp) ?_
              refine AllReady.cons rfl (fun K hK => ?_) AllReady.nil
              go_simp
              refine (CU.out _).mono ?_
              rintro e q2 ⟨rfl, hbn⟩
              have hb2 := hb1.trans (hbn.mono hb1.size)
              clear hbn
              show K _ _
              refine hK _ _ ?_
              clear hK K
              refine wpAny_ready (rs := [5]) (by kernel_rfl) (by simp) ?_
              refine AllReady.cons rfl (fun K hK => ?_) AllReady.nil
              rw [if_pos (by rfl)]
              refine wp_store_rel (HC.out _ hb2) (orR C (thenR C C)) (.tmp 11) (.tmp 77) rfl rfl rfl ?_
              refine hK _ _ ?_
              clear hK K
              refine wpAny_done (by kernel_rfl) ?_ _
              have hfin := HB.out _ hb2
              generalize World.setRow _ _ _ = wz at *
              go_simp
              go_wp2_with fail
              go_roundw
              case rel => exact ⟨k + 1, by omega, by go_num, hfin.1, hfin.2⟩
              case measure => simp [intOf]; omega
            refine AllReady.cons rfl ?_ AllReady.nil
            intro K hK
            go_simp
            refine (CT.out _ hb0).mono ?_
            rintro e q1 ⟨rfl, hbn⟩
            have hb1 := hb0.trans (hbn.mono hb0.size)
            clear hbn
            show K _ _
            refine hK _ _ ?_
            clear hK K
            refine wpAny_ready (rs := [0]) (by kernel_rfl) (by simp) ?_
            refine AllReady.cons rfl (fun K hK => ?_) AllReady.nil
            rw [if_pos (by rfl)]
            refine wp_load_rel (HC.out _ hb1) (.tmp 11) rfl rfl ?_
            refine hK _ _ ?_
            clear hK K
            refine wpAny_ready (rs := [4]) (by kernel_rfl) (by simp) ?_
            refine AllReady.cons rfl (fun K hK => ?_) AllReady.nil
            go_simp
            refine (CU.out _).mono ?_
            rintro e q2 ⟨rfl, hbn⟩
            have hb2 := hb1.trans (hbn.mono hb1.size)
            clear hbn
            show K _ _
            refine hK _ _ ?_
            clear hK K
            refine wpAny_ready (rs := [5]) (by kernel_rfl) (by simp) ?_
            refine AllReady.cons rfl (fun K hK => ?_) AllReady.nil
            rw [if_pos (by rfl)]
            refine wp_store_rel (HC.out _ hb2) (orR C (thenR C C)) (.tmp 11) (.tmp 77) rfl rfl rfl ?_
            refine hK _ _ ?_
            clear hK K
            refine wpAny_done (by kernel_rfl) ?_ _
            have hfin := HB.out _ hb2
            generalize World.setRow _ _ _ = wz at *
            go_simp
            go_wp2_with fail
            go_roundw
            case rel => exact ⟨k + 1, by omega, by go_num, hfin.1, hfin.2⟩
            case measure => simp [intOf]; omega
          · obtain rfl : k = 7 := by omega
            have hki : ¬ ((7 : Nat) : Int) < 7 := by omega
            have hrc := hr.as (sqr_clo R)
            have hr6 := hry.below hb hlx
            have HC : Hid (∀ W, Below wr.heap.size wr W → RelAt W wx.heap.size 27 (clo R)) := Lib.hid (fun W hW => hrc.below hW hlr)
            have H6 : Hid (∀ W, Below wr.heap.size wr W → RelAt W w6.heap.size 27 R) := Lib.hid (fun W hW => hr6.below hW hr6.lt)
            have CL := Lib.hid (closure_any R)
            have CTH := Lib.hid (fun W hW => then_any (clo R) (clo R) W (HTR.out W hW))
            have CWI : Hid (∀ W, Calls Tryd.prog 40 #[.agg (rowsA (thenR (clo R) (clo R))), .agg (rowsA (clo R))] W fun e w' => e = .returned (.bool true) ∧ Below W.heap.size W w') := Lib.hid (fun W => by
              have h := withinR_any (thenR (clo R) (clo R)) (clo R) W
              rwa [clo_then] at h)
            have CTU := Lib.hid (fun W hW => turned_any R W (HTR.out W hW))
            have CLT : Hid (∀ W, Calls Tryd.prog 44 #[.agg (rowsA (turnR R))] W fun e w' => e = .returned (.agg (rowsA (turnR (clo R)))) ∧ Below W.heap.size W w') := Lib.hid (fun W => by
              have h := closure_any (turnR R) W
              rwa [clo_turn] at h)
            have CTC := Lib.hid (fun W hW => turned_any (clo R) W (HTR.out W hW))
            clear hr hb hry hrc hr6 hb3 hzz hk
            go_wp2_with fail
            refine wp_region_held_drew (S := Below wr.heap.size wr) (by kernel_rfl) ⟨rfl, rfl, rfl, Nat.le_refl _, fun _ _ => rfl⟩ (fun hS0 => ?_)
            refine takeH (some 79) (i := 0) (v := _) rfl rfl (by kernel_rfl) (by kernel_rfl) (by kernel_rfl) (fun _ _ _ h => h) (yields_load_rel (by rfl) (.tmp 11) rfl rfl HC.out) hS0 ?_
            try simp only [Act.put, List.setIfInBounds_toArray, List.set_cons_zero, List.set_cons_succ]
            refine takeH (some 80) (i := 1) (v := _) rfl rfl (by kernel_rfl) (by kernel_rfl) (by kernel_rfl) (fun _ _ _ h => h) (yields_load_rel (by rfl) (.tmp 6) rfl rfl H6.out) hS0 ?_
            try simp only [Act.put, List.setIfInBounds_toArray, List.set_cons_zero, List.set_cons_succ]
            refine wpAnyH_ready (rs := [2]) (by kernel_rfl) (by simp) ?_
            refine AllReadyH.cons rfl (fun K hK => ?_) AllReadyH.nil
            go_simp
            refine (CL.out _).mono ?_
            rintro e q1 ⟨rfl, hbn⟩
            show K _ _
            have hS1 := hS0.trans (hbn.mono hS0.size)
            refine hK.out _ _ hS1 (fun _ => ?_)
            clear hK K
            refine takeH (some 82) (i := 3) (v := .bool true) rfl rfl (by kernel_rfl) (by kernel_rfl) (by kernel_rfl) (fun _ _ _ h => h) (yields_eql_rel (by rfl) (.tmp 79) (.tmp 81) rfl rfl rfl) hS1 ?_
            try simp only [Act.put, List.setIfInBounds_toArray, List.set_cons_zero, List.set_cons_succ]
            refine takeH (some 83) (i := 4) (v := ?v37) rfl rfl (by kernel_rfl) (by kernel_rfl) (by kernel_rfl) (fun _ _ _ h => h) (Or.inl ⟨by rfl, ?h37⟩) hS1 ?r37
            case h37 => (intro w _; go_simp; try (with_reducible rfl))
            try simp only [Act.put, List.setIfInBounds_toArray, List.set_cons_zero, List.set_cons_succ]
            refine takeH (some 84) (i := 5) (v := _) rfl rfl (by kernel_rfl) (by kernel_rfl) (by kernel_rfl) (fun _ _ _ h => h) (yields_load_rel (by rfl) (.tmp 11) rfl rfl HC.out) hS1 ?_
            try simp only [Act.put, List.setIfInBounds_toArray, List.set_cons_zero, List.set_cons_succ]
            refine takeH (some 85) (i := 6) (v := _) rfl rfl (by kernel_rfl) (by kernel_rfl) (by kernel_rfl) (fun _ _ _ h => h) (yields_load_rel (by rfl) (.tmp 11) rfl rfl HC.out) hS1 ?_
            try simp only [Act.put, List.setIfInBounds_toArray, List.set_cons_zero, List.set_cons_succ]
            refine takeH (some 87) (i := 8) (v := _) rfl rfl (by kernel_rfl) (by kernel_rfl) (by kernel_rfl) (fun _ _ _ h => h) (yields_load_rel (by rfl) (.tmp 11) rfl rfl HC.out) hS1 ?_
            try simp only [Act.put, List.setIfInBounds_toArray, List.set_cons_zero, List.set_cons_succ]
            refine wpAnyH_ready (rs := [7]) (by kernel_rfl) (by simp) ?_
            refine AllReadyH.cons rfl (fun K hK => ?_) AllReadyH.nil
            go_simp
            refine (CTH.out _ hS1).mono ?_
            rintro e q2 ⟨rfl, hbn⟩
            show K _ _
            have hS2 := hS1.trans (hbn.mono hS1.size)
            refine hK.out _ _ hS2 (fun _ => ?_)
            clear hK K
            refine wpAnyH_ready (rs := [9]) (by kernel_rfl) (by simp) ?_
            refine AllReadyH.cons rfl (fun K hK => ?_) AllReadyH.nil
            go_simp
            refine (CWI.out _).mono ?_
            rintro e q3 ⟨rfl, hbn⟩
            show K _ _
            have hS3 := hS2.trans (hbn.mono hS2.size)
            refine hK.out _ _ hS3 (fun _ => ?_)
            clear hK K
            refine takeH (some 89) (i := 10) (v := ?v38) rfl rfl (by kernel_rfl) (by kernel_rfl) (by kernel_rfl) (fun _ _ _ h => h) (Or.inl ⟨by rfl, ?h38⟩) hS3 ?r38
            case h38 => (intro w _; go_simp; try (with_reducible rfl))
            try simp only [Act.put, List.setIfInBounds_toArray, List.set_cons_zero, List.set_cons_succ]
            refine takeH (some 90) (i := 11) (v := ?v39) rfl rfl (by kernel_rfl) (by kernel_rfl) (by kernel_rfl) (fun _ _ _ h => h) (Or.inl ⟨by rfl, ?h39⟩) hS3 ?r39
            case h39 => (intro w _; go_simp; try (with_reducible rfl))
            try simp only [Act.put, List.setIfInBounds_toArray, List.set_cons_zero, List.set_cons_succ]
            refine takeH (some 91) (i := 12) (v := _) rfl rfl (by kernel_rfl) (by kernel_rfl) (by kernel_rfl) (fun _ _ _ h => h) (yields_load_rel (by rfl) (.tmp 6) rfl rfl H6.out) hS3 ?_
            try simp only [Act.put, List.setIfInBounds_toArray, List.set_cons_zero, List.set_cons_succ]
            refine takeH (some 94) (i := 15) (v := _) rfl rfl (by kernel_rfl) (by kernel_rfl) (by kernel_rfl) (fun _ _ _ h => h) (yields_load_rel (by rfl) (.tmp 11) rfl rfl HC.out) hS3 ?_
            try simp only [Act.put, List.setIfInBounds_toArray, List.set_cons_zero, List.set_cons_succ]
            refine wpAnyH_ready (rs := [13]) (by kernel_rfl) (by simp) ?_
            refine AllReadyH.cons rfl (fun K hK => ?_) AllReadyH.nil
            go_simp
            refine (CTU.out _ hS3).mono ?_
            rintro e q4 ⟨rfl, hbn⟩
            show K _ _
            have hS4 := hS3.trans (hbn.mono hS3.size)
            refine hK.out _ _ hS4 (fun _ => ?_)
            clear hK K
            refine wpAnyH_ready (rs := [14]) (by kernel_rfl) (by simp) ?_
            refine AllReadyH.cons rfl (fun K hK => ?_) AllReadyH.nil
            go_simp
            refine (CLT.out _).mono ?_
            rintro e q5 ⟨rfl, hbn⟩
            show K _ _
            have hS5 := hS4.trans (hbn.mono hS4.size)
            refine hK.out _ _ hS5 (fun _ => ?_)
            clear hK K
            refine wpAnyH_ready (rs := [16]) (by kernel_rfl) (by simp) ?_
            refine AllReadyH.cons rfl (fun K hK => ?_) AllReadyH.nil
            go_simp
            refine (CTC.out _ hS5).mono ?_
            rintro e q6 ⟨rfl, hbn⟩
            show K _ _
            have hS6 := hS5.trans (hbn.mono hS5.size)
            refine hK.out _ _ hS6 (fun _ => ?_)
            clear hK K
            refine takeH (some 96) (i := 17) (v := .bool true) rfl rfl (by kernel_rfl) (by kernel_rfl) (by kernel_rfl) (fun _ _ _ h => h) (yields_eql_rel (by rfl) (.tmp 93) (.tmp 95) rfl rfl rfl) hS6 ?_
            try simp only [Act.put, List.setIfInBounds_toArray, List.set_cons_zero, List.set_cons_succ]
            refine takeH (some 97) (i := 18) (v := ?v40) rfl rfl (by kernel_rfl) (by kernel_rfl) (by kernel_rfl) (fun _ _ _ h => h) (Or.inl ⟨by rfl, ?h40⟩) hS6 ?r40
            case h40 => (intro w _; go_simp; try (with_reducible rfl))
            try simp only [Act.put, List.setIfInBounds_toArray, List.set_cons_zero, List.set_cons_succ]
            refine wpAnyH_ready (rs := [19]) (by kernel_rfl) (by simp) ?_
            refine AllReadyH.cons rfl (fun K hK => ?_) AllReadyH.nil
            go_simp
            have hS7 := hS6
            refine hK.out _ _ hS7 (fun _ => ?_)
            clear hK K
            refine wpAnyH_done (by kernel_rfl) ?_ _
            go_wp2_with fail
            go_ret
            exact ⟨rfl, hbw.trans (hS7.mono hbw.size)⟩
end Go.Proofs.YtjfegknokombgaaDoor
