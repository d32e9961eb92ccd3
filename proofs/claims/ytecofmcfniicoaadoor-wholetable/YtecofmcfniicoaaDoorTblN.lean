/- The walk of the law of the lattice. Conditions: the table of the levels lies where it is laid. -/
import Derived.Test.YtecofmcfniicoaaDoorTblK
import Derived.Test.YtecofmcfniicoaaDoorTblM
import Derived.Test.YtecofmcfniicoaaDoorOpZ
import Derived.Deep.RegionHeld
namespace Go.Proofs.YtecofmcfniicoaaDoor
set_option maxRecDepth 100000
open Go.RowKit

theorem imp_ends : ∀ x : Fin 12, impB (x.val : Int) 0 = true ∧ impB 11 (x.val : Int) = true := by decide +kernel
theorem imp_or : ∀ x z : Fin 12, impB (x.val : Int) (z.val : Int) = decide ((clN (askN (x.val : Int)) ||| askN (z.val : Int)) = clN (askN (x.val : Int))) := by decide +kernel
theorem of_name : ∀ x : Fin 12, ofN (nameN (x.val : Int)) = some x.val := by decide +kernel
theorem blw_two_shut (x y : Fin 12) : cls (blw [(x.val : Int), (y.val : Int)]) = true := by
  rw [cls_iff]
  intro a b ha hb hr hi
  unfold blw at *
  simp only [List.any_cons, List.any_nil, Bool.or_false, Bool.or_eq_true] at *
  rcases hr with h | h
  · exact .inl (imp_trans x ⟨a, ha⟩ ⟨b, hb⟩ h hi)
  · exact .inr (imp_trans y ⟨a, ha⟩ ⟨b, hb⟩ h hi)
theorem blw_two_len : ∀ x y : Fin 12, 1 ≤ (stI (blw [(x.val : Int), (y.val : Int)])).length ∧ (stI (blw [(x.val : Int), (y.val : Int)])).length ≤ 2 := by decide +kernel
theorem yields_load_rowB {ops : Array Oper} {S : World → Prop} {o : Oper} {a : Act} {g : Nat} {r : Nat → Bool} (hw : Region.wanted o (yielded ops a.tmps) = true) (x : Operand) (ho : o.op = .load 36 x)
    (hx : a.eval x = .pointer (some ⟨g, 0, none⟩)) (hS : ∀ w, S w → BRow w g r) : YieldsIf Tryd.prog ops S o (.agg (rowB r)) a :=
  .inl ⟨hw, fun w hw' => by
    unfold execOp
    simp only [ho, hx, Instr.loadAt, Instr.sureAddr, Sem.run_bind, Sem.run_pure, Result.andThen_ok, run_loadVar_row w g _ _ _ _ _ (hS w hw') Tryd.underlying36 rfl (infoRow' _)]⟩
theorem takeR {P : Program} {ops : Array Oper} {Q : Exit → Act → World → Prop} {md : Region.Mode} {S : World → Prop} (d : Option Tmp) {i : Nat} {oi : Oper} {v : Value} {fuel : Nat} {listed : Array Bool} {a : Act} {w : World} (hi : ops[i]? = some oi) (hd : oi.dst = d)
    (hs : Region.noSelect ops = true) (hf : Region.free md ops listed i = true) (hr : (Region.ready md ops listed).contains i = true)
    (hQ : ∀ c a w, Q (.panic c) (a.put oi.dst v) w → Q (.panic c) a w) (hy : YieldsIf P ops S oi v a) (hS : S w)
    (h : wpAnyH P md ops Q S fuel (listed.setIfInBounds i true) (a.put d v) w) : wpAnyH P md ops Q S (fuel + 1) listed a w := by
  subst hd; exact wpAnyH_take hi hs hf hr hQ hy hS h
theorem or_test (x z : Nat) (hx : x < 12) (hz : z < 12) : (bits .or .i64 ((clI (askN (x : Int)) : Nat) : Int) ((askN (z : Int) : Nat) : Int) == ((clI (askN (x : Int)) : Nat) : Int)) = impB (x : Int) (z : Int) := by
  have h1 := askN_lt (x : Int)
  have h2 := askN_lt (z : Int)
  have h3 := clN_lt ⟨askN (x : Int), h1⟩
  simp only at h3
  rw [clI_ask, i64_or_nat _ _ (by omega) (by omega), imp_or ⟨x, hx⟩ ⟨z, hz⟩, Bool.eq_iff_iff, beq_iff_eq, decide_eq_true_eq]
  simp only
  omega
set_option maxHeartbeats 8000000 in
theorem table5_walk (a b : Nat) (w : World) (ha : a < 256) (hb : b < 256) (hK : Kinds w) : Calls Tryd.prog 8 #[.int .u8 a, .int .u8 b] w fun e w' => e = .returned (.bool true) ∧ Below w.heap.size w w' := by
  have HK := Lib.hid (fun wx (hb : Below w.heap.size w wx) => hK.below hb)
  clear hK
  have ma : (a : Int) % 12 = ((a % 12 : Nat) : Int) := by omega
  have mb : (b : Int) % 12 = ((b % 12 : Nat) : Int) := by omega
  have la : a % 12 < 12 := Nat.mod_lt _ (by omega)
  have lb : b % 12 < 12 := Nat.mod_lt _ (by omega)
  generalize a % 12 = x at *
  generalize b % 12 = y at *
  obtain ⟨e1, e2⟩ := imp_ends ⟨x, la⟩
  simp only at e1 e2
  have CI := Lib.hid (fun p q wx hx => limp_any p q wx (HK.out wx hx))
  have CY := Lib.hid (fun wx => lis_yes (l := 11) rfl wx)
  have CN := Lib.hid (fun wx => lis_no (l := 12) rfl wx)
  have C1 := Lib.hid (fun wx hx => limp_any (x : Int) 0 wx (HK.out wx hx))
  have C2 := Lib.hid (fun wx hx => limp_any 11 (x : Int) wx (HK.out wx hx))
  rw [e1] at C1
  rw [e2] at C2
  clear e1 e2
  go_enter Tryd.func8, Tryd.ntmps8
  go_wp2_with fail
  refine (CY.out _).mono ?_
  rintro e w' ⟨rfl, rfl⟩
  go_wp2_with fail
  refine (CN.out _).mono ?_
  rintro e w' ⟨rfl, rfl⟩
  go_wp2_with fail
  refine (C1.out _ (Below.refl _ _)).mono ?_
  rintro e w' ⟨rfl, rfl⟩
  go_wp2_with fail
  refine (C2.out _ (Below.refl _ _)).mono ?_
  rintro e w' ⟨rfl, rfl⟩
  clear C1 C2 CY CN
  have hb0 := (Below.refl w.heap.size w).alloc (Nat.le_refl _) (.cells #[.int .i64 (x : Int), .int .i64 (y : Int)] 23)
  have CB := Lib.hid (tbelow_any _ _ _ (HK.out _ hb0) (ints_two w (x : Int) (y : Int) 23))
  have HR : Hid (∀ k : Nat, blw [(x : Int), (y : Int)] k = (impB (x : Int) (k : Int) || (impB (y : Int) (k : Int) || false))) := Lib.hid (fun k => by unfold blw; simp)
  have HL := Lib.hid (blw_two_len ⟨x, la⟩ ⟨y, lb⟩)
  have HC := Lib.hid (blw_two_shut ⟨x, la⟩ ⟨y, lb⟩)
  simp only at HL HC
  go_wp2_with fail
  refine (CB.out).mono ?_
  rintro e wA ⟨rfl, hbA⟩
  have hbwA := hb0.trans (hbA.mono hb0.size)
  clear CB hbA hb0
  generalize blw [(x : Int), (y : Int)] = r at *
  have h0 : BRow (wA.alloc (.cells #[.bool false, .bool false, .bool false, .bool false, .bool false, .bool false, .bool false, .bool false, .bool false, .bool false, .bool false, .bool false] 36)) wA.heap.size noB := BRow.made wA noB rfl rowB_none.symm
  have h1 := h0.setRow r
  have hbB : Below wA.heap.size wA _ := below_setRow ((Below.refl wA.heap.size wA).alloc (Nat.le_refl _) (.cells #[.bool false, .bool false, .bool false, .bool false, .bool false, .bool false, .bool false, .bool false, .bool false, .bool false, .bool false, .bool false] 36)) (Nat.le_refl _) (rowB r) (g := wA.heap.size)
  go_wp2_with (with_reducible refine wpList_store_rowB h0 r rfl _ _ rfl rfl rfl ?_)
  have hbwB := hbwA.trans (hbB.mono hbwA.size)
  clear h0 hbB hbwA
  generalize (wA.alloc (.cells #[.bool false, .bool false, .bool false, .bool false, .bool false, .bool false, .bool false, .bool false, .bool false, .bool false, .bool false, .bool false] 36)).setRow wA.heap.size (rowB r) = wB at *
  generalize wA.heap.size = g at *
  clear wA
  go_loopw [36] (fun i wr => ∃ k : Nat, k ≤ 12 ∧ i = .int .i64 k ∧ BRow wr g r ∧ Below w.heap.size w wr) (fun i _ => 12 - (intOf i).toNat)
  case atStart => exact ⟨0, by omega, rfl, h1, hbwB⟩
  case round =>
    clear h1 hbwB
    obtain ⟨k, hk, rfl, h1, hb⟩ := hrel
    by_cases hlt : k < 12
    · have hki : (k : Int) < 12 := by omega
      have hc := h1.cell hlt
      have CQ := Lib.hid (fun p q n => (CI.out p q (wr.drewN n) (below_drewN hb n)).mono (fun _ _ (h : _ ∧ _) => And.intro h.1 h.2.symm))
      have CA := Lib.hid (fun l n => (lasks_any l (wr.drewN n) (HK.out _ (below_drewN hb n))).mono (fun _ _ (h : _ ∧ _) => And.intro h.1 h.2.symm))
      have CC := Lib.hid (fun l n => (lclosed_any l (wr.drewN n)).mono (fun _ _ (h : _ ∧ _) => And.intro h.1 h.2.symm))
      have hor := or_test x k la hlt
      rw [HR.out k] at hc
      have H1 := Lib.hid (fun n => (below_drewN hb n))
      have H2 : Hid (∀ n, BRow (wr.drewN n) g r) := Lib.hid (fun n => h1.below (below_drewN (Below.refl wr.heap.size wr) n) h1.lt)
      clear h1
      cases hm1 : impB (x : Int) (k : Int) <;> cases hm2 : impB (y : Int) (k : Int)
      all_goals
        rw [hm1, hm2] at hc
        rw [hm1] at hor
        first | (replace hc : wr.cell? ⟨g, k, none⟩ = some (.bool true) := hc) | (replace hc : wr.cell? ⟨g, k, none⟩ = some (.bool false) := hc)
        go_wp2_with fail
        go_quiet ((first
          | (go_at_call 19; exact Calls.quiet_of_same (CQ.out _ _ _))
          | (go_at_call 13; exact Calls.quiet_of_same (CA.out _ _))
          | (go_at_call 16; exact Calls.quiet_of_same (CC.out _ _))))
        go_wp2_with fail
        go_roundw
        case rel => exact ⟨k + 1, by omega, by go_num, H2.out _, H1.out _⟩
        case measure => simp [intOf]; omega
    · have hk12 : k = 12 := by omega
      subst hk12
      clear HR
      have CT := Lib.hid (strongest_any r wr (HK.out _ hb))
      have HSH : Hid (rowB (blw (stI r)) = rowB r) := Lib.hid (blw_shut HC.out)
      go_wp2_with (with_reducible refine wpList_load_rowB h1 rfl _ rfl rfl ?_)
      refine (CT.out).mono ?_
      rintro e w4 ⟨v4, rfl, hown, hb4⟩
      have hST := ints_natV hown
      have h14 := h1.below hb4 h1.lt
      have hbw4 := hb.trans (hb4.mono hb.size)
      clear CT hown hb4 h1 hb
      obtain ⟨ao, cap, rfl, hlen⟩ := hST.form
      have CN := Lib.hid (lname_any (x : Int) w4 (HK.out _ hbw4))
      go_wp2_with fail
      refine (CN.out).mono ?_
      rintro e w' ⟨rfl, rfl⟩
      have CO := Lib.hid (lof_any (nameN (x : Int)) w4 (HK.out _ hbw4))
      have hof := of_name ⟨x, la⟩
      simp only at hof
      unfold ofV at CO
      rw [hof] at CO
      simp only [Option.getD_some, Option.isSome_some] at CO
      clear hof CN
      go_wp2_with fail
      refine (CO.out).mono ?_
      rintro e w5 ⟨rfl, hb5⟩
      have hST5 := hST.below hb5
      have h15 := h14.below hb5 h14.lt
      have hbw5 := hbw4.trans (hb5.mono hbw4.size)
      clear CO hST hb5 h14 hbw4
      obtain ⟨n1, n2⟩ := HL.out
      have hn1 : (1 : Int) ≤ ((stI r).length : Int) := by omega
      have hn2 : ((stI r).length : Int) ≤ 2 := by omega
      have d1 : decide ((1 : Int) ≤ ((stI r).length : Int)) = true := decide_eq_true hn1
      have d2 : decide (((stI r).length : Int) ≤ 2) = true := decide_eq_true hn2
      clear n1 n2 HL
      have CC := Lib.hid (fun wx (hx : Below w5.heap.size w5 wx) => tclosed_any r wx (HK.out _ (hbw5.trans (hx.mono hbw5.size))))
      rw [HC.out] at CC
      have CB := Lib.hid (fun wx (hx : Below w5.heap.size w5 wx) => tbelow_any _ _ wx (HK.out _ (hbw5.trans (hx.mono hbw5.size))) (hST5.below hx))
      rw [HSH.out] at CB
      have HRW : Hid (∀ wx, Below w5.heap.size w5 wx → BRow wx g r) := Lib.hid (fun wx hx => h15.below hx h15.lt)
      have HFIN := Lib.hid (fun wx (hx : Below w5.heap.size w5 wx) => hbw5.trans (hx.mono hbw5.size))
      have G0 := fun (x y : Operand) (w : World) => guard_rowB .eql x y r r w
      have E0 := fun (w : World) => run_eql_rowB r w
      clear HC HSH hbw5 h15 hST5 CI HK
      generalize (stI r).length = n at *
      go_wp2_with fail
      refine wp_region_held_drew (S := Below w5.heap.size w5) (by kernel_rfl) ⟨rfl, rfl, rfl, Nat.le_refl _, fun _ _ => rfl⟩ (fun hS0 => ?_)
      refine takeR (some 77) (i := 0) (v := _) rfl rfl (by kernel_rfl) (by kernel_rfl) (by kernel_rfl) (fun _ _ _ h => h) (yields_load_rowB (by rfl) (.tmp 7) rfl rfl HRW.out) hS0 ?_
      try simp only [Act.put, List.setIfInBounds_toArray, List.set_cons_zero, List.set_cons_succ]
      refine wpAnyH_ready (rs := [1]) (by kernel_rfl) (by simp) ?_
      refine AllReadyH.cons rfl (fun K hK => ?_) AllReadyH.nil
      go_simp
      refine (CC.out _ hS0).mono ?_
      rintro e q1 ⟨rfl, hq1⟩
      show K _ _
      have hS1 : Below w5.heap.size w5 q1 := below_then hS0 hq1
      refine hK.out _ _ hS1 (fun _ => ?_)
      clear hK K
      refine takeR (some 79) (i := 2) (v := ?v2) rfl rfl (by kernel_rfl) (by kernel_rfl) (by kernel_rfl) (fun _ _ _ h => h) (Or.inl ⟨by rfl, ?h2⟩) hS1 ?r2
      case h2 => (intro w _; go_simp; try (with_reducible rfl))
      try simp only [Act.put, List.setIfInBounds_toArray, List.set_cons_zero, List.set_cons_succ]
      refine takeR (some 80) (i := 3) (v := ?v3) rfl rfl (by kernel_rfl) (by kernel_rfl) (by kernel_rfl) (fun _ _ _ h => h) (Or.inl ⟨by rfl, ?h3⟩) hS1 ?r3
      case h3 => (intro w _; go_simp; try (with_reducible rfl))
      try simp only [Act.put, List.setIfInBounds_toArray, List.set_cons_zero, List.set_cons_succ]
      refine takeR (some 81) (i := 4) (v := ?v4) rfl rfl (by kernel_rfl) (by kernel_rfl) (by kernel_rfl) (fun _ _ _ h => h) (Or.inl ⟨by rfl, ?h4⟩) hS1 ?r4
      case h4 => (intro w _; go_simp; try (with_reducible rfl))
      try simp only [Act.put, List.setIfInBounds_toArray, List.set_cons_zero, List.set_cons_succ]
      refine takeR (some 82) (i := 5) (v := ?v5) rfl rfl (by kernel_rfl) (by kernel_rfl) (by kernel_rfl) (fun _ _ _ h => h) (Or.inl ⟨by rfl, ?h5⟩) hS1 ?r5
      case h5 => (intro w _; go_simp; try (with_reducible rfl))
      try simp only [Act.put, List.setIfInBounds_toArray, List.set_cons_zero, List.set_cons_succ]
      refine takeR (some 83) (i := 6) (v := ?v6) rfl rfl (by kernel_rfl) (by kernel_rfl) (by kernel_rfl) (fun _ _ _ h => h) (Or.inl ⟨by rfl, ?h6⟩) hS1 ?r6
      case h6 => (intro w _; go_simp; try (with_reducible rfl))
      try simp only [Act.put, List.setIfInBounds_toArray, List.set_cons_zero, List.set_cons_succ]
      refine takeR (some 84) (i := 7) (v := ?v7) rfl rfl (by kernel_rfl) (by kernel_rfl) (by kernel_rfl) (fun _ _ _ h => h) (Or.inl ⟨by rfl, ?h7⟩) hS1 ?r7
      case h7 => (intro w _; go_simp; try (with_reducible rfl))
      try simp only [Act.put, List.setIfInBounds_toArray, List.set_cons_zero, List.set_cons_succ]
      refine takeR (some 85) (i := 8) (v := ?v8) rfl rfl (by kernel_rfl) (by kernel_rfl) (by kernel_rfl) (fun _ _ _ h => h) (Or.inl ⟨by rfl, ?h8⟩) hS1 ?r8
      case h8 => (intro w _; go_simp; try (with_reducible rfl))
      try simp only [Act.put, List.setIfInBounds_toArray, List.set_cons_zero, List.set_cons_succ]
      refine takeR (some 86) (i := 9) (v := ?v9) rfl rfl (by kernel_rfl) (by kernel_rfl) (by kernel_rfl) (fun _ _ _ h => h) (Or.inl ⟨by rfl, ?h9⟩) hS1 ?r9
      case h9 => (intro w _; go_simp; try (with_reducible rfl))
      try simp only [Act.put, List.setIfInBounds_toArray, List.set_cons_zero, List.set_cons_succ]
      refine takeR (some 87) (i := 10) (v := ?v10) rfl rfl (by kernel_rfl) (by kernel_rfl) (by kernel_rfl) (fun _ _ _ h => h) (Or.inl ⟨by rfl, ?h10⟩) hS1 ?r10
      case h10 => (intro w _; go_simp; try (with_reducible rfl))
      try simp only [Act.put, List.setIfInBounds_toArray, List.set_cons_zero, List.set_cons_succ]
      refine takeR (some 88) (i := 11) (v := ?v11) rfl rfl (by kernel_rfl) (by kernel_rfl) (by kernel_rfl) (fun _ _ _ h => h) (Or.inl ⟨by rfl, ?h11⟩) hS1 ?r11
      case h11 => (intro w _; go_simp; try (with_reducible rfl))
      try simp only [Act.put, List.setIfInBounds_toArray, List.set_cons_zero, List.set_cons_succ]
      refine takeR (some 89) (i := 12) (v := ?v12) rfl rfl (by kernel_rfl) (by kernel_rfl) (by kernel_rfl) (fun _ _ _ h => h) (Or.inl ⟨by rfl, ?h12⟩) hS1 ?r12
      case h12 => (intro w _; go_simp; try (with_reducible rfl))
      try simp only [Act.put, List.setIfInBounds_toArray, List.set_cons_zero, List.set_cons_succ]
      refine takeR (some 90) (i := 13) (v := ?v13) rfl rfl (by kernel_rfl) (by kernel_rfl) (by kernel_rfl) (fun _ _ _ h => h) (Or.inl ⟨by rfl, ?h13⟩) hS1 ?r13
      case h13 => (intro w _; go_simp; try (with_reducible rfl))
      try simp only [Act.put, List.setIfInBounds_toArray, List.set_cons_zero, List.set_cons_succ]
      refine takeR (some 92) (i := 15) (v := _) rfl rfl (by kernel_rfl) (by kernel_rfl) (by kernel_rfl) (fun _ _ _ h => h) (yields_load_rowB (by rfl) (.tmp 7) rfl rfl HRW.out) hS1 ?_
      try simp only [Act.put, List.setIfInBounds_toArray, List.set_cons_zero, List.set_cons_succ]
      refine wpAnyH_ready (rs := [14]) (by kernel_rfl) (by simp) ?_
      refine AllReadyH.cons rfl (fun K hK => ?_) AllReadyH.nil
      go_simp
      refine (CB.out _ hS1).mono ?_
      rintro e q14 ⟨rfl, hq14⟩
      show K _ _
      have hS2 : Below w5.heap.size w5 q14 := below_then hS1 hq14
      refine hK.out _ _ hS2 (fun _ => ?_)
      clear hK K
      refine takeR (some 93) (i := 16) (v := ?v16) rfl rfl (by kernel_rfl) (by kernel_rfl) (by kernel_rfl) (fun _ _ _ h => h) (Or.inl ⟨by rfl, ?h16⟩) hS2 ?r16
      case h16 => (intro w _; go_simp; try (with_reducible rfl))
      try simp only [Act.put, List.setIfInBounds_toArray, List.set_cons_zero, List.set_cons_succ]
      refine takeR (some 94) (i := 17) (v := ?v17) rfl rfl (by kernel_rfl) (by kernel_rfl) (by kernel_rfl) (fun _ _ _ h => h) (Or.inl ⟨by rfl, ?h17⟩) hS2 ?r17
      case h17 => (intro w _; go_simp; try (with_reducible rfl))
      try simp only [Act.put, List.setIfInBounds_toArray, List.set_cons_zero, List.set_cons_succ]
      refine takeR (some 95) (i := 18) (v := ?v18) rfl rfl (by kernel_rfl) (by kernel_rfl) (by kernel_rfl) (fun _ _ _ h => h) (Or.inl ⟨by rfl, ?h18⟩) hS2 ?r18
      case h18 => (intro w _; go_simp; try (with_reducible rfl))
      try simp only [Act.put, List.setIfInBounds_toArray, List.set_cons_zero, List.set_cons_succ]
      refine takeR (some 96) (i := 19) (v := ?v19) rfl rfl (by kernel_rfl) (by kernel_rfl) (by kernel_rfl) (fun _ _ _ h => h) (Or.inl ⟨by rfl, ?h19⟩) hS2 ?r19
      case h19 => (intro w _; go_simp; try (with_reducible rfl))
      try simp only [Act.put, List.setIfInBounds_toArray, List.set_cons_zero, List.set_cons_succ]
      refine takeR (some 97) (i := 20) (v := ?v20) rfl rfl (by kernel_rfl) (by kernel_rfl) (by kernel_rfl) (fun _ _ _ h => h) (Or.inl ⟨by rfl, ?h20⟩) hS2 ?r20
      case h20 => (intro w _; go_simp; try (with_reducible rfl))
      try simp only [Act.put, List.setIfInBounds_toArray, List.set_cons_zero, List.set_cons_succ]
      refine takeR (some 98) (i := 21) (v := ?v21) rfl rfl (by kernel_rfl) (by kernel_rfl) (by kernel_rfl) (fun _ _ _ h => h) (Or.inl ⟨by rfl, ?h21⟩) hS2 ?r21
      case h21 => (intro w _; go_simp; try (with_reducible rfl))
      try simp only [Act.put, List.setIfInBounds_toArray, List.set_cons_zero, List.set_cons_succ]
      refine takeR (some 99) (i := 22) (v := ?v22) rfl rfl (by kernel_rfl) (by kernel_rfl) (by kernel_rfl) (fun _ _ _ h => h) (Or.inl ⟨by rfl, ?h22⟩) hS2 ?r22
      case h22 => (intro w _; go_simp; try (with_reducible rfl))
      try simp only [Act.put, List.setIfInBounds_toArray, List.set_cons_zero, List.set_cons_succ]
      refine takeR (some 100) (i := 23) (v := ?v23) rfl rfl (by kernel_rfl) (by kernel_rfl) (by kernel_rfl) (fun _ _ _ h => h) (Or.inl ⟨by rfl, ?h23⟩) hS2 ?r23
      case h23 => (intro w _; go_simp; try (with_reducible rfl))
      try simp only [Act.put, List.setIfInBounds_toArray, List.set_cons_zero, List.set_cons_succ]
      refine takeR (some 101) (i := 24) (v := ?v24) rfl rfl (by kernel_rfl) (by kernel_rfl) (by kernel_rfl) (fun _ _ _ h => h) (Or.inl ⟨by rfl, ?h24⟩) hS2 ?r24
      case h24 => (intro w _; go_simp; try (with_reducible rfl))
      try simp only [Act.put, List.setIfInBounds_toArray, List.set_cons_zero, List.set_cons_succ]
      refine takeR (some 102) (i := 25) (v := ?v25) rfl rfl (by kernel_rfl) (by kernel_rfl) (by kernel_rfl) (fun _ _ _ h => h) (Or.inl ⟨by rfl, ?h25⟩) hS2 ?r25
      case h25 => (intro w _; go_simp; try (with_reducible rfl))
      try simp only [Act.put, List.setIfInBounds_toArray, List.set_cons_zero, List.set_cons_succ]
      refine takeR (some 4) (i := 26) (v := ?v26) rfl rfl (by kernel_rfl) (by kernel_rfl) (by kernel_rfl) (fun _ _ _ h => h) (Or.inl ⟨by rfl, ?h26⟩) hS2 ?r26
      case h26 => (intro w _; go_simp; try (with_reducible rfl))
      try simp only [Act.put, List.setIfInBounds_toArray, List.set_cons_zero, List.set_cons_succ]
      refine wpAnyH_done (by kernel_rfl) ?_ _
      go_wp2_with fail
      go_ret
      exact ⟨rfl, HFIN.out _ hS2⟩
end Go.Proofs.YtecofmcfniicoaaDoor
