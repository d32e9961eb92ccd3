/- The walks of the laws on which level implies which, and on the order of the levels. Conditions: the table of the levels lies where it is laid. -/
import Derived.Test.YtecofmcfniicoaaDoorTblH
import Derived.Deep.RegionHeld3
namespace Go.Proofs.YtecofmcfniicoaaDoor
set_option maxRecDepth 100000
open Go.RowKit

theorem infoRowS : (Tryd.prog.info? 36).map (·.size) = some 12 := infoRow
theorem tabV_part (R : Nat → Nat → Bool) (a : Nat) (ha : a < 12) : (tabV R).toArray.extract (a * 12) (a * 12 + 12) = rowB (R a) := by
  apply Array.ext_getElem?
  intro i
  rw [Array.getElem?_extract, List.getElem?_toArray]
  by_cases hi : i < 12
  · rw [rowB_at _ hi, tabV_at R (by omega)]
    have e1 : (a * 12 + i) / 12 = a := by omega
    have e2 : (a * 12 + i) % 12 = i := by omega
    rw [e1, e2, List.size_toArray, tabV_len, if_pos (by omega)]
  · rw [if_neg (by rw [List.size_toArray, tabV_len]; omega), Array.getElem?_eq_none (by rw [rowB_size]; omega)]
theorem run_index_tbl (R : Nat → Nat → Bool) (k : Nat) (hk : k < 12) (w : World) : (Instr.index 37 (.agg (tabV R).toArray) (.int .i64 (k : Int))).run Tryd.prog w = .ok (.agg (rowB (R k))) w := by
  have h1 := tabV_part R k hk
  obtain ⟨i, hi, hs⟩ := Option.map_eq_some_iff.1 infoRow
  have h2 : (List.take 12 (List.drop (k * 12) (tabV R))).toArray = rowB (R k) := by simpa using h1
  simp [Instr.index, asIntOf, Sem.run_bind, run_underlying Tryd.underlying37 w, hk, sizeOf, typeInfo, hi, hs, part, isAgg, h2]
set_option maxHeartbeats 2000000 in
theorem implies10_walk (a b : Int) (w : World) (hK : Kinds w) : Calls Tryd.prog 5 #[.int .i64 a, .int .i64 b] w fun e w' => e = .returned (.bool true) ∧ Below w.heap.size w w' := by
  have HK := Lib.hid (fun wx (hb : Below w.heap.size w wx) => hK.below hb)
  have CS := Lib.hid (speaks10_any w hK)
  clear hK
  have ha := askN_lt a
  have hc := clN_lt ⟨askN a, ha⟩
  have hbl := askN_lt b
  simp only at hc
  have hand : bits .andNot .i64 (askN b : Int) (clN (askN a) : Int) = (missN a b : Int) := i64_andNot_nat _ _ (by omega) (by omega)
  have CI := Lib.hid (fun wx hx => limp_any a b wx (HK.out wx hx))
  have CR := Lib.hid (fun wx => rimp_any a b wx)
  have CM := Lib.hid (fun wx hx => lmiss_any a b wx (HK.out wx hx))
  have CB := Lib.hid (fun wx => rl_asks b wx)
  have CA := Lib.hid (fun wx => rl_asks a wx)
  have CC := Lib.hid (fun wx => rl_closed (askN a) ha wx)
  have CL := Lib.hid (fun wx hx => all_any wx (HK.out wx hx))
  have HB : Hid (∀ i j : Nat, i < 12 → a = (i : Int) → b = (j : Int) → allTo 12 i j = impB a b) := Lib.hid (fun i j hi e1 e2 => by unfold allTo; rw [if_pos hi, e1, e2])
  clear ha hc hbl
  generalize ((missN a b : Nat) : Int) = m at *
  generalize clN (askN a) = cc at *
  generalize askN a = aa at *
  generalize askN b = bb at *
  generalize impB a b = B at *
  go_enter Tryd.func5, Tryd.ntmps5
  go_wp2_with fail
  refine (CS.out).mono ?_
  rintro e w1 ⟨rfl, hb1⟩
  clear CS
  go_wp2_with fail
  refine (CI.out _ hb1).mono ?_
  rintro e w' ⟨rfl, rfl⟩
  go_wp2_with fail
  refine (CR.out _).mono ?_
  rintro e w' ⟨rfl, rfl⟩
  go_wp2_with fail
  refine (CM.out _ hb1).mono ?_
  rintro e w' ⟨rfl, rfl⟩
  go_wp2_with fail
  refine (CB.out _).mono ?_
  rintro e w' ⟨rfl, rfl⟩
  go_wp2_with fail
  refine (CA.out _).mono ?_
  rintro e w' ⟨rfl, rfl⟩
  go_wp2_with fail
  refine (CC.out _).mono ?_
  rintro e w' ⟨rfl, rfl⟩
  by_cases c0 : a < 0
  · have hc0 : decide (a < 0) = true := decide_eq_true c0
    go_wp2_with fail
    go_quiet (fail)
    go_wp2_with fail
    go_ret
    exact ⟨rfl, below_drewN hb1 _⟩
  by_cases c1 : 11 < a
  · have hc0 : decide (a < 0) = false := decide_eq_false c0
    have hc1 : decide (11 < a) = true := decide_eq_true c1
    go_wp2_with fail
    go_quiet (fail)
    go_wp2_with fail
    go_ret
    exact ⟨rfl, below_drewN hb1 _⟩
  by_cases c2 : b < 0
  · have hc0 : decide (a < 0) = false := decide_eq_false c0
    have hc1 : decide (11 < a) = false := decide_eq_false c1
    have hc2 : decide (b < 0) = true := decide_eq_true c2
    go_wp2_with fail
    go_quiet (fail)
    go_wp2_with fail
    go_ret
    exact ⟨rfl, below_drewN hb1 _⟩
  by_cases c3 : 11 < b
  · have hc0 : decide (a < 0) = false := decide_eq_false c0
    have hc1 : decide (11 < a) = false := decide_eq_false c1
    have hc2 : decide (b < 0) = false := decide_eq_false c2
    have hc3 : decide (11 < b) = true := decide_eq_true c3
    go_wp2_with fail
    go_quiet (fail)
    go_wp2_with fail
    go_ret
    exact ⟨rfl, below_drewN hb1 _⟩
  obtain ⟨i, rfl⟩ := Int.eq_ofNat_of_zero_le (show 0 ≤ a by omega)
  obtain ⟨j, rfl⟩ := Int.eq_ofNat_of_zero_le (show 0 ≤ b by omega)
  have hc0 : decide ((i : Int) < 0) = false := decide_eq_false c0
  have hc1 : decide (11 < (i : Int)) = false := decide_eq_false c1
  have hc2 : decide ((j : Int) < 0) = false := decide_eq_false c2
  have hc3 : decide (11 < (j : Int)) = false := decide_eq_false c3
  have hi : i < 12 := by omega
  have hj : j < 12 := by omega
  have HE := Lib.hid (HB.out i j hi rfl rfl)
  have hix := fun wx => run_index_tbl (allTo 12) i hi wx
  have hiy := fun wx => run_index_rowB (allTo 12 i) j hj wx
  rw [HE.out] at hiy
  generalize rowB (allTo 12 i) = rb at *
  generalize (tabV (allTo 12)).toArray = tb at *
  clear CI CM CB CA CC HB HE
  go_wp2_with fail
  go_region_held3 (fun w' => True) (exact trivial)
    (first
      | (go_at_call 22; refine (CL.out _ (by first | exact hb1 | exact hb1.drew | exact below_drewN hb1 _)).mono ?_; rintro e wx ⟨rfl, hbx⟩; have hb7 : Below w.heap.size w wx := (by first | exact hb1.trans (hbx.mono hb1.size) | exact hb1.drew.trans (hbx.mono hb1.size)))
      | (go_at_call 20; refine (CR.out _).mono ?_; rintro e wy ⟨rfl, rfl⟩))
  all_goals
    go_wp2_with fail
    go_ret
    exact ⟨rfl, hb7⟩
end Go.Proofs.YtecofmcfniicoaaDoor
