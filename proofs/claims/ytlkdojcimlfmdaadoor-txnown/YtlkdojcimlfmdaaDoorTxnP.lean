/- The walk of what the transaction layer's statements ask first. Condition: the library's table of tens lies as it is laid. -/
import Derived.Test.YtlkdojcimlfmdaaDoorTxnO
import Derived.BigRegion
import Derived.Deep.RegionHeld3
import Derived.StillTailTactics
namespace Go.Proofs.YtlkdojcimlfmdaaDoor
set_option maxRecDepth 100000
open Go.RowKit

theorem One.below {w w' : World} {base : Nat} {v : Value} {o : OpV} (h : One w base v o) (hb : Below w.heap.size w w') : One w' base v o := by
  obtain ⟨g, cap, rfl, hg, c0, c1, c2⟩ := h
  exact ⟨g, cap, rfl, hg, (hb.cell (p := ⟨g, 0, none⟩) (block_lt c0)).trans c0, (hb.cell (p := ⟨g, 1, none⟩) (block_lt c1)).trans c1, (hb.cell (p := ⟨g, 2, none⟩) (block_lt c2)).trans c2⟩
set_option maxHeartbeats 8000000 in
theorem speaks5_any (w : World) (he : Ten w) :
    Calls Tryd.prog 7 #[] w fun e w' => e = .returned (.bool true) ∧ Below w.heap.size w w' := by
  have HEN : Hid (∀ wx, Below w.heap.size w wx → Ten wx) := Lib.hid (fun wx h => he.below h)
  have C1 := fun (wx : World) => Lib.hid (read_any 3 0 wx)
  have C2 := fun (wx : World) => Lib.hid (write_op 3 5 wx)
  have C3 := fun (wx : World) => Lib.hid (read_any 3 5 wx)
  clear he
  go_enter Tryd.func7, Tryd.ntmps7
  go_wp2_with fail
  refine ((C1 w).out).mono ?_
  rintro e w1 ⟨rfl, hb1⟩
  go_wp2_with fail
  refine ((C2 w1).out).mono ?_
  rintro e w2 ⟨rfl, hb2⟩
  have hc2 := below_then hb1 hb2
  go_wp2_with fail
  refine ((C3 w2).out).mono ?_
  rintro e w3 ⟨rfl, hb3⟩
  have hc3 := below_then hc2 hb3
  clear hb1 hb2 hb3 hc2
  go_wp2_with fail
  have hk4 := (hc3.alloc hc3.size (.cells #[.bool false, .int .i64 3, .int .i64 0, .bool true, .int .i64 3, .int .i64 5, .bool false, .int .i64 3, .int .i64 5] 26)).alloc (by simp; exact Nat.le_succ_of_le hc3.size) (.cells #[.int .i64 0, .int .i64 1, .int .i64 2, .slice (some ⟨w3.heap.size, 0, none⟩) 3 3] 29)
  have hO4 : Ops ((w3.alloc (.cells #[.bool false, .int .i64 3, .int .i64 0, .bool true, .int .i64 3, .int .i64 5, .bool false, .int .i64 3, .int .i64 5] 26)).alloc (.cells #[.int .i64 0, .int .i64 1, .int .i64 2, .slice (some ⟨w3.heap.size, 0, none⟩) 3 3] 29)) (.slice (some ⟨w3.heap.size, 0, none⟩) 3 3) spL :=
    Row.below (Row.of_owns (World.ownsRow_lit (base := 0) (e := 26) (size := 3) w3 #[.bool false, .int .i64 3, .int .i64 0, .bool true, .int .i64 3, .int .i64 5, .bool false, .int .i64 3, .int .i64 5] 3 (Nat.zero_le _) (by decide) rfl)) (box_below _ _)
  obtain ⟨x0, x1, x2, x3⟩ := txnBlock (w3.alloc (.cells #[.bool false, .int .i64 3, .int .i64 0, .bool true, .int .i64 3, .int .i64 5, .bool false, .int .i64 3, .int .i64 5] 26)) (.int .i64 0) (.int .i64 1) (.int .i64 2) (.slice (some ⟨w3.heap.size, 0, none⟩) 3 3) 29
  rw [show (w3.alloc (.cells #[.bool false, .int .i64 3, .int .i64 0, .bool true, .int .i64 3, .int .i64 5, .bool false, .int .i64 3, .int .i64 5] 26)).heap.size = w3.heap.size + 1 from by simp] at x0 x1 x2 x3
  clear hc3
  generalize (w3.alloc (.cells #[.bool false, .int .i64 3, .int .i64 0, .bool true, .int .i64 3, .int .i64 5, .bool false, .int .i64 3, .int .i64 5] 26)).alloc (.cells #[.int .i64 0, .int .i64 1, .int .i64 2, .slice (some ⟨w3.heap.size, 0, none⟩) 3 3] 29) = w4 at *
  have hlt : w3.heap.size + 1 < w4.heap.size := block_lt x0
  have HO : Hid (∀ wx, Below w4.heap.size w4 wx → Ops wx (.slice (some ⟨w3.heap.size, 0, none⟩) 3 3) spL) := Lib.hid (fun wx h => hO4.below h)
  clear hO4
  have kk := Below.refl w4.heap.size w4
  go_region_held3 (fun w' => w'.cell? ⟨w3.heap.size + 1, 0, none⟩ = some (.int .i64 0) ∧ w'.cell? ⟨w3.heap.size + 1, 1, none⟩ = some (.int .i64 1) ∧ w'.cell? ⟨w3.heap.size + 1, 2, none⟩ = some (.int .i64 2) ∧ w'.cell? ⟨w3.heap.size + 1, 3, none⟩ = some (.slice (some ⟨w3.heap.size, 0, none⟩) 3 3))
    (go_keep)
    (first
      | (go_at_call 11; refine (sp_reads_any _ _ (HO.out _ (by first | exact kk | exact kk.drew | exact below_drewN kk _))).mono ?_; rintro e wx ⟨vr, rfl, ho1, hbx⟩; have kk : Below w4.heap.size w4 wx := (by first | exact below_then kk hbx | exact below_then kk ⟨hbx.os, hbx.tape, hbx.output, hbx.size, hbx.block⟩); have a0 := (kk.cell (p := ⟨w3.heap.size + 1, 0, none⟩) hlt).trans x0; have a1 := (kk.cell (p := ⟨w3.heap.size + 1, 1, none⟩) hlt).trans x1; have a2 := (kk.cell (p := ⟨w3.heap.size + 1, 2, none⟩) hlt).trans x2; have a3 := (kk.cell (p := ⟨w3.heap.size + 1, 3, none⟩) hlt).trans x3)
      | (go_at_call 12; refine (sp_writes_any _ _ (HO.out _ (by first | exact kk | exact kk.drew | exact below_drewN kk _))).mono ?_; rintro e wy ⟨vw, rfl, ho2, hby⟩; have ho1 := ho1.below (w' := wy) (by first | exact hby | exact ⟨hby.os, hby.tape, hby.output, hby.size, hby.block⟩); have kk : Below w4.heap.size w4 wy := (by first | exact below_then kk hby | exact below_then kk ⟨hby.os, hby.tape, hby.output, hby.size, hby.block⟩); have a0 := (kk.cell (p := ⟨w3.heap.size + 1, 0, none⟩) hlt).trans x0; have a1 := (kk.cell (p := ⟨w3.heap.size + 1, 1, none⟩) hlt).trans x1; have a2 := (kk.cell (p := ⟨w3.heap.size + 1, 2, none⟩) hlt).trans x2; have a3 := (kk.cell (p := ⟨w3.heap.size + 1, 3, none⟩) hlt).trans x3))
  have hk5 := below_then hk4 kk
  have HO := Lib.hid (fun wx (h : Below wy.heap.size wy wx) => HO.out wx (below_then kk h))
  have HE := Lib.hid (fun wx (h : Below wy.heap.size wy wx) => HEN.out wx (below_then hk5 h))
  obtain ⟨gr, cr, rfl, _, r0, r1, r2⟩ := ho1
  obtain ⟨gw, cw, rfl, _, q0, q1, q2⟩ := ho2
  clear hbx hby x0 x1 x2 x3 hk4 kk C1 C2 C3 HEN
  have hl5 := block_lt a0
  have y0 := a0
  have y1 := a1
  have y2 := a2
  have y3 := a3
  clear a0 a1 a2 a3 hlt
  go_wp2_with fail
  generalize wy = w5 at *
  have hlr := block_lt r0
  have hlw := block_lt q0
  have kk := Below.refl w5.heap.size w5
  have g1 : ∀ (x y : Operand) (w : World), Sem.run Tryd.prog (eqGuard .eql 26 x y (.agg #[.bool false, .int .i64 3, .int .i64 0]) (.agg #[.bool false, .int .i64 3, .int .i64 0])) w = .ok () w := fun x y w => guardOp _ _ _ _ _ _ _ _ _ w
  have g2 : ∀ (x y : Operand) (w : World), Sem.run Tryd.prog (eqGuard .eql 26 x y (.agg #[.bool true, .int .i64 3, .int .i64 5]) (.agg #[.bool true, .int .i64 3, .int .i64 5])) w = .ok () w := fun x y w => guardOp _ _ _ _ _ _ _ _ _ w
  have e1 : ∀ w, Sem.run Tryd.prog (binOp .eql 26 (.agg #[.bool false, .int .i64 3, .int .i64 0]) (.agg #[.bool false, .int .i64 3, .int .i64 0])) w = .ok (.bool true) w := fun w => by rw [eqlOp]; simp
  have e2 : ∀ w, Sem.run Tryd.prog (binOp .eql 26 (.agg #[.bool true, .int .i64 3, .int .i64 5]) (.agg #[.bool true, .int .i64 3, .int .i64 5])) w = .ok (.bool true) w := fun w => by rw [eqlOp]; simp
  go_region_held3 (fun w' => w'.cell? ⟨w3.heap.size + 1, 0, none⟩ = some (.int .i64 0) ∧ w'.cell? ⟨w3.heap.size + 1, 1, none⟩ = some (.int .i64 1) ∧ w'.cell? ⟨w3.heap.size + 1, 2, none⟩ = some (.int .i64 2) ∧ w'.cell? ⟨w3.heap.size + 1, 3, none⟩ = some (.slice (some ⟨w3.heap.size, 0, none⟩) 3 3) ∧ w'.cell? ⟨gr, 0, none⟩ = some (.bool false) ∧ w'.cell? ⟨gr, 1, none⟩ = some (.int .i64 3) ∧ w'.cell? ⟨gr, 2, none⟩ = some (.int .i64 0) ∧ w'.cell? ⟨gw, 0, none⟩ = some (.bool true) ∧ w'.cell? ⟨gw, 1, none⟩ = some (.int .i64 3) ∧ w'.cell? ⟨gw, 2, none⟩ = some (.int .i64 5))
    (go_keep)
    (first
      | (go_at_call 23; refine (sp_right_any _ _ (HO.out _ (by first | exact kk | exact kk.drew | exact below_drewN kk _))).mono ?_; rintro e wx ⟨rfl, hbx⟩; have kk : Below w5.heap.size w5 wx := (by first | exact below_then kk hbx | exact below_then kk ⟨hbx.os, hbx.tape, hbx.output, hbx.size, hbx.block⟩); have ny0 := (kk.cell (p := ⟨w3.heap.size + 1, 0, none⟩) hl5).trans y0; have ny1 := (kk.cell (p := ⟨w3.heap.size + 1, 1, none⟩) hl5).trans y1; have ny2 := (kk.cell (p := ⟨w3.heap.size + 1, 2, none⟩) hl5).trans y2; have ny3 := (kk.cell (p := ⟨w3.heap.size + 1, 3, none⟩) hl5).trans y3; have nr0 := (kk.cell (p := ⟨gr, 0, none⟩) hlr).trans r0; have nr1 := (kk.cell (p := ⟨gr, 1, none⟩) hlr).trans r1; have nr2 := (kk.cell (p := ⟨gr, 2, none⟩) hlr).trans r2; have nq0 := (kk.cell (p := ⟨gw, 0, none⟩) hlw).trans q0; have nq1 := (kk.cell (p := ⟨gw, 1, none⟩) hlw).trans q1; have nq2 := (kk.cell (p := ⟨gw, 2, none⟩) hlw).trans q2)
      | (go_at_call 13; refine (sp_steady_any _ _ (HO.out _ (by first | exact kk | exact kk.drew | exact below_drewN kk _))).mono ?_; rintro e wx ⟨rfl, hbx⟩; have kk : Below w5.heap.size w5 wx := (by first | exact below_then kk hbx | exact below_then kk ⟨hbx.os, hbx.tape, hbx.output, hbx.size, hbx.block⟩); have ny0 := (kk.cell (p := ⟨w3.heap.size + 1, 0, none⟩) hl5).trans y0; have ny1 := (kk.cell (p := ⟨w3.heap.size + 1, 1, none⟩) hl5).trans y1; have ny2 := (kk.cell (p := ⟨w3.heap.size + 1, 2, none⟩) hl5).trans y2; have ny3 := (kk.cell (p := ⟨w3.heap.size + 1, 3, none⟩) hl5).trans y3; have nr0 := (kk.cell (p := ⟨gr, 0, none⟩) hlr).trans r0; have nr1 := (kk.cell (p := ⟨gr, 1, none⟩) hlr).trans r1; have nr2 := (kk.cell (p := ⟨gr, 2, none⟩) hlr).trans r2; have nq0 := (kk.cell (p := ⟨gw, 0, none⟩) hlw).trans q0; have nq1 := (kk.cell (p := ⟨gw, 1, none⟩) hlw).trans q1; have nq2 := (kk.cell (p := ⟨gw, 2, none⟩) hlw).trans q2)
      | (go_at_call 24; refine (sp_text_any _ _ (HE.out _ (by first | exact kk | exact kk.drew | exact below_drewN kk _)) (HO.out _ (by first | exact kk | exact kk.drew | exact below_drewN kk _))).mono ?_; rintro e wx ⟨rfl, hbx⟩; have kk : Below w5.heap.size w5 wx := (by first | exact below_then kk hbx | exact below_then kk ⟨hbx.os, hbx.tape, hbx.output, hbx.size, hbx.block⟩); have ny0 := (kk.cell (p := ⟨w3.heap.size + 1, 0, none⟩) hl5).trans y0; have ny1 := (kk.cell (p := ⟨w3.heap.size + 1, 1, none⟩) hl5).trans y1; have ny2 := (kk.cell (p := ⟨w3.heap.size + 1, 2, none⟩) hl5).trans y2; have ny3 := (kk.cell (p := ⟨w3.heap.size + 1, 3, none⟩) hl5).trans y3; have nr0 := (kk.cell (p := ⟨gr, 0, none⟩) hlr).trans r0; have nr1 := (kk.cell (p := ⟨gr, 1, none⟩) hlr).trans r1; have nr2 := (kk.cell (p := ⟨gr, 2, none⟩) hlr).trans r2; have nq0 := (kk.cell (p := ⟨gw, 0, none⟩) hlw).trans q0; have nq1 := (kk.cell (p := ⟨gw, 1, none⟩) hlw).trans q1; have nq2 := (kk.cell (p := ⟨gw, 2, none⟩) hlw).trans q2)
      | (go_at_call 9; refine (read_any 3 0 _).mono ?_; rintro e wx ⟨rfl, hbx⟩; have kk : Below w5.heap.size w5 wx := (by first | exact below_then kk hbx | exact below_then kk ⟨hbx.os, hbx.tape, hbx.output, hbx.size, hbx.block⟩); have ny0 := (kk.cell (p := ⟨w3.heap.size + 1, 0, none⟩) hl5).trans y0; have ny1 := (kk.cell (p := ⟨w3.heap.size + 1, 1, none⟩) hl5).trans y1; have ny2 := (kk.cell (p := ⟨w3.heap.size + 1, 2, none⟩) hl5).trans y2; have ny3 := (kk.cell (p := ⟨w3.heap.size + 1, 3, none⟩) hl5).trans y3; have nr0 := (kk.cell (p := ⟨gr, 0, none⟩) hlr).trans r0; have nr1 := (kk.cell (p := ⟨gr, 1, none⟩) hlr).trans r1; have nr2 := (kk.cell (p := ⟨gr, 2, none⟩) hlr).trans r2; have nq0 := (kk.cell (p := ⟨gw, 0, none⟩) hlw).trans q0; have nq1 := (kk.cell (p := ⟨gw, 1, none⟩) hlw).trans q1; have nq2 := (kk.cell (p := ⟨gw, 2, none⟩) hlw).trans q2)
      | (go_at_call 22; refine (write_op 3 5 _).mono ?_; rintro e wx ⟨rfl, hbx⟩; have kk : Below w5.heap.size w5 wx := (by first | exact below_then kk hbx | exact below_then kk ⟨hbx.os, hbx.tape, hbx.output, hbx.size, hbx.block⟩); have ny0 := (kk.cell (p := ⟨w3.heap.size + 1, 0, none⟩) hl5).trans y0; have ny1 := (kk.cell (p := ⟨w3.heap.size + 1, 1, none⟩) hl5).trans y1; have ny2 := (kk.cell (p := ⟨w3.heap.size + 1, 2, none⟩) hl5).trans y2; have ny3 := (kk.cell (p := ⟨w3.heap.size + 1, 3, none⟩) hl5).trans y3; have nr0 := (kk.cell (p := ⟨gr, 0, none⟩) hlr).trans r0; have nr1 := (kk.cell (p := ⟨gr, 1, none⟩) hlr).trans r1; have nr2 := (kk.cell (p := ⟨gr, 2, none⟩) hlr).trans r2; have nq0 := (kk.cell (p := ⟨gw, 0, none⟩) hlw).trans q0; have nq1 := (kk.cell (p := ⟨gw, 1, none⟩) hlw).trans q1; have nq2 := (kk.cell (p := ⟨gw, 2, none⟩) hlw).trans q2))
  have hb6 := below_then hk5 kk
  go_wp2_with fail
  go_ret
  exact ⟨rfl, hb6⟩
end Go.Proofs.YtlkdojcimlfmdaaDoor
