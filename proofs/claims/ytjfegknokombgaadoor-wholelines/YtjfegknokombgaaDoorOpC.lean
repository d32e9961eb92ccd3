/- The walk of what the operation layer's statements ask first. Condition: the library's variables are as a start leaves them. -/
import Derived.Test.YtjfegknokombgaaDoorOpB
import Derived.Laws.StructEq
import Derived.Deep.RegionHeld3
namespace Go.Proofs.YtjfegknokombgaaDoor
set_option maxRecDepth 100000
open Go.RowKit

theorem sp4_parse (w : World) (he : Env w) : Calls Tryd.prog 29 #[.string ⟨#[119, 32, 51, 32, 49, 55]⟩] w fun e w' => e = .returned (.tuple #[.agg #[.bool true, .int .i64 3, .int .i64 17], .bool true]) ∧ Below w.heap.size w w' := by
  have h := parse_any ⟨#[119, 32, 51, 32, 49, 55]⟩ w he (by decide)
  rwa [show parseR ⟨#[119, 32, 51, 32, 49, 55]⟩ = (true, ⟨true, 3, 17⟩) from by rfl] at h
theorem sp4_not (w : World) (he : Env w) : Calls Tryd.prog 29 #[.string ⟨#[119, 32, 51, 32, 48]⟩] w fun e w' => e = .returned (.tuple #[.agg #[.bool false, .int .i64 0, .int .i64 0], .bool false]) ∧ Below w.heap.size w w' := by
  have h := parse_any ⟨#[119, 32, 51, 32, 48]⟩ w he (by decide)
  rwa [show parseR ⟨#[119, 32, 51, 32, 48]⟩ = (false, opZ) from by rfl] at h
theorem sp4_textB : textB true 3 17 = ⟨#[119, 32, 51, 32, 49, 55]⟩ := by
  unfold textB joinB joinTo
  have e1 : Lib.itoa 3 = [51] := by rw [itoa_digit (by decide) (by decide)]; rfl
  have e2 : Lib.itoa 17 = [49, 55] := by rw [itoa_pos (by decide) (by decide), itoa_digit (by decide) (by decide)]; rfl
  simp only [List.flatMap_cons, List.flatMap_nil, e1, e2]
  rfl
theorem sp4_text (w : World) (he : Env w) : Calls Tryd.prog 30 #[.agg #[.bool true, .int .i64 3, .int .i64 17]] w fun e w' => e = .returned (.string ⟨#[119, 32, 51, 32, 49, 55]⟩) ∧ Below w.heap.size w w' := by
  have h := text_any true 3 17 w he (by unfold IntOk; omega) (by unfold IntOk; omega)
  rwa [sp4_textB] at h
theorem sp4_right (w : World) : Calls Tryd.prog 31 #[.agg #[.bool false, .int .i64 63, .int .i64 0]] w fun e w' => e = .returned (.bool true) ∧ Below w.heap.size w w' := right_any false 63 0 w
theorem sp4_wrong (w : World) : Calls Tryd.prog 31 #[.agg #[.bool false, .int .i64 64, .int .i64 0]] w fun e w' => e = .returned (.bool false) ∧ Below w.heap.size w w' := right_any false 64 0 w
theorem opBlock (w : World) (x y z : Value) (t : TypeId) : (w.alloc (.cells #[x, y, z] t)).cell? ⟨w.heap.size, 0, none⟩ = some x ∧ (w.alloc (.cells #[x, y, z] t)).cell? ⟨w.heap.size, 1, none⟩ = some y ∧ (w.alloc (.cells #[x, y, z] t)).cell? ⟨w.heap.size, 2, none⟩ = some z := by
  refine ⟨?_, ?_, ?_⟩ <;> simp
set_option maxHeartbeats 4000000 in
theorem speaks4_any (w : World) (he : Env w) :
    Calls Tryd.prog 28 #[] w fun e w' => e = .returned (.bool true) ∧ Below w.heap.size w w' := by
  have HEN : Hid (∀ wx, Below w.heap.size w wx → Env wx) := Lib.hid (fun wx h => he.below h)
  clear he
  go_enter Tryd.func28, Tryd.ntmps28
  go_wp2_with fail
  refine (sp4_parse w (HEN.out _ (Below.refl _ _))).mono ?_
  rintro e w1 ⟨rfl, hb1⟩
  have hz1 := hb1.size
  go_wp2_with fail
  have hb2 := hb1.trans ((box_below w1 (.cells #[.bool true, .int .i64 3, .int .i64 17] 52)).mono hz1)
  refine (sp4_not _ (HEN.out _ hb2)).mono ?_
  rintro e w2 ⟨rfl, hb3⟩
  obtain ⟨⟨c0, c1, c2⟩, _, _, _⟩ := op_cells (by simpa using hb3)
  have hb4 := hb2.trans (hb3.mono hb2.size)
  clear hb3 hb2 hb1
  have hb5 := hb4.trans ((box_below w2 (.cells #[.bool false, .int .i64 0, .int .i64 0] 52)).mono hb4.size)
  go_wp2_with fail
  have k0 := (World.cell?_alloc_lt w2 (.cells #[.bool false, .int .i64 0, .int .i64 0] 52) _ (block_lt c0)).trans c0
  have k1 := (World.cell?_alloc_lt w2 (.cells #[.bool false, .int .i64 0, .int .i64 0] 52) _ (block_lt c1)).trans c1
  have k2 := (World.cell?_alloc_lt w2 (.cells #[.bool false, .int .i64 0, .int .i64 0] 52) _ (block_lt c2)).trans c2
  clear c0 c1 c2 hb4
  generalize w2.alloc (.cells #[.bool false, .int .i64 0, .int .i64 0] 52) = w3 at *
  have hlt : w1.heap.size < w3.heap.size := block_lt k0
  go_region_held3 (fun w' => w'.cell? ⟨w1.heap.size, 0, none⟩ = some (.bool true) ∧ w'.cell? ⟨w1.heap.size, 1, none⟩ = some (.int .i64 3) ∧ w'.cell? ⟨w1.heap.size, 2, none⟩ = some (.int .i64 17))
    (go_keep)
    (first
      | (go_at_call 34; refine (write_op 3 17 _).mono ?_; rintro e wW ⟨rfl, hbW⟩; have kW : Below w3.heap.size w3 wW := ⟨hbW.os, hbW.tape, hbW.output, hbW.size, hbW.block⟩; have a0 := (kW.cell (p := ⟨w1.heap.size, 0, none⟩) hlt).trans k0; have a1 := (kW.cell (p := ⟨w1.heap.size, 1, none⟩) hlt).trans k1; have a2 := (kW.cell (p := ⟨w1.heap.size, 2, none⟩) hlt).trans k2)
      | (go_at_call 30; refine (sp4_text _ (HEN.out _ (hb5.trans (kW.mono hb5.size)))).mono ?_; rintro e wT ⟨rfl, hbT⟩; have kT : Below w3.heap.size w3 wT := kW.trans (hbT.mono kW.size); have b0 := (kT.cell (p := ⟨w1.heap.size, 0, none⟩) hlt).trans k0; have b1 := (kT.cell (p := ⟨w1.heap.size, 1, none⟩) hlt).trans k1; have b2 := (kT.cell (p := ⟨w1.heap.size, 2, none⟩) hlt).trans k2)
      | (go_at_call 33; (first | ((with_reducible refine (read_any 63 0 _).mono ?_); rintro e wA ⟨rfl, hbwA⟩; have kA : Below w3.heap.size w3 wA := kT.trans (hbwA.mono kT.size); have d0 := (kA.cell (p := ⟨w1.heap.size, 0, none⟩) hlt).trans k0; have d1 := (kA.cell (p := ⟨w1.heap.size, 1, none⟩) hlt).trans k1; have d2 := (kA.cell (p := ⟨w1.heap.size, 2, none⟩) hlt).trans k2) | ((with_reducible refine (read_any 64 0 _).mono ?_); rintro e wC ⟨rfl, hbwC⟩; have kC : Below w3.heap.size w3 wC := kB.trans (hbwC.mono kB.size); have f0 := (kC.cell (p := ⟨w1.heap.size, 0, none⟩) hlt).trans k0; have f1 := (kC.cell (p := ⟨w1.heap.size, 1, none⟩) hlt).trans k1; have f2 := (kC.cell (p := ⟨w1.heap.size, 2, none⟩) hlt).trans k2)))
      | (go_at_call 31; (first | ((with_reducible refine (sp4_right _).mono ?_); rintro e wB ⟨rfl, hbwB⟩; have kB : Below w3.heap.size w3 wB := kA.trans (hbwB.mono kA.size); have g0 := (kB.cell (p := ⟨w1.heap.size, 0, none⟩) hlt).trans k0; have g1 := (kB.cell (p := ⟨w1.heap.size, 1, none⟩) hlt).trans k1; have g2 := (kB.cell (p := ⟨w1.heap.size, 2, none⟩) hlt).trans k2) | ((with_reducible refine (sp4_wrong _).mono ?_); rintro e wD ⟨rfl, hbwD⟩; have kD : Below w3.heap.size w3 wD := kC.trans (hbwD.mono kC.size); have h0 := (kD.cell (p := ⟨w1.heap.size, 0, none⟩) hlt).trans k0; have h1 := (kD.cell (p := ⟨w1.heap.size, 1, none⟩) hlt).trans k1; have h2 := (kD.cell (p := ⟨w1.heap.size, 2, none⟩) hlt).trans k2))))
  go_wp2_with fail
  go_ret
  exact ⟨rfl, hb5.trans (kD.mono hb5.size)⟩
/-- Two ints that may stand in an operation. -/
theorem mayO_write (key val : Int) (h : mayO ⟨true, key, val⟩ = true) : mayO ⟨false, key, val⟩ = true ∧ val ≠ 0 := by
  obtain ⟨h1, h2, h3⟩ := (mayO_iff _).1 h
  exact ⟨(mayO_iff _).2 ⟨h1, h2, fun h => by cases h⟩, h3 rfl⟩
theorem mayO_read (key val : Int) (h : mayO ⟨true, key, val⟩ = false) (hv : val ≠ 0) : mayO ⟨false, key, val⟩ = false := by
  cases h2 : mayO ⟨false, key, val⟩
  · rfl
  · obtain ⟨k1, k2, _⟩ := (mayO_iff _).1 h2
    have := (mayO_iff ⟨true, key, val⟩).2 ⟨k1, k2, fun _ => hv⟩
    rw [this] at h; cases h
theorem two_blocks (w : World) (x y z x' y' z' : Value) (t : TypeId) :
    (((w.alloc (.cells #[x, y, z] t)).alloc (.cells #[x', y', z'] t)).cell? ⟨w.heap.size, 0, none⟩ = some x ∧ ((w.alloc (.cells #[x, y, z] t)).alloc (.cells #[x', y', z'] t)).cell? ⟨w.heap.size, 1, none⟩ = some y ∧ ((w.alloc (.cells #[x, y, z] t)).alloc (.cells #[x', y', z'] t)).cell? ⟨w.heap.size, 2, none⟩ = some z) ∧
    (((w.alloc (.cells #[x, y, z] t)).alloc (.cells #[x', y', z'] t)).cell? ⟨w.heap.size + 1, 0, none⟩ = some x' ∧ ((w.alloc (.cells #[x, y, z] t)).alloc (.cells #[x', y', z'] t)).cell? ⟨w.heap.size + 1, 1, none⟩ = some y' ∧ ((w.alloc (.cells #[x, y, z] t)).alloc (.cells #[x', y', z'] t)).cell? ⟨w.heap.size + 1, 2, none⟩ = some z') := by
  obtain ⟨a0, a1, a2⟩ := opBlock w x y z t
  have h := opBlock (w.alloc (.cells #[x, y, z] t)) x' y' z' t
  rw [show (w.alloc (.cells #[x, y, z] t)).heap.size = w.heap.size + 1 from by simp] at h
  have e : ∀ i v, (w.alloc (.cells #[x, y, z] t)).cell? ⟨w.heap.size, i, none⟩ = some v → ((w.alloc (.cells #[x, y, z] t)).alloc (.cells #[x', y', z'] t)).cell? ⟨w.heap.size, i, none⟩ = some v := fun i v hv => (World.cell?_alloc_lt _ _ _ (by simp)).trans hv
  exact ⟨⟨e 0 x a0, e 1 y a1, e 2 z a2⟩, h⟩
set_option maxHeartbeats 4000000 in
theorem kinds_walk (key val : Int) (w : World) (he : Env w) :
    Calls Tryd.prog 10 #[.int .i64 key, .int .i64 val] w fun e w' => e = .returned (.bool true) ∧ Below w.heap.size w w' := by
  go_enter Tryd.func10, Tryd.ntmps10
  go_wp2_with fail
  refine (speaks4_any w he).mono ?_
  rintro e w1 ⟨rfl, hb1⟩
  have hz1 := hb1.size
  go_wp2_with fail
  refine (read_any key val _).mono ?_
  rintro e w2 ⟨rfl, hb2⟩
  have hbb := hb1.trans (hb2.mono hz1)
  go_wp2_with fail
  refine (write_op key val _).mono ?_
  rintro e w3 ⟨rfl, hb3⟩
  have hbc := hbb.trans (hb3.mono hbb.size)
  have hbd := hbc.trans (((box_below w3 (.cells #[.bool false, .int .i64 key, .int .i64 val] 52)).trans ((box_below (w3.alloc (.cells #[.bool false, .int .i64 key, .int .i64 val] 52)) (.cells #[.bool true, .int .i64 key, .int .i64 val] 52)).mono (by simp))).mono hbc.size)
  have hk := two_blocks w3 (.bool false) (.int .i64 key) (.int .i64 val) (.bool true) (.int .i64 key) (.int .i64 val) 52
  clear hb1 hb2 hb3 hbb he
  go_wp2_with fail
  generalize (w3.alloc (.cells #[.bool false, .int .i64 key, .int .i64 val] 52)).alloc (.cells #[.bool true, .int .i64 key, .int .i64 val] 52) = w4 at *
  have HC : Hid (∀ wx, Below w4.heap.size w4 wx → (wx.cell? ⟨w3.heap.size, 0, none⟩ = some (.bool false) ∧ wx.cell? ⟨w3.heap.size, 1, none⟩ = some (.int .i64 key) ∧ wx.cell? ⟨w3.heap.size, 2, none⟩ = some (.int .i64 val)) ∧
      (wx.cell? ⟨w3.heap.size + 1, 0, none⟩ = some (.bool true) ∧ wx.cell? ⟨w3.heap.size + 1, 1, none⟩ = some (.int .i64 key) ∧ wx.cell? ⟨w3.heap.size + 1, 2, none⟩ = some (.int .i64 val))) := Lib.hid (fun wx hb => by
    obtain ⟨⟨a0, a1, a2⟩, b0, b1, b2⟩ := hk
    exact ⟨⟨(hb.cell (p := ⟨w3.heap.size, 0, none⟩) (block_lt a0)).trans a0, (hb.cell (p := ⟨w3.heap.size, 1, none⟩) (block_lt a1)).trans a1, (hb.cell (p := ⟨w3.heap.size, 2, none⟩) (block_lt a2)).trans a2⟩, (hb.cell (p := ⟨w3.heap.size + 1, 0, none⟩) (block_lt b0)).trans b0, (hb.cell (p := ⟨w3.heap.size + 1, 1, none⟩) (block_lt b1)).trans b1, (hb.cell (p := ⟨w3.heap.size + 1, 2, none⟩) (block_lt b2)).trans b2⟩)
  clear hk
  have RW := fun wx => right_any true key val wx
  have RR := fun wx => right_any false key val wx
  cases hm : mayO ⟨true, key, val⟩
  · rw [hm] at RW
    have HRW := Lib.hid RW
    by_cases hv : val = 0
    · subst hv
      clear RW RR hm
      refine (HRW.out _).mono ?_
      rintro e w5 ⟨rfl, hb5⟩
      obtain ⟨⟨a0, a1, a2⟩, b0, b1, b2⟩ := HC.out w5 hb5
      go_wp2_with fail
      refine (HRW.out _).mono ?_
      rintro e w6 ⟨rfl, hb6⟩
      clear a0 a1 a2 b0 b1 b2
      have hb7 := hb5.trans (hb6.mono hb5.size)
      go_wp2_with fail
      go_ret
      exact ⟨rfl, hbd.trans (hb7.mono hbd.size)⟩
    · rw [mayO_read key val hm hv] at RR
      have HRR := Lib.hid RR
      have hv' : (val == 0) = false := by simp [hv]
      clear RW RR hm
      refine (HRW.out _).mono ?_
      rintro e w5 ⟨rfl, hb5⟩
      obtain ⟨⟨a0, a1, a2⟩, b0, b1, b2⟩ := HC.out w5 hb5
      go_wp2_with fail
      refine (HRW.out _).mono ?_
      rintro e w6 ⟨rfl, hb6⟩
      clear a0 a1 a2 b0 b1 b2
      have hb7 := hb5.trans (hb6.mono hb5.size)
      obtain ⟨⟨a0, a1, a2⟩, b0, b1, b2⟩ := HC.out w6 hb7
      go_wp2_with fail
      refine (HRR.out _).mono ?_
      rintro e w7 ⟨rfl, hb8⟩
      have hb9 := hb7.trans (hb8.mono hb7.size)
      go_wp2_with fail
      go_ret
      exact ⟨rfl, hbd.trans (hb9.mono hbd.size)⟩
  · rw [hm] at RW
    rw [(mayO_write key val hm).1] at RR
    have HRW := Lib.hid RW
    have HRR := Lib.hid RR
    clear RW RR hm
    refine (HRW.out _).mono ?_
    rintro e w5 ⟨rfl, hb5⟩
    obtain ⟨⟨a0, a1, a2⟩, b0, b1, b2⟩ := HC.out w5 hb5
    go_wp2_with fail
    refine (HRR.out _).mono ?_
    rintro e w6 ⟨rfl, hb6⟩
    clear a0 a1 a2 b0 b1 b2
    have hb7 := hb5.trans (hb6.mono hb5.size)
    obtain ⟨⟨a0, a1, a2⟩, b0, b1, b2⟩ := HC.out w6 hb7
    go_wp2_with fail
    refine (HRW.out _).mono ?_
    rintro e w7 ⟨rfl, hb8⟩
    have hb9 := hb7.trans (hb8.mono hb7.size)
    go_wp2_with fail
    go_ret
    exact ⟨rfl, hbd.trans (hb9.mono hbd.size)⟩
end Go.Proofs.YtjfegknokombgaaDoor
