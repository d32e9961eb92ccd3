/- The walks of a meter of fuel: New, Left, Used, Spend. Conditions: a meter lies there, whose fuel is from 0 to 2^62, of which no more was used, unless it never runs out. -/
import Derived.Deep.QuietTactic
import Derived.BigQuiet
import Derived.Test.YtfancjmhdbaoeaaFueB
namespace Go.Proofs.Ytfancjmhdbaoeaa
set_option maxRecDepth 100000
open Go.RowKit

/-- The block that holds a meter: its fuel, and what was used of it. -/
structure MtAt (w : World) (S f u : Nat) : Prop where
  cF : w.cell? ⟨S, 0, none⟩ = some (.int .i64 (f : Int))
  cU : w.cell? ⟨S, 1, none⟩ = some (.int .i64 (u : Int))
  fU : w.frozen? ⟨S, 1, none⟩ = false
  le : f ≤ 4611686018427387904
  uM : u ≤ 4611686018427387904
  ue : f ≠ 4611686018427387904 → u ≤ f
theorem MtAt.lt {w : World} {S f u : Nat} (h : MtAt w S f u) : S < w.heap.size := by
  have h1 := h.cF
  unfold World.cell? at h1
  cases ho : w.heap[S]? with
  | none => simp [ho] at h1
  | some o => exact (Array.getElem?_eq_some_iff.1 ho).1
theorem MtAt.below {w w' : World} {S f u B : Nat} (h : MtAt w S f u) (hb : Below B w w') (hB : S < B) : MtAt w' S f u :=
  ⟨(hb.cell (p := ⟨S, 0, none⟩) hB).trans h.cF, (hb.cell (p := ⟨S, 1, none⟩) hB).trans h.cU, (hb.frozen (p := ⟨S, 1, none⟩) hB).trans h.fU, h.le, h.uM, h.ue⟩
theorem MtAt.more {w : World} {S f u : Nat} (h : MtAt w S f u) (hu : u + 1 ≤ 4611686018427387904) (hf : f ≠ 4611686018427387904 → u + 1 ≤ f) : MtAt (w.setCell ⟨S, 1, none⟩ (.int .i64 ((u + 1 : Nat) : Int))) S f (u + 1) := by
  refine ⟨?_, World.cell?_setCell_same _ _ _ h.cU, by rw [World.frozen?_setCell]; exact h.fU, h.le, hu, hf⟩
  rw [World.cell?_setCell_other _ _ _ _ (by simp)]; exact h.cF
theorem MtAt.made (w : World) {x : Int} {f : Nat} (t : TypeId) (hx : x = (f : Int)) (hf : f ≤ 4611686018427387904) : MtAt (w.alloc (.cells #[.int .i64 x, .int .i64 0] t)) w.heap.size f 0 := by
  subst hx
  have hh := heap_alloc_new w (.cells #[.int .i64 (f : Int), .int .i64 0] t)
  refine ⟨?_, ?_, frozen_of_row _ _ _ _ _ hh, hf, by omega, fun _ => by omega⟩
  · rw [cell_of_row _ _ _ _ _ _ hh]; rfl
  · rw [cell_of_row _ _ _ _ _ _ hh]; rfl
set_option maxHeartbeats 1000000 in
theorem fnew_any (n : Int) (w : World) :
    Calls Try.prog 11 #[.int .i64 n] w fun e w' => ∃ S, e = .returned (.pointer (some ⟨S, 0, none⟩)) ∧ MtAt w' S (fuelN n) 0 ∧ w.heap.size ≤ S ∧ Below w.heap.size w w' := by
  have HV : Hid (min (max n 0) 4611686018427387904 = ((fuelN n : Nat) : Int)) := Lib.hid (by unfold fuelN; omega)
  have HL := Lib.hid (fuel_le n)
  go_enter Try.func11, Try.ntmps11
  have HM : Hid (∀ x : Int, x = min (max n 0) 4611686018427387904 → MtAt (w.alloc (.cells #[.int .i64 x, .int .i64 0] 32)) w.heap.size (fuelN n) 0) := Lib.hid (fun x hx => MtAt.made w 32 (by rw [hx]; exact HV.out) HL.out)
  have HB : Hid (∀ o, Below w.heap.size w (w.alloc o)) := Lib.hid (fun o => (Below.refl _ _).alloc (Nat.le_refl _) _)
  clear HV HL
  go_wp2_with fail
  all_goals
    go_ret
    exact ⟨_, rfl, HM.out _ (by omega), Nat.le_refl _, HB.out _⟩
set_option maxHeartbeats 1000000 in
theorem fused_any (S f u : Nat) (w : World) (h : MtAt w S f u) :
    Calls Try.prog 13 #[.pointer (some ⟨S, 0, none⟩)] w fun e w' => e = .returned (.int .i64 (u : Int)) ∧ w = w' := by
  have h1 := h.cU
  clear h
  go_enter Try.func13, Try.ntmps13
  go_wp2_with fail
  go_ret
  exact ⟨rfl, rfl⟩
set_option maxHeartbeats 1000000 in
theorem fleft_any (S f u : Nat) (w : World) (h : MtAt w S f u) :
    Calls Try.prog 12 #[.pointer (some ⟨S, 0, none⟩)] w fun e w' => e = .returned (.int .i64 ((leftN f u : Nat) : Int)) ∧ Below w.heap.size w w' := by
  have h0 := h.cF
  have h1 := h.cU
  have hf := h.le
  have hu := h.uM
  by_cases e : f = 4611686018427387904
  · have HV : Hid ((4611686018427387904 : Int) = ((leftN f u : Nat) : Int)) := Lib.hid (by unfold leftN; rw [if_pos e]; rfl)
    have e1 : ((f : Int) == 4611686018427387904) = true := by rw [beq_iff_eq]; omega
    clear h hf e
    go_enter Try.func12, Try.ntmps12
    go_wp2_with fail
    go_ret
    exact ⟨ret_i HV.out, Below.refl _ _⟩
  · have hle := h.ue e
    have HV : Hid ((f : Int) - (u : Int) = ((leftN f u : Nat) : Int)) := Lib.hid (by unfold leftN; rw [if_neg e]; omega)
    have e1 : ((f : Int) == 4611686018427387904) = false := by rw [beq_eq_false_iff_ne]; omega
    clear h e
    go_enter Try.func12, Try.ntmps12
    go_wp2_with fail
    go_quiet (fail)
    go_wp2_with fail
    go_ret
    exact ⟨ret_i HV.out, below_drewN (Below.refl _ _) _⟩
set_option maxHeartbeats 1000000 in
theorem fspend_no (S f u : Nat) (w : World) (h : MtAt w S f u) (h0 : leftN f u = 0) :
    Calls Try.prog 14 #[.pointer (some ⟨S, 0, none⟩)] w fun e w' => e = .returned (.bool false) ∧ Below w.heap.size w w' := by
  have C1 := Lib.hid (fleft_any S f u w h)
  rw [h0] at C1
  clear h h0
  go_enter Try.func14, Try.ntmps14
  go_wp2_with fail
  refine C1.out.mono ?_
  rintro e w1 ⟨rfl, hb⟩
  go_wp2_with fail
  go_ret
  exact ⟨rfl, hb⟩
set_option maxHeartbeats 1000000 in
theorem fspend_yes (S f u : Nat) (w : World) (h : MtAt w S f u) (h0 : leftN f u ≠ 0) (hM : u + 1 ≤ 4611686018427387904) :
    Calls Try.prog 14 #[.pointer (some ⟨S, 0, none⟩)] w fun e w' => e = .returned (.bool true) ∧ MtAt w' S f (u + 1) ∧ Below S w w' := by
  have C1 := Lib.hid (fleft_any S f u w h)
  have hf : f ≠ 4611686018427387904 → u + 1 ≤ f := fun e => by unfold leftN at h0; rw [if_neg e] at h0; omega
  have H2 : Hid (∀ wx, Below w.heap.size w wx → MtAt wx S f u ∧ Below S w wx) := Lib.hid (fun wx hb => ⟨h.below hb h.lt, hb.mono (Nat.le_of_lt h.lt)⟩)
  have HF := Lib.hid hf
  have hne : (((leftN f u : Nat) : Int) == 0) = false := by rw [beq_eq_false_iff_ne]; omega
  clear h h0 hf
  generalize leftN f u = x at *
  go_enter Try.func14, Try.ntmps14
  go_wp2_with fail
  refine C1.out.mono ?_
  rintro e w1 ⟨rfl, hb⟩
  obtain ⟨q, hb2⟩ := H2.out _ hb
  have HQ := Lib.hid (q.more hM HF.out)
  have h1 := q.cU
  have h2 := q.fU
  have HB := Lib.hid (hb2.setCell (p := ⟨S, 1, none⟩) (Nat.le_refl _) (.int .i64 ((u + 1 : Nat) : Int)))
  clear q hb2 hb
  go_wp2_with fail
  go_ret
  exact ⟨rfl, HQ.out, HB.out⟩
end Go.Proofs.Ytfancjmhdbaoeaa
