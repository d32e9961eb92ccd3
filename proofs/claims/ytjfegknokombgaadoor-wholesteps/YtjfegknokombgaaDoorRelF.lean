/- Walks: Add of a relation behind a pointer. Conditions: the block holds a relation. -/
import Derived.Test.YtjfegknokombgaaDoorRelE
namespace Go.Proofs.YtjfegknokombgaaDoor
set_option maxRecDepth 100000
open Go.RowKit

/-- With one pair more, if both may be. -/
def addM (R : Mat) (a b : Int) : Mat := if mayB a = true ∧ mayB b = true then rowSet R a.toNat (fun j => R a.toNat j || decide (j = b.toNat)) else R
set_option maxHeartbeats 1000000 in
theorem add_yes (R : Mat) (g : Nat) (a b : Nat) (w : World) (h : RelAt w g 27 R) (ha : a < 64) (hb : b < 64) :
    Calls Tryd.prog 36 #[.pointer (some ⟨g, 0, none⟩), .int .i64 (a : Int), .int .i64 (b : Int)] w fun e w' => e = .returned (.bool true) ∧ RelAt w' g 27 (rowSet R a (fun j => R a j || decide (j = b))) ∧ w.grownBy w' (some g) := by
  have hma : mayB (a : Int) = true := by unfold mayB; simp; omega
  have hmb : mayB (b : Int) = true := by unfold mayB; simp; omega
  have hc := h.cell ha
  have hf := h.free a
  have hM := Lib.hid (withS_mkS (R a) b hb)
  have hset := isSet_mkS (R a)
  have hlt := h.lt
  have HN := Lib.hid (h.store a _ (fun j => R a j || decide (j = b)) hM.out)
  have CW : ∀ wx, Calls Tryd.prog 59 #[.int .u64 ((mkS (R a) : Nat) : Int), .int .i64 (b : Int)] wx fun e w' => e = .returned (.int .u64 ((withS (mkS (R a)) (b : Int) : Nat) : Int)) ∧ w' = wx :=
    fun wx => (with_any _ _ wx hset).mono fun _ _ h => ⟨h.1, h.2.symm⟩
  have HG : Hid (w.grownBy (w.setCell ⟨g, a, none⟩ (.int .u64 ((withS (mkS (R a)) (b : Int) : Nat) : Int))) (some g)) :=
    Lib.hid ⟨rfl, rfl, rfl, by simp, fun k _ hk => Below.heap_setCell w ⟨g, a, none⟩ _ k (fun e => hk (by rw [e]))⟩
  have CWH := Lib.hid CW
  clear CW h
  generalize mkS (R a) = x at *
  generalize withS x (b : Int) = z at *
  have hai : (a : Int) < 64 := by omega
  go_enter Tryd.func36, Tryd.ntmps36
  go_wp2_with (go_at_call 60; refine (may_any _ _).mono ?_; rintro e w' ⟨rfl, rfl⟩)
  go_still_tail 11, (by kernel_rfl)
  still_call (CWH.out _)
  repeat still_step
  refine wpStill_nil ?_
  go_wp2
  go_ret
  exact ⟨rfl, HN.out, ⟨HG.out.os, HG.out.tape, HG.out.output, HG.out.size, HG.out.block⟩⟩
theorem add_no (R : Mat) (g : Nat) (a b : Int) (w : World) (h : RelAt w g 27 R) (hab : ¬ (mayB a = true ∧ mayB b = true)) :
    Calls Tryd.prog 36 #[.pointer (some ⟨g, 0, none⟩), .int .i64 a, .int .i64 b] w fun e w' => e = .returned (.bool false) ∧ RelAt w' g 27 R ∧ w.grownBy w' (some g) := by
  have HR := Lib.hid h
  clear h
  cases ha : mayB a
  · clear hab
    go_enter Tryd.func36, Tryd.ntmps36
    go_wp2_with (go_at_call 60; refine (may_any _ _).mono ?_; rintro e w' ⟨rfl, rfl⟩)
    go_ret
    exact ⟨rfl, HR.out, World.grownBy.refl _ _⟩
  · have hb : mayB b = false := by cases hb : mayB b <;> simp_all
    clear hab
    go_enter Tryd.func36, Tryd.ntmps36
    go_wp2_with (go_at_call 60; refine (may_any _ _).mono ?_; rintro e w' ⟨rfl, rfl⟩)
    go_ret
    exact ⟨rfl, HR.out, World.grownBy.refl _ _⟩
theorem mayB_iff (n : Int) : mayB n = true ↔ 0 ≤ n ∧ n < 64 := by unfold mayB; simp
theorem add_any (R : Mat) (g : Nat) (a b : Int) (w : World) (h : RelAt w g 27 R) :
    Calls Tryd.prog 36 #[.pointer (some ⟨g, 0, none⟩), .int .i64 a, .int .i64 b] w fun e w' => e = .returned (.bool (mayB a && mayB b)) ∧ RelAt w' g 27 (addM R a b) ∧ w.grownBy w' (some g) := by
  by_cases hab : mayB a = true ∧ mayB b = true
  · have h1 := (mayB_iff a).1 hab.1
    have h2 := (mayB_iff b).1 hab.2
    have e1 : (mayB a && mayB b) = true := by rw [hab.1, hab.2]; rfl
    have e2 : addM R a b = rowSet R a.toNat (fun j => R a.toNat j || decide (j = b.toNat)) := if_pos hab
    rw [e1, e2]
    obtain ⟨i, rfl⟩ := Int.eq_ofNat_of_zero_le h1.1
    obtain ⟨j, rfl⟩ := Int.eq_ofNat_of_zero_le h2.1
    simp only [Int.toNat_natCast]
    exact add_yes R g i j w h (by omega) (by omega)
  · have e1 : (mayB a && mayB b) = false := by cases ha : mayB a <;> cases hb : mayB b <;> simp_all
    have e2 : addM R a b = R := if_neg hab
    rw [e1, e2]
    exact add_no R g a b w h hab
end Go.Proofs.YtjfegknokombgaaDoor
