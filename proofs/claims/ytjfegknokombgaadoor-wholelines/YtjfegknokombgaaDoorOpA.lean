/- Walks of operations: whether they may be, reads and writes, and their text. Conditions: numbers are ints; the library's variables are as a start leaves them. -/
import Derived.Test.YtjfegknokombgaaDoorTokL
namespace Go.Proofs.YtjfegknokombgaaDoor
set_option maxRecDepth 100000
open Go.RowKit

structure OpV where
  wr : Bool
  key : Int
  val : Int
def OpV.v (o : OpV) : Value := .agg #[.bool o.wr, .int .i64 o.key, .int .i64 o.val]
def OpV.ok (o : OpV) : Prop := IntOk o.key ∧ IntOk o.val
def opZ : OpV := ⟨false, 0, 0⟩
/-- May there be such an operation? -/
def mayO (o : OpV) : Bool := (decide (0 ≤ o.key) && decide (o.key < 64)) && (decide (0 ≤ o.val) && decide (o.val ≤ 2147483647)) && (!o.wr || o.val != 0)
theorem mayO_iff (o : OpV) : mayO o = true ↔ (0 ≤ o.key ∧ o.key < 64) ∧ (0 ≤ o.val ∧ o.val ≤ 2147483647) ∧ (o.wr = true → o.val ≠ 0) := by
  obtain ⟨wr, key, val⟩ := o
  unfold mayO
  cases wr <;> simp [and_assoc]
theorem box_below (w : World) (o : Obj) : Below w.heap.size w (w.alloc o) := (Below.refl _ _).alloc (Nat.le_refl _) _
set_option maxHeartbeats 1000000 in
theorem right_any (wr : Bool) (key val : Int) (w : World) :
    Calls Tryd.prog 31 #[.agg #[.bool wr, .int .i64 key, .int .i64 val]] w fun e w' => e = .returned (.bool (mayO ⟨wr, key, val⟩)) ∧ Below w.heap.size w w' := by
  have hi := mayO_iff ⟨wr, key, val⟩
  by_cases h : mayO ⟨wr, key, val⟩ = true
  · obtain ⟨⟨h1, h2⟩, ⟨h3, h4⟩, h5⟩ := hi.1 h
    have HM := Lib.hid h
    have c1 : ¬ key < 0 := by simpa using h1
    have c2 : ¬ (64 : Int) ≤ key := by simp at h2; omega
    have c3 : ¬ val < 0 := by simpa using h3
    have c4 : ¬ (2147483647 : Int) < val := by simp at h4; omega
    simp only at h1 h2 h3 h4 h5
    clear h hi
    cases wr
    · clear h5
      go_enter Tryd.func31, Tryd.ntmps31
      go_wp2_with fail
      go_ret
      exact ⟨ret_b HM.out.symm, box_below _ _⟩
    · have c5 : (val != 0) = true := by rw [bne_iff_ne]; exact h5 rfl
      clear h5
      go_enter Tryd.func31, Tryd.ntmps31
      go_wp2_with fail
      go_ret
      exact ⟨ret_b HM.out.symm, box_below _ _⟩
  · have HM : Hid (mayO ⟨wr, key, val⟩ = false) := Lib.hid (by simpa using h)
    have hn : ¬ ((0 ≤ key ∧ key < 64) ∧ (0 ≤ val ∧ val ≤ 2147483647) ∧ (wr = true → val ≠ 0)) := fun k => h (hi.2 k)
    clear h hi
    by_cases c1 : key < 0
    · go_enter Tryd.func31, Tryd.ntmps31
      clear hn
      go_wp2_with fail
      go_ret
      exact ⟨ret_b HM.out.symm, box_below _ _⟩
    by_cases c2 : (64 : Int) ≤ key
    · clear hn
      go_enter Tryd.func31, Tryd.ntmps31
      go_wp2_with fail
      go_ret
      exact ⟨ret_b HM.out.symm, box_below _ _⟩
    by_cases c3 : val < 0
    · clear hn
      go_enter Tryd.func31, Tryd.ntmps31
      go_wp2_with fail
      go_ret
      exact ⟨ret_b HM.out.symm, box_below _ _⟩
    by_cases c4 : (2147483647 : Int) < val
    · clear hn
      go_enter Tryd.func31, Tryd.ntmps31
      go_wp2_with fail
      go_ret
      exact ⟨ret_b HM.out.symm, box_below _ _⟩
    cases wr
    · exfalso; apply hn; exact ⟨⟨by omega, by omega⟩, ⟨by omega, by omega⟩, fun h => by cases h⟩
    · have hv : val = 0 := by
        by_cases h : val = 0
        · exact h
        · exfalso; apply hn; exact ⟨⟨by omega, by omega⟩, ⟨by omega, by omega⟩, fun _ => h⟩
      subst hv
      clear hn
      go_enter Tryd.func31, Tryd.ntmps31
      go_wp2_with fail
      go_ret
      exact ⟨ret_b HM.out.symm, box_below _ _⟩
set_option maxHeartbeats 1000000 in
theorem read_any (key val : Int) (w : World) :
    Calls Tryd.prog 33 #[.int .i64 key, .int .i64 val] w fun e w' => e = .returned (.agg #[.bool false, .int .i64 key, .int .i64 val]) ∧ Below w.heap.size w w' := by
  go_enter Tryd.func33, Tryd.ntmps33
  go_wp2_with fail
  refine bodyPost_ret (v := .agg #[.bool false, .int .i64 key, .int .i64 val]) (by simp [results, Tryd.results33, go_sem]) rfl ⟨rfl, ?_⟩
  exact box_below _ _
set_option maxHeartbeats 1000000 in
theorem write_op (key val : Int) (w : World) :
    Calls Tryd.prog 34 #[.int .i64 key, .int .i64 val] w fun e w' => e = .returned (.agg #[.bool true, .int .i64 key, .int .i64 val]) ∧ Below w.heap.size w w' := by
  go_enter Tryd.func34, Tryd.ntmps34
  go_wp2_with fail
  refine bodyPost_ret (v := .agg #[.bool true, .int .i64 key, .int .i64 val]) (by simp [results, Tryd.results34, go_sem]) rfl ⟨rfl, ?_⟩
  exact box_below _ _
/-- An operation in words. -/
def textB (wr : Bool) (key val : Int) : ByteArray := joinB (if wr then ⟨#[119]⟩ else ⟨#[114]⟩) [key, val]
set_option maxHeartbeats 1000000 in
theorem text_any (wr : Bool) (key val : Int) (w : World) (he : Env w) (hk : IntOk key) (hv : IntOk val) :
    Calls Tryd.prog 30 #[.agg #[.bool wr, .int .i64 key, .int .i64 val]] w fun e w' => e = .returned (.string (textB wr key val)) ∧ Below w.heap.size w w' := by
  have hb1 := box_below w (.cells #[.bool wr, .int .i64 key, .int .i64 val] 52)
  have hb2 := hb1.trans ((box_below (w.alloc (.cells #[.bool wr, .int .i64 key, .int .i64 val] 52)) (.cells #[.int .i64 key, .int .i64 val] 3)).mono (by simp))
  have hI := ints_lit (w.alloc (.cells #[.bool wr, .int .i64 key, .int .i64 val] 52)) [key, val] #[.int .i64 key, .int .i64 val] 2 rfl rfl (by decide)
  rw [show (w.alloc (.cells #[.bool wr, .int .i64 key, .int .i64 val] 52)).heap.size = w.heap.size + 1 from by simp] at hI
  have CJ := fun s => join_any s _ [key, val] _ (he.below hb2) hI (by intro n hn; simp at hn; rcases hn with rfl | rfl <;> assumption)
  have HJ := Lib.hid CJ
  clear CJ he hk hv hb1 hI
  cases wr
  all_goals
    go_enter Tryd.func30, Tryd.ntmps30
    go_wp2_with fail
    refine (HJ.out _ (by show 1 + 22 * 2 ≤ 1000000000; omega)).mono ?_
    rintro e w' ⟨rfl, hb⟩
    go_wp2_with fail
    go_ret
    exact ⟨rfl, hb2.trans (hb.mono hb2.size)⟩
end Go.Proofs.YtjfegknokombgaaDoor
