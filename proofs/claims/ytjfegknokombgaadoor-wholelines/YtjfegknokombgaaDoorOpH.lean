/- Slices of operations: what their cells hold; whether all of them may be. Condition: none. -/
import Derived.Test.YtjfegknokombgaaDoorOpG
namespace Go.Proofs.YtjfegknokombgaaDoor
set_option maxRecDepth 100000
open Go.RowKit

/-- The cells of operations in a row. -/
def opV (l : List OpV) : List Value := l.flatMap fun o => [.bool o.wr, .int .i64 o.key, .int .i64 o.val]
theorem opV_len (l : List OpV) : (opV l).length = l.length * 3 := by
  induction l with
  | nil => rfl
  | cons a l ih => unfold opV at *; rw [List.flatMap_cons, List.length_append, ih]; simp; omega
theorem opV_at : ∀ (l : List OpV) (k : Nat) (hk : k < l.length), (opV l)[k * 3]? = some (.bool l[k].wr) ∧ (opV l)[k * 3 + 1]? = some (.int .i64 l[k].key) ∧ (opV l)[k * 3 + 2]? = some (.int .i64 l[k].val)
  | a :: l, 0, _ => ⟨rfl, rfl, rfl⟩
  | a :: l, k + 1, hk => by
    obtain ⟨h0, h1, h2⟩ := opV_at l k (by simpa using hk)
    have e : ∀ j, (opV (a :: l))[(k + 1) * 3 + j]? = (opV l)[k * 3 + j]? := fun j => by
      unfold opV
      rw [List.flatMap_cons, show (k + 1) * 3 + j = 3 + (k * 3 + j) from by omega]
      rw [List.getElem?_append_right (by simp)]
      simp
    exact ⟨(e 0).trans h0, (e 1).trans h1, (e 2).trans h2⟩
/-- The slice v holds these operations. -/
def Ops (w : World) (v : Value) (l : List OpV) : Prop := Row w v l.length 3 (opV l)
theorem Ops.below {w w' : World} {v : Value} {l : List OpV} (h : Ops w v l) (hb : Below w.heap.size w w') : Ops w' v l := Row.below h hb
theorem Ops.form {w : World} {v : Value} {l : List OpV} (h : Ops w v l) : ∃ ao cap, v = .slice ao l.length cap ∧ l.length ≤ 9223372036854775807 := by
  obtain ⟨_, ao, cap, rfl, hm, _, _⟩ := h
  exact ⟨ao, cap, rfl, Nat.le_trans hm.1 hm.2⟩
theorem Ops.at {w : World} {ao : Option Addr} {n cap : Nat} {l : List OpV} (h : Ops w (.slice ao n cap) l) {k : Nat} (hk : k < l.length) :
    ∃ b off, ao = some ⟨b, off, none⟩ ∧ w.cell? ⟨b, off + k * 3, none⟩ = some (.bool l[k].wr) ∧ w.cell? ⟨b, off + k * 3 + 1, none⟩ = some (.int .i64 l[k].key) ∧ w.cell? ⟨b, off + k * 3 + 2, none⟩ = some (.int .i64 l[k].val) := by
  obtain ⟨_, ao', cap', he, hm, _, hc⟩ := h
  obtain ⟨rfl, _, _⟩ : ao = ao' ∧ n = l.length ∧ cap = cap' := by simpa using he
  obtain ⟨b, off, rfl, hcell⟩ := hc (by omega)
  obtain ⟨h0, h1, h2⟩ := opV_at l k hk
  refine ⟨b, off, rfl, ?_, ?_, ?_⟩
  · rw [hcell (k * 3) (by omega), h0]
  · rw [Nat.add_assoc, hcell (k * 3 + 1) (by omega), h1]
  · rw [Nat.add_assoc, hcell (k * 3 + 2) (by omega), h2]
def allM (l : List OpV) : Bool := l.all mayO
theorem allM_succ (l : List OpV) (k : Nat) (hk : k < l.length) : allM (l.take (k + 1)) = (allM (l.take k) && mayO l[k]) := by
  unfold allM; rw [List.take_succ_eq_append_getElem hk, List.all_append]; simp
theorem allM_no (l : List OpV) (k : Nat) (hk : k < l.length) (h : mayO l[k] = false) : allM l = false := by
  unfold allM; exact List.all_eq_false.2 ⟨l[k], List.getElem_mem hk, by simp [h]⟩
def mayI (b : Bool) : Int := if b then 1 else 0
set_option maxHeartbeats 2000000 in
theorem may5_any (va : Value) (l : List OpV) (w : World) (ha : Ops w va l) :
    Calls Tryd.prog 46 #[va] w fun e w' => e = .returned (.int .i64 (mayI (allM l))) ∧ Below w.heap.size w w' := by
  obtain ⟨ao, cap, rfl, hal⟩ := ha.form
  go_enter Tryd.func46, Tryd.ntmps46
  go_wp2_with fail
  go_loopw [7] (fun i wr => ∃ k : Nat, k ≤ l.length ∧ i = .int .i64 k ∧ allM (l.take k) = true ∧ Below w.heap.size w wr) (fun i _ => l.length - (intOf i).toNat)
  case atStart => exact ⟨0, by omega, rfl, rfl, Below.refl _ _⟩
  case round =>
    obtain ⟨k, hk, rfl, hal2, hb⟩ := hrel
    have HA := Lib.hid hal2
    clear hal2
    by_cases hlt : k < l.length
    · have hki : (k : Int) < (l.length : Int) := by omega
      obtain ⟨g, o, hao, c0, c1, c2⟩ := (ha.below hb).at hlt
      cases hao
      have HS := Lib.hid (allM_succ l k hlt)
      have HNO := Lib.hid (allM_no l k hlt)
      have hi := mayO_iff l[k]
      have hbb := hb.alloc hb.size (.cells #[.bool l[k].wr, .int .i64 l[k].key, .int .i64 l[k].val] 52)
      generalize l[k] = x at *
      obtain ⟨wr, key, val⟩ := x
      simp only at c0 c1 c2 hi hbb
      have NO : Hid (mayO ⟨wr, key, val⟩ = false → (0 : Int) = mayI (allM l)) := Lib.hid (fun h => by rw [HNO.out h]; rfl)
      have YES : Hid (mayO ⟨wr, key, val⟩ = true → allM (l.take (k + 1)) = true) := Lib.hid (fun h => by rw [HS.out, HA.out, h]; rfl)
      have no : ¬ ((0 ≤ key ∧ key < 64) ∧ (0 ≤ val ∧ val ≤ 2147483647) ∧ (wr = true → val ≠ 0)) → mayO ⟨wr, key, val⟩ = false := fun h => by
        cases hm : mayO ⟨wr, key, val⟩
        · rfl
        · exact absurd (hi.1 hm) h
      clear HS HNO HA
      by_cases d1 : key < 0
      · have H := Lib.hid (NO.out (no (by omega)))
        clear hi no
        go_wp2_with fail
        go_ret
        exact ⟨ret_i H.out, hbb⟩
      by_cases d2 : (63 : Int) < key
      · have H := Lib.hid (NO.out (no (by omega)))
        clear hi no
        go_wp2_with fail
        go_ret
        exact ⟨ret_i H.out, hbb⟩
      by_cases d3 : val < 0
      · have H := Lib.hid (NO.out (no (by omega)))
        clear hi no
        go_wp2_with fail
        go_ret
        exact ⟨ret_i H.out, hbb⟩
      by_cases d4 : (2147483647 : Int) < val
      · have H := Lib.hid (NO.out (no (by omega)))
        clear hi no
        go_wp2_with fail
        go_ret
        exact ⟨ret_i H.out, hbb⟩
      cases wr
      · have H := Lib.hid (YES.out (hi.2 ⟨by omega, by omega, fun h => by cases h⟩))
        clear hi no
        go_wp2_with fail
        go_roundw
        case rel => exact ⟨k + 1, by omega, by go_num, H.out, hbb⟩
        case measure => simp [intOf]; omega
      · by_cases d5 : val = 0
        · have H := Lib.hid (NO.out (no (fun h => h.2.2 rfl d5)))
          subst d5
          clear hi no
          go_wp2_with fail
          go_ret
          exact ⟨ret_i H.out, hbb⟩
        · have H := Lib.hid (YES.out (hi.2 ⟨by omega, by omega, fun _ => d5⟩))
          have d6 : (val == 0) = false := by simp [d5]
          clear hi no
          go_wp2_with fail
          go_roundw
          case rel => exact ⟨k + 1, by omega, by go_num, H.out, hbb⟩
          case measure => simp [intOf]; omega
    · have hkl : k = l.length := by omega
      have H : Hid ((1 : Int) = mayI (allM l)) := Lib.hid (by have := HA.out; rw [hkl, List.take_length] at this; rw [this]; rfl)
      clear hkl
      go_wp2_with fail
      go_ret
      exact ⟨ret_i H.out, hb⟩
end Go.Proofs.YtjfegknokombgaaDoor
