/- The walks of Same of operations, and of the reference's Reads and Writes. Conditions: slices' cells are known. -/
import Derived.Test.YtlkdojcimlfmdaaDoorTxnH
import Derived.Test.YtlkdojcimlfmdaaDoorOpQ
namespace Go.Proofs.YtlkdojcimlfmdaaDoor
set_option maxRecDepth 100000
open Go.RowKit

def sameI (a b : List OpV) : Int := if a = b then 1 else 0
set_option maxHeartbeats 4000000 in
theorem same5_any (va vb : Value) (l m : List OpV) (w : World) (ha : Ops w va l) (hb : Ops w vb m) :
    Calls Tryd.prog 10 #[va, vb] w fun e w' => e = .returned (.int .i64 (sameI l m)) ∧ Below w.heap.size w w' := by
  obtain ⟨ao, acap, rfl, hal⟩ := ha.form
  obtain ⟨bo, bcap, rfl, hbl⟩ := hb.form
  by_cases hlm : l.length = m.length
  · go_enter Tryd.func10, Tryd.ntmps10
    have hlm' : (l.length : Int) = (m.length : Int) := by omega
    rw [hlm] at ha ⊢
    have hne := fun a b c a' b' c' w => neqOp a b c a' b' c' w
    have hgd := fun o x y a b c a' b' c' w => guardOp o x y a b c a' b' c' w
    go_wp2_with fail
    go_loopw [13] (fun i wr => ∃ k : Nat, k ≤ m.length ∧ i = .int .i64 k ∧ l.take k = m.take k ∧ Below w.heap.size w wr) (fun i _ => m.length - (intOf i).toNat)
    case atStart => exact ⟨0, by omega, rfl, rfl, Below.refl _ _⟩
    case round =>
      obtain ⟨k, hk, rfl, hT, hbw⟩ := hrel
      have HT := Lib.hid hT
      have HL := Lib.hid hlm
      clear hT
      by_cases hlt : k < m.length
      · have hki : (k : Int) < (m.length : Int) := by omega
        have hltl : k < l.length := by omega
        obtain ⟨g1, o1, e1, c0, c1, c2⟩ := (ha.below hbw).at hltl
        obtain ⟨g2, o2, e2, d0, d1, d2⟩ := (hb.below hbw).at hlt
        cases e1
        cases e2
        have HS : Hid (l[k] = m[k] → l.take (k + 1) = m.take (k + 1)) := Lib.hid (fun h => by rw [take_snoc l k hltl, take_snoc m k hlt, HT.out, h])
        have HN : Hid (l[k] ≠ m[k] → l ≠ m) := Lib.hid (fun h e => h (by subst e; rfl))
        generalize l[k] = x at *
        generalize m[k] = y at *
        by_cases hxy : x = y
        · have H := Lib.hid (HS.out hxy)
          subst hxy
          obtain ⟨xw, xk, xv⟩ := x
          have hd : ∀ w, Sem.run Tryd.prog (binOp .neq 26 (.agg #[.bool xw, .int .i64 xk, .int .i64 xv]) (.agg #[.bool xw, .int .i64 xk, .int .i64 xv])) w = .ok (.bool false) w := fun w => by rw [neqOp]; simp
          clear HS HN hne
          simp only at c0 c1 c2 d0 d1 d2
          go_wp2_with fail
          go_quiet (fail)
          go_wp2_with fail
          go_roundw
          case rel => exact ⟨k + 1, by omega, by go_num, H.out, below_drewN hbw _⟩
          case measure => simp [intOf]; omega
        · have H := Lib.hid (HN.out hxy)
          obtain ⟨xw, xk, xv⟩ := x
          obtain ⟨yw, yk, yv⟩ := y
          have hd : ∀ w, Sem.run Tryd.prog (binOp .neq 26 (.agg #[.bool xw, .int .i64 xk, .int .i64 xv]) (.agg #[.bool yw, .int .i64 yk, .int .i64 yv])) w = .ok (.bool true) w := fun w => by rw [neqOp]; simp only [ne_eq, hxy, not_false_eq_true, decide_true]
          have H2 : Hid ((0 : Int) = sameI l m) := Lib.hid (by unfold sameI; rw [if_neg H.out])
          clear HS HN hne H hxy
          simp only at c0 c1 c2 d0 d1 d2
          go_wp2_with fail
          go_quiet (fail)
          go_wp2_with fail
          go_ret
          exact ⟨ret_i H2.out, below_drewN hbw _⟩
      · have H2 : Hid ((1 : Int) = sameI l m) := Lib.hid (by
          have h := HT.out
          have hk2 : k = m.length := by omega
          rw [hk2, List.take_length, ← HL.out, List.take_length] at h
          unfold sameI; rw [if_pos h])
        clear HT HL
        go_wp2_with fail
        go_ret
        exact ⟨ret_i H2.out, hbw⟩
  · have H2 : Hid ((0 : Int) = sameI l m) := Lib.hid (by unfold sameI; rw [if_neg (fun h => hlm (by rw [h]))])
    have hlm' : ¬ (l.length : Int) = (m.length : Int) := by omega
    clear hlm
    go_enter Tryd.func10, Tryd.ntmps10
    go_wp2_with fail
    go_ret
    exact ⟨ret_i H2.out, Below.refl _ _⟩
end Go.Proofs.YtlkdojcimlfmdaaDoor
