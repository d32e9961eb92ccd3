/- The walks of the reference's look back and of its Steady. Conditions: a slice's cells are known. -/
import Derived.Test.YtlkdojcimlfmdaaTxnA
import Derived.Deep.QuietTactic
import Derived.BigQuiet
import Derived.WalkSmall
namespace Go.Proofs.Ytlkdojcimlfmdaa
set_option maxRecDepth 100000
open Go.RowKit

theorem lastO_step {l : List OpV} {j : Nat} (hj : j < l.length) (key : Int) : lastO (l.take (j + 1)) key = if key = l[j].key then some l[j] else lastO (l.take j) key := by
  rw [take_snoc l j hj, lastO_snoc]; rfl
set_option maxHeartbeats 4000000 in
theorem before_any (va : Value) (l : List OpV) (k : Nat) (key : Int) (w : World) (ha : Ops w va l) (hk : k ≤ l.length) :
    Calls Try.prog 75 #[va, .int .i64 k, .int .i64 key] w fun e w' => e = .returned (.tuple #[eO ((lastO (l.take k) key).getD opZ), .bool (lastO (l.take k) key).isSome]) ∧ Below w.heap.size w w' := by
  obtain ⟨ao, cap, rfl, hal⟩ := ha.form
  obtain ⟨⟨c0, c1, c2⟩, f0, f1, f2⟩ := op_cells (Below.refl (w.heap.size + 1) (w.alloc (.cells #[.bool false, .int .i64 0, .int .i64 0] 31)))
  have hb0 := (Below.refl w.heap.size w).alloc (Nat.le_refl _) (.cells #[.bool false, .int .i64 0, .int .i64 0] 31)
  go_enter Try.func75, Try.ntmps75
  go_wp2_with fail
  generalize w.alloc (.cells #[.bool false, .int .i64 0, .int .i64 0] 31) = w1 at *
  go_loopw [8] (fun i wr => ∃ j : Nat, j ≤ k ∧ i = .int .i64 ((j : Int) - 1) ∧ lastO (l.take k) key = lastO (l.take j) key ∧ w1 = wr) (fun i _ => (intOf i + 1).toNat)
  case atStart => exact ⟨k, by omega, rfl, rfl, rfl⟩
  case round =>
    obtain ⟨j, hj, hi, hL, rfl⟩ := hrel
    cases j with
    | zero =>
      obtain rfl : u8 = .int .i64 (-1) := hi
      rw [List.take_zero] at hL
      have HL := Lib.hid (show lastO (l.take k) key = none from hL)
      clear hL
      go_wp2_with fail
      obtain ⟨d0, d1, d2⟩ := put_three (.bool false) (.int .i64 0) (.int .i64 0) c0 c1 c2
      have hb6 := below_three (.bool false) (.int .i64 0) (.int .i64 0) hb0 (Nat.le_refl _)
      generalize World.setCell _ _ _ = w5 at *
      refine bodyPost_ret (v := .tuple #[.agg #[.bool false, .int .i64 0, .int .i64 0], .bool false]) (by simp [results, Try.results75, go_sem, d0, d1, d2]) rfl ⟨?_, hb6⟩
      rw [HL.out]; rfl
    | succ j =>
      have hi' : (((j + 1 : Nat) : Int) - 1) = (j : Int) := by omega
      rw [hi'] at hi
      subst hi
      have hlt : j < l.length := by omega
      have hjl : (j : Int) < (l.length : Int) := by omega
      obtain ⟨g, o, hao, e0, e1, e2⟩ := (ha.below hb0).at hlt
      cases hao
      rw [lastO_step hlt] at hL
      generalize l[j] = x at *
      obtain ⟨wr', kx, vx⟩ := x
      simp only at e0 e1 e2 hL
      by_cases hke : kx = key
      · subst hke
        rw [if_pos rfl] at hL
        have HL := Lib.hid hL
        clear hL
        go_wp2_with fail
        obtain ⟨d0, d1, d2⟩ := put_three (.bool wr') (.int .i64 kx) (.int .i64 vx) c0 c1 c2
        have hb6 := below_three (.bool wr') (.int .i64 kx) (.int .i64 vx) hb0 (Nat.le_refl _)
        generalize World.setCell _ _ _ = w5 at *
        refine bodyPost_ret (v := .tuple #[.agg #[.bool wr', .int .i64 kx, .int .i64 vx], .bool true]) (by simp [results, Try.results75, go_sem, d0, d1, d2]) rfl ⟨?_, hb6⟩
        rw [HL.out]; rfl
      · rw [if_neg (fun h => hke h.symm)] at hL
        have HL := Lib.hid hL
        have hke' : (kx == key) = false := by simpa using hke
        clear hL hke
        go_wp2_with fail
        go_roundw
        case rel => exact ⟨j, by omega, by go_num, HL.out, by first | rfl | trivial⟩
        case measure => simp [intOf]
set_option maxHeartbeats 4000000 in
theorem rsteady_any (va : Value) (l : List OpV) (w : World) (ha : Ops w va l) :
    Calls Try.prog 57 #[va] w fun e w' => e = .returned (.bool (steadyL l)) ∧ Below w.heap.size w w' := by
  obtain ⟨ao, cap, rfl, hal⟩ := ha.form
  go_enter Try.func57, Try.ntmps57
  go_wp2_with fail
  go_loopw [3] (fun i wr => ∃ k : Nat, k ≤ l.length ∧ i = .int .i64 k ∧ (∀ j, j < k → stOk l j = true) ∧ Below w.heap.size w wr) (fun i _ => l.length - (intOf i).toNat)
  case atStart => exact ⟨0, by omega, rfl, by omega, Below.refl _ _⟩
  case round =>
    obtain ⟨k, hk, rfl, hst, hb⟩ := hrel
    have HST := Lib.hid hst
    clear hst
    by_cases hlt : k < l.length
    · have hki : (k : Int) < (l.length : Int) := by omega
      obtain ⟨g, o, hao, c0, c1, c2⟩ := (ha.below hb).at hlt
      cases hao
      have HS := Lib.hid (stOk_at hlt)
      have HNO := Lib.hid (fun h => steadyL_no hlt h)
      have CB := Lib.hid (before_any _ l k l[k].key wr (ha.below hb) hk)
      have HAT := Lib.hid (fun (wx : World) (hbx : Below w.heap.size w wx) => (ha.below hbx).at hlt)
      generalize l[k] = x at *
      obtain ⟨wr', key, val⟩ := x
      simp only at c0 c1 c2
      generalize lastO (l.take k) key = q at *
      go_wp2_with fail
      refine (CB.out).mono ?_
      rintro e w1 ⟨rfl, hb1⟩
      have hb2 := below_then hb hb1
      clear CB
      cases q with
      | none =>
        have H : Hid (stOk l k = true) := Lib.hid HS.out
        have hb3 := hb2.alloc hb2.size (.cells #[.bool false, .int .i64 0, .int .i64 0] 31)
        have hx := opBlock w1 (.bool false) (.int .i64 0) (.int .i64 0) 31
        clear HS HNO c0 c1 c2 HAT
        simp only [Option.getD_none, Option.isSome_none, eO, OpV.v, opZ]
        go_wp2_with fail
        generalize w1.alloc (.cells #[.bool false, .int .i64 0, .int .i64 0] 31) = w2 at *
        obtain ⟨x0, x1, x2⟩ := hx
        go_quiet (fail)
        go_wp2_with fail
        go_roundw
        case rel => exact ⟨k + 1, by omega, by go_num, all_snoc HST.out H.out, below_drewN hb3 _⟩
        case measure => simp [intOf]; omega
      | some p =>
        obtain ⟨pw, pk, pv⟩ := p
        have hb3 := hb2.alloc hb2.size (.cells #[.bool pw, .int .i64 pk, .int .i64 pv] 31)
        have hx := opBlock w1 (.bool pw) (.int .i64 pk) (.int .i64 pv) 31
        have HSP : Hid (stOk l k = (wr' || val == pv)) := HS
        clear HS c0 c1 c2
        simp only [Option.getD_some, Option.isSome_some, eO, OpV.v]
        go_wp2_with fail
        generalize w1.alloc (.cells #[.bool pw, .int .i64 pk, .int .i64 pv] 31) = w2 at *
        obtain ⟨x0, x1, x2⟩ := hx
        obtain ⟨_, _, hao', c0, c1, c2⟩ := HAT.out _ hb3
        cases hao'
        cases wr'
        · by_cases hvv : val = pv
          · have H : Hid (stOk l k = true) := Lib.hid (by rw [HSP.out, hvv]; simp)
            have hne : (pv != val) = false := by simp [hvv]
            clear HNO HSP hvv
            go_quiet (fail)
            go_wp2_with fail
            go_roundw
            case rel => exact ⟨k + 1, by omega, by go_num, all_snoc HST.out H.out, below_drewN hb3 _⟩
            case measure => simp [intOf]; omega
          · have H : Hid (steadyL l = false) := Lib.hid (HNO.out (by rw [HSP.out]; simpa using hvv))
            have hne : (pv != val) = true := by simpa using (fun h => hvv h.symm)
            clear HNO HSP hvv
            go_quiet (fail)
            go_wp2_with fail
            go_ret
            exact ⟨ret_b H.out.symm, below_drewN hb3 _⟩
        · have H : Hid (stOk l k = true) := Lib.hid (by rw [HSP.out]; rfl)
          clear HNO HSP
          go_quiet (fail)
          go_wp2_with fail
          go_roundw
          case rel => exact ⟨k + 1, by omega, by go_num, all_snoc HST.out H.out, below_drewN hb3 _⟩
          case measure => simp [intOf]; omega
    · have hkl : k = l.length := by omega
      have H : Hid (steadyL l = true) := Lib.hid (steadyL_all (by rw [← hkl]; exact HST.out))
      go_wp2_with fail
      go_ret
      exact ⟨ret_b H.out.symm, hb⟩
end Go.Proofs.Ytlkdojcimlfmdaa
