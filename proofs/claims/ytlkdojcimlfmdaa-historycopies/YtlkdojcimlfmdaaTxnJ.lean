/- The walks of the reference's Reads and Writes. Conditions: a slice's cells are known. -/
import Derived.Test.YtlkdojcimlfmdaaTxnI
namespace Go.Proofs.Ytlkdojcimlfmdaa
set_option maxRecDepth 100000
open Go.RowKit

theorem rdTo_none {l : List OpV} {k j : Nat} (h : lastO (l.take j) k = none) : rdTo l k j = none := by
  have := firstO_none (l := l.take j) (x := (k : Int))
  rw [h] at this
  unfold rdTo rdK
  rw [show firstO (l.take j) k = none from by simpa using this]; rfl
theorem rdTo_all (l : List OpV) (k : Nat) : rdTo l k l.length = rdK l k := by unfold rdTo; rw [List.take_length]
theorem Own.lit0 (w : World) : Own (w.alloc (.cells #[] 31)) w.heap.size (.slice (some ⟨w.heap.size, 0, none⟩) 0 0) [] := World.ownsRow_lit (base := w.heap.size) (size := 3) w #[] 0 (Nat.le_refl _) (by decide) rfl
set_option maxHeartbeats 8000000 in
theorem rreads_any (va : Value) (l : List OpV) (w : World) (ha : Ops w va l) :
    Calls Try.prog 58 #[va] w fun e w' => ∃ v, e = .returned v ∧ Own w' w.heap.size v (refReads l) ∧ Below w.heap.size w w' := by
  obtain ⟨i0, hi, hz0, hz1, hz2⟩ := info_parts infoOp
  obtain ⟨ao, cap, rfl, hal⟩ := ha.form
  have hb0 := (Below.refl w.heap.size w).alloc (Nat.le_refl _) (.cells #[] 31)
  have hO0 := Own.lit0 w
  go_enter Try.func58, Try.ntmps58
  go_wp2_with fail
  go_loopw [3, 4] (fun v i wr => ∃ k : Nat, k ≤ 64 ∧ i = .int .i64 k ∧ Own wr w.heap.size v (upTo (rdK l) k) ∧ Below w.heap.size w wr) (fun _ i _ => 64 - (intOf i).toNat)
  case atStart => exact ⟨0, by omega, rfl, hO0, hb0⟩
  case round =>
    obtain ⟨k, hk, rfl, hO, hb⟩ := hrel
    clear hb0 hO0
    by_cases hlt : k < 64
    · have hki : (k : Int) < 64 := by omega
      have hlenk := upTo_len (rdK l) k
      go_wp2_with fail
      go_loopw [3, 5] (fun v i wx => ∃ j : Nat, j ≤ l.length ∧ i = .int .i64 j ∧ Own wx w.heap.size v (upTo (rdK l) k ++ (rdTo l k j).toList) ∧ Below w.heap.size w wx) (fun _ i _ => l.length - (intOf i).toNat)
      case atStart => exact ⟨0, by omega, rfl, by simpa [rdTo, rdK, firstO] using hO, hb⟩
      case round =>
        obtain ⟨j, hj, rfl, hO2, hb2⟩ := hrel
        have hszx := hb2.size
        clear hO hb
        by_cases hltj : j < l.length
        · have hkj : (j : Int) < (l.length : Int) := by omega
          have CB := Lib.hid (before_any _ l j (k : Int) wr (ha.below hb2) hj)
          have HS := Lib.hid (rdTo_succ (k := k) hltj)
          have HN := Lib.hid (fun h => rdTo_none (l := l) (k := k) (j := j) h)
          have HAT := Lib.hid (fun (wy : World) (hby : Below w.heap.size w wy) => (ha.below hby).at hltj)
          generalize l[j] = x at *
          obtain ⟨xw, xk, xv⟩ := x
          generalize lastO (l.take j) (k : Int) = q at *
          go_wp2_with fail
          refine (CB.out).mono ?_
          rintro e w1 ⟨rfl, hb3⟩
          have hb4 := below_then hb2 hb3
          have hO3 := hO2.below hb3
          clear CB hO2 hb3 hb2
          have hq : Hid (q = none ↔ q.isSome = false) := Lib.hid (by cases q <;> simp)
          generalize q.isSome = qb at *
          simp only [eO]
          generalize q.getD opZ = z at *
          obtain ⟨zw, zk, zv⟩ := z
          simp only [OpV.v]
          have hb5 := hb4.alloc hb4.size (.cells #[.bool zw, .int .i64 zk, .int .i64 zv] 31)
          have hO4 : Own _ _ _ _ := World.ownsRow.alloc hO3 (.cells #[.bool zw, .int .i64 zk, .int .i64 zv] 31)
          obtain ⟨_, _, hao, c0, c1, c2⟩ := HAT.out _ hb5
          cases hao
          try simp only at c0 c1 c2
          have hsz1 := hb4.size
          clear hb4 hO3
          by_cases d1 : xk = k
          · cases xw
            · cases qb
              · have hqn := Lib.hid (hq.out.2 rfl)
                have HS2 : Hid (rdTo l k (j + 1) = some ⟨false, xk, xv⟩) := Lib.hid (by rw [HS.out, if_pos ⟨d1, rfl, hqn.out⟩])
                have HNN := Lib.hid (HN.out hqn.out)
                subst d1
                have hlit := opLit (w1.alloc (.cells #[.bool zw, .int .i64 zk, .int .i64 zv] 31)) 0 ⟨false, (k : Int), xv⟩ (Nat.zero_le _)
                rw [show (w1.alloc (.cells #[.bool zw, .int .i64 zk, .int .i64 zv] 31)).heap.size = w1.heap.size + 1 from by simp] at hlit
                rw [HNN.out] at hO4
                simp only [Option.toList_none, List.append_nil] at hO4
                clear HS HN HNN hq hqn HAT
                go_wp2_with (first | (at_builtin; refine wpList_append_row rfl _ _ 27 rfl w.heap.size 31 i0 (.agg #[.bool false, .int .i64 0, .int .i64 0]) 3 24 Try.underlying27 hi hz0 hz1 hz2 rfl (by decide) _ _ _ rfl (World.ownsRow.alloc hO4 _) _ 1 _ rfl (Row.of_owns hlit) ?d1 ?d2 ?d3 ?d4 ?_) | go_in)
                case d1 => exact opV_one _
                case d2 => unfold maxLen; omega
                case d3 => omega
                case d4 => first | omega | (simp; omega)
                intro v6 w6 hown6 hg6
                clear hlit
                have hO5 : Own _ _ _ (upTo (rdK l) k ++ [⟨false, (k : Int), xv⟩]) := ⟨by rw [opV_len], by rw [opV_app]; simpa using hown6.2⟩
                have hb6 := below_own (hb5.alloc hb5.size (.cells #[.bool false, .int .i64 k, .int .i64 xv] 31)) (World.ownsRow.alloc hO4 (.cells #[.bool false, .int .i64 k, .int .i64 xv] 31)) (Nat.le_refl _) hg6
                clear hown6 hg6 hb5 hO4
                go_wp2_with fail
                go_roundw
                case rel => exact ⟨j + 1, by omega, by go_num, by rw [HS2.out]; exact hO5, hb6⟩
                case measure => simp [intOf]; omega
              · have HS2 : Hid (rdTo l k (j + 1) = rdTo l k j) := Lib.hid (by rw [HS.out, if_neg (fun h => by have := hq.out.1 h.2.2; cases this)])
                subst d1
                clear HS HN hq HAT
                go_wp2_with fail
                go_roundw
                case rel => exact ⟨j + 1, by omega, by go_num, by rw [HS2.out]; exact hO4, hb5⟩
                case measure => simp [intOf]; omega
            · have HS2 : Hid (rdTo l k (j + 1) = rdTo l k j) := Lib.hid (by rw [HS.out, if_neg (fun h => by have := h.2.1; cases this)])
              subst d1
              clear HS HN hq HAT
              go_wp2_with fail
              go_roundw
              case rel => exact ⟨j + 1, by omega, by go_num, by rw [HS2.out]; exact hO4, hb5⟩
              case measure => simp [intOf]; omega
          · have HS2 : Hid (rdTo l k (j + 1) = rdTo l k j) := Lib.hid (by rw [HS.out, if_neg (fun h => d1 h.1)])
            have d1' : (xk == (k : Int)) = false := by simpa using d1
            clear HS HN hq HAT d1
            go_wp2_with fail
            go_roundw
            case rel => exact ⟨j + 1, by omega, by go_num, by rw [HS2.out]; exact hO4, hb5⟩
            case measure => simp [intOf]; omega
        · have hj2 : j = l.length := by omega
          subst hj2
          have HU := Lib.hid (upTo_succ (rdK l) k)
          rw [rdTo_all] at hO2
          rw [← HU.out] at hO2
          go_wp2_with fail
          go_roundw
          case rel => exact ⟨k + 1, by omega, by go_num, hO2, hb2⟩
          case measure => simp [intOf]; omega
    · have hk2 : k = 64 := by omega
      subst hk2
      go_wp2_with fail
      go_ret
      exact ⟨_, rfl, hO, hb⟩
end Go.Proofs.Ytlkdojcimlfmdaa
