/- The walk of the reference's Writes. Conditions: a slice's cells are known. -/
import Derived.Test.YtlkdojcimlfmdaaTxnJ
namespace Go.Proofs.Ytlkdojcimlfmdaa
set_option maxRecDepth 100000
open Go.RowKit

/-- The place of the last write so far. -/
def LastAt (l : List OpV) (k j : Nat) (i : Int) : Prop := (i = -1 ∧ lastW (l.take j) k = none) ∨ ∃ p : Nat, ∃ h : p < l.length, i = p ∧ lastW (l.take j) k = some l[p]
theorem LastAt.yes {l : List OpV} {k j : Nat} (h : j < l.length) (h1 : l[j].key = k) (h2 : l[j].wr = true) : LastAt l k (j + 1) j :=
  .inr ⟨j, h, rfl, by rw [take_snoc l j h, lastW_snoc, if_pos h2, h1, putF_same]⟩
theorem LastAt.no {l : List OpV} {k j : Nat} {i : Int} (hL : LastAt l k j i) (h : j < l.length) (h1 : ¬ (l[j].key = k ∧ l[j].wr = true)) : LastAt l k (j + 1) i := by
  have e : lastW (l.take (j + 1)) k = lastW (l.take j) k := by
    rw [take_snoc l j h, lastW_snoc]
    cases hw : l[j].wr
    · rfl
    · simp only [if_true]; rw [putF_other]; exact fun e => h1 ⟨e.symm, hw⟩
  unfold LastAt at *
  rw [e]; exact hL
set_option maxHeartbeats 8000000 in
theorem rwrites_any (va : Value) (l : List OpV) (w : World) (ha : Ops w va l) :
    Calls Try.prog 25 #[va] w fun e w' => ∃ v, e = .returned v ∧ Own w' w.heap.size v (refWrites l) ∧ Below w.heap.size w w' := by
  obtain ⟨i0, hi, hz0, hz1, hz2⟩ := info_parts infoOp
  obtain ⟨ao, cap, rfl, hal⟩ := ha.form
  have hb0 := (Below.refl w.heap.size w).alloc (Nat.le_refl _) (.cells #[] 31)
  have hO0 := Own.lit0 w
  go_enter Try.func25, Try.ntmps25
  go_wp2_with fail
  go_loopw [3, 4] (fun v i wr => ∃ k : Nat, k ≤ 64 ∧ i = .int .i64 k ∧ Own wr w.heap.size v (upTo (wrK l) k) ∧ Below w.heap.size w wr) (fun _ i _ => 64 - (intOf i).toNat)
  case atStart => exact ⟨0, by omega, rfl, hO0, hb0⟩
  case round =>
    obtain ⟨k, hk, rfl, hO, hb⟩ := hrel
    clear hb0 hO0
    have hszr := hb.size
    by_cases hlt : k < 64
    · have hki : (k : Int) < 64 := by omega
      have hlenk := upTo_len (wrK l) k
      go_wp2_with fail
      go_loopw [5, 6] (fun v i wx => ∃ (j : Nat) (p : Int), j ≤ l.length ∧ i = .int .i64 j ∧ v = .int .i64 p ∧ LastAt l k j p ∧ wr = wx) (fun _ i _ => l.length - (intOf i).toNat)
      case atStart => exact ⟨0, -1, by omega, rfl, rfl, .inl ⟨rfl, rfl⟩, rfl⟩
      case round =>
        obtain ⟨j, p, hj, rfl, rfl, hL, rfl⟩ := hrel
        by_cases hltj : j < l.length
        · have hkj : (j : Int) < (l.length : Int) := by omega
          obtain ⟨g, o, hao, c0, c1, c2⟩ := (ha.below hb).at hltj
          cases hao
          have HY := Lib.hid (fun h1 h2 => LastAt.yes (k := k) hltj h1 h2)
          have HN := Lib.hid (fun h => hL.no hltj h)
          generalize l[j] = x at *
          obtain ⟨xw, xk, xv⟩ := x
          try simp only at c0 c1 c2
          clear hL
          by_cases d1 : xk = k
          · cases xw
            · have H := Lib.hid (HN.out (fun h => by cases h.2))
              subst d1
              clear HY HN
              go_wp2_with fail
              go_roundw
              case rel => exact ⟨j + 1, p, by omega, by go_num, rfl, H.out, by first | rfl | trivial⟩
              case measure => simp [intOf]; omega
            · have H := Lib.hid (HY.out d1 rfl)
              subst d1
              clear HY HN
              go_wp2_with fail
              go_roundw
              case rel => exact ⟨j + 1, j, by omega, by go_num, rfl, H.out, by first | rfl | trivial⟩
              case measure => simp [intOf]; omega
          · have H := Lib.hid (HN.out (fun h => d1 h.1))
            have d1' : (xk == (k : Int)) = false := by simpa using d1
            clear HY HN d1
            go_wp2_with fail
            go_roundw
            case rel => exact ⟨j + 1, p, by omega, by go_num, rfl, H.out, by first | rfl | trivial⟩
            case measure => simp [intOf]; omega
        · have hj2 : j = l.length := by omega
          subst hj2
          have HU := Lib.hid (upTo_succ (wrK l) k)
          rcases hL with ⟨rfl, hN⟩ | ⟨q, hq, rfl, hS⟩
          · rw [List.take_length] at hN
            have H : Hid (upTo (wrK l) (k + 1) = upTo (wrK l) k) := Lib.hid (by rw [HU.out, show wrK l k = none from hN]; simp)
            clear HU hN
            go_wp2_with fail
            go_roundw
            case rel => exact ⟨k + 1, by omega, by go_num, by rw [H.out]; exact hO, hb⟩
            case measure => simp [intOf]; omega
          · rw [List.take_length] at hS
            have H : Hid (upTo (wrK l) (k + 1) = upTo (wrK l) k ++ [l[q]]) := Lib.hid (by rw [HU.out, show wrK l k = some l[q] from hS]; simp)
            have hqi : (q : Int) < (l.length : Int) := by omega
            obtain ⟨g, o, hao, c0, c1, c2⟩ := (ha.below hb).at hq
            cases hao
            clear HU hS
            generalize l[q] = x at *
            obtain ⟨xw, xk, xv⟩ := x
            try simp only at c0 c1 c2
            have hlit := opLit wr 0 ⟨xw, xk, xv⟩ (Nat.zero_le _)
            go_wp2_with (first | (at_builtin; refine wpList_append_row rfl _ _ 27 rfl w.heap.size 31 i0 (.agg #[.bool false, .int .i64 0, .int .i64 0]) 3 24 Try.underlying27 hi hz0 hz1 hz2 rfl (by decide) _ _ _ rfl (World.ownsRow.alloc hO _) _ 1 _ rfl (Row.of_owns hlit) ?d1 ?d2 ?d3 ?d4 ?_) | go_in)
            case d1 => exact opV_one _
            case d2 => unfold maxLen; omega
            case d3 => omega
            case d4 => first | omega | (simp; omega)
            intro v6 w6 hown6 hg6
            clear hlit
            have hO5 : Own _ _ _ (upTo (wrK l) k ++ [⟨xw, xk, xv⟩]) := ⟨by rw [opV_len], by rw [opV_app]; simpa using hown6.2⟩
            have hb6 := below_own (hb.alloc hb.size (.cells #[.bool xw, .int .i64 xk, .int .i64 xv] 31)) (World.ownsRow.alloc hO (.cells #[.bool xw, .int .i64 xk, .int .i64 xv] 31)) (Nat.le_refl _) hg6
            clear hown6 hg6 hb hO
            go_wp2_with fail
            go_roundw
            case rel => exact ⟨k + 1, by omega, by go_num, by rw [H.out]; exact hO5, hb6⟩
            case measure => simp [intOf]; omega
    · have hk2 : k = 64 := by omega
      subst hk2
      go_wp2_with fail
      go_ret
      exact ⟨_, rfl, hO, hb⟩
end Go.Proofs.Ytlkdojcimlfmdaa
