/- The walk of Steady. Conditions: a slice's cells are known, and hold operations of ints. -/
import Derived.Test.YtlkdojcimlfmdaaTxnM
namespace Go.Proofs.Ytlkdojcimlfmdaa
set_option maxRecDepth 100000
open Go.RowKit

theorem keyI : Try.prog.underlying 3 = some (.int .i64) := Try.underlying3
theorem mapII : Try.prog.underlying 98 = some (.map 3 3) := Try.underlying98
theorem zeroI (w : World) : (zeroValue 3).run Try.prog w = .ok (eI 0) w := by kernel_rfl
theorem txnBlock (w : World) (x y z u : Value) (t : TypeId) : (w.alloc (.cells #[x, y, z, u] t)).cell? ⟨w.heap.size, 0, none⟩ = some x ∧ (w.alloc (.cells #[x, y, z, u] t)).cell? ⟨w.heap.size, 1, none⟩ = some y ∧ (w.alloc (.cells #[x, y, z, u] t)).cell? ⟨w.heap.size, 2, none⟩ = some z ∧ (w.alloc (.cells #[x, y, z, u] t)).cell? ⟨w.heap.size, 3, none⟩ = some u := by
  refine ⟨?_, ?_, ?_, ?_⟩ <;> simp
/-- The values that operations have last. -/
def valO (l : List OpV) : Int → Option Int := fun x => (lastO l x).map (·.val)
theorem valO_snoc (l : List OpV) (o : OpV) : valO (l ++ [o]) = putF (valO l) o.key o.val := by
  funext y
  unfold valO
  rw [lastO_snoc]
  unfold putF
  split <;> rfl
theorem valO_none {l : List OpV} {x : Int} (h : valO l x = none) : lastO l x = none := by
  unfold valO at h; simpa using h
theorem valO_some {l : List OpV} {x v : Int} (h : valO l x = some v) : ∃ p, lastO l x = some p ∧ p.val = v := by
  unfold valO at h; simpa using h
theorem all_snoc {p : Nat → Prop} {k : Nat} (h : ∀ j, j < k → p j) (hk : p k) : ∀ j, j < k + 1 → p j := fun j hj => by
  rcases Nat.lt_or_eq_of_le (Nat.le_of_lt_succ hj) with h1 | rfl
  · exact h j h1
  · exact hk
set_option maxHeartbeats 4000000 in
theorem steady_any (s b c : Int) (va : Value) (l : List OpV) (w : World) (ha : Ops w va l) (hok : ∀ o ∈ l, o.ok) (hlen : l.length ≤ 100000) :
    Calls Try.prog 68 #[.agg #[.int .i64 s, .int .i64 b, .int .i64 c, va]] w fun e w' => e = .returned (.bool (steadyL l)) ∧ Below w.heap.size w w' := by
  obtain ⟨ao, cap, rfl, hal⟩ := ha.form
  have HOK := Lib.hid hok
  clear hok
  have hb0 := (Below.refl w.heap.size w).alloc (Nat.le_refl _) (.cells #[.int .i64 s, .int .i64 b, .int .i64 c, .slice ao l.length cap] 29)
  have hm0 := MapI.made eI Try.prog 3 (w.alloc (.cells #[.int .i64 s, .int .i64 b, .int .i64 c, .slice ao l.length cap] 29))
  have hb1 := hb0.alloc hb0.size (.map #[] 0)
  have hmm := @run_makeMap Try.prog
  go_enter Try.func68, Try.ntmps68
  rw [show (w.alloc (.cells #[.int .i64 s, .int .i64 b, .int .i64 c, .slice ao l.length cap] 29)).heap.size = w.heap.size + 1 from by simp] at hm0
  go_wp2_with fail
  go_loopw [12] (fun i wr => ∃ k cnt : Nat, k ≤ l.length ∧ i = .int .i64 k ∧ (∀ j, j < k → stOk l j = true) ∧ MapI eI Try.prog 3 wr (w.heap.size + 1) k (valO (l.take k)) cnt ∧ Below w.heap.size w wr) (fun i _ => l.length - (intOf i).toNat)
  case atStart => exact ⟨0, 0, by omega, rfl, by omega, hm0, hb1⟩
  case round =>
    obtain ⟨k, cnt, hk, rfl, hst, hM, hb⟩ := hrel
    have HST := Lib.hid hst
    clear hst hm0 hb0 hb1
    by_cases hlt : k < l.length
    · have hki : (k : Int) < (l.length : Int) := by omega
      obtain ⟨g, o, hao, c0, c1, c2⟩ := (ha.below hb).at hlt
      cases hao
      have HV : Hid (valO (l.take (k + 1)) = putF (valO (l.take k)) l[k].key l[k].val) := Lib.hid (by rw [take_snoc l k hlt, valO_snoc])
      have HS := Lib.hid (stOk_at hlt)
      have HNO := Lib.hid (fun h => steadyL_no hlt h)
      have hox := HOK.out l[k] (List.getElem_mem hlt)
      have hkey := inI_of hox.1
      generalize l[k] = x at *
      obtain ⟨wr', key, val⟩ := x
      simp only at c0 c1 c2 hkey
      have hM1 := hM.alloc (.cells #[.bool wr', .int .i64 key, .int .i64 val] 31)
      have hbb := hb.alloc hb.size (.cells #[.bool wr', .int .i64 key, .int .i64 val] 31)
      clear hox
      cases hv : valO (l.take k) key with
      | none =>
        have H : Hid (stOk l k = true) := Lib.hid (by rw [HS.out, valO_none hv])
        clear HNO
        go_wp2_with (first | (at_lookup; refine wpList_lookI_ok _ rfl _ _ 98 rfl 3 3 keyI mapII 0 (zeroI _) _ _ _ _ rfl hM1 _ rfl hkey ?_; rw [hv]) | (at_mapUpdate; refine wpList_putI _ rfl _ _ _ 98 rfl 3 3 keyI mapII _ _ _ _ rfl hM1 (by unfold maxLen; omega) _ rfl hkey val rfl ?_; intro w1 hM2 hg; go_frame) | go_in)
        have hb2 := hbb.grown hg hbb.size (fun j hj => by cases hj; omega)
        go_wp2_with fail
        go_roundw
        case rel => exact ⟨k + 1, _, by omega, by go_num, all_snoc HST.out H.out, by rw [HV.out]; exact hM2, hb2⟩
        case measure => simp [intOf]; omega
      | some v =>
        obtain ⟨p, hp, hpv⟩ := valO_some hv
        have HSP : Hid (stOk l k = (wr' || val == v)) := Lib.hid (by rw [HS.out, hp, ← hpv])
        clear HS hp hpv
        cases wr'
        · by_cases hvv : val = v
          · have H : Hid (stOk l k = true) := Lib.hid (by rw [HSP.out, hvv]; simp)
            have hne : (val != v) = false := by simp [hvv]
            clear HNO HSP hvv
            go_wp2_with (first | (at_lookup; refine wpList_lookI_ok _ rfl _ _ 98 rfl 3 3 keyI mapII 0 (zeroI _) _ _ _ _ rfl hM1 _ rfl hkey ?_; rw [hv]; simp only [Option.getD_some, Option.isSome_some, eI]) | (at_mapUpdate; refine wpList_putI _ rfl _ _ _ 98 rfl 3 3 keyI mapII _ _ _ _ rfl hM1 (by unfold maxLen; omega) _ rfl hkey val rfl ?_; intro w1 hM2 hg; go_frame) | go_in)
            have hb2 := hbb.grown hg hbb.size (fun j hj => by cases hj; omega)
            go_wp2_with fail
            go_roundw
            case rel => exact ⟨k + 1, _, by omega, by go_num, all_snoc HST.out H.out, by rw [HV.out]; exact hM2, hb2⟩
            case measure => simp [intOf]; omega
          · have H : Hid (steadyL l = false) := Lib.hid (HNO.out (by rw [HSP.out]; simpa using hvv))
            have hne : (val != v) = true := by simpa using hvv
            clear HNO HSP hvv
            go_wp2_with (first | (at_lookup; refine wpList_lookI_ok _ rfl _ _ 98 rfl 3 3 keyI mapII 0 (zeroI _) _ _ _ _ rfl hM1 _ rfl hkey ?_; rw [hv]; simp only [Option.getD_some, Option.isSome_some, eI]) | go_in)
            go_ret
            exact ⟨ret_b H.out.symm, hbb⟩
        · have H : Hid (stOk l k = true) := Lib.hid (by rw [HSP.out]; rfl)
          clear HNO HSP
          go_wp2_with (first | (at_lookup; refine wpList_lookI_ok _ rfl _ _ 98 rfl 3 3 keyI mapII 0 (zeroI _) _ _ _ _ rfl hM1 _ rfl hkey ?_; rw [hv]; simp only [Option.getD_some, Option.isSome_some, eI]) | (at_mapUpdate; refine wpList_putI _ rfl _ _ _ 98 rfl 3 3 keyI mapII _ _ _ _ rfl hM1 (by unfold maxLen; omega) _ rfl hkey val rfl ?_; intro w1 hM2 hg; go_frame) | go_in)
          have hb2 := hbb.grown hg hbb.size (fun j hj => by cases hj; omega)
          go_wp2_with fail
          go_roundw
          case rel => exact ⟨k + 1, _, by omega, by go_num, all_snoc HST.out H.out, by rw [HV.out]; exact hM2, hb2⟩
          case measure => simp [intOf]; omega
    · have hkl : k = l.length := by omega
      have H : Hid (steadyL l = true) := Lib.hid (steadyL_all (by rw [← hkl]; exact HST.out))
      go_wp2_with fail
      go_ret
      exact ⟨ret_b H.out.symm, hb⟩
end Go.Proofs.Ytlkdojcimlfmdaa
