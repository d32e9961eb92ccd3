/- The walks of Reads and of Writes. Conditions: a slice's cells are known, and hold operations of ints; there are at most 100000. -/
import Derived.Test.YtlkdojcimlfmdaaTxnG
namespace Go.Proofs.Ytlkdojcimlfmdaa
set_option maxRecDepth 100000
open Go.RowKit

theorem MapI.le {α : Type} {e : α → Value} {P : Program} {k : TypeId} {w : World} {b n : Nat} {f : Int → Option α} {c : Nat} (h : MapI e P k w b n f c) : c ≤ n := by
  obtain ⟨D, h, hs, _⟩ := h
  have := h.size_le
  omega
set_option maxHeartbeats 4000000 in
theorem reads_any (s b c : Int) (va : Value) (l : List OpV) (w : World) (ha : Ops w va l) (hok : ∀ o ∈ l, o.ok) (hlen : l.length ≤ 100000) :
    Calls Try.prog 67 #[.agg #[.int .i64 s, .int .i64 b, .int .i64 c, va]] w fun e w' => ∃ v out, e = .returned v ∧ Own w' w.heap.size v out ∧ Rise (firstO l) false out ∧ out.length ≤ l.length ∧ Below w.heap.size w w' := by
  obtain ⟨ao, cap, rfl, hal⟩ := ha.form
  have HOK := Lib.hid hok
  clear hok
  have hb0 := (Below.refl w.heap.size w).alloc (Nat.le_refl _) (.cells #[.int .i64 s, .int .i64 b, .int .i64 c, .slice ao l.length cap] 29)
  have hm0 := MapI.made eO Try.prog 3 (w.alloc (.cells #[.int .i64 s, .int .i64 b, .int .i64 c, .slice ao l.length cap] 29))
  have hb1 := hb0.alloc hb0.size (.map #[] 0)
  have hmm := @run_makeMap Try.prog
  rw [show (w.alloc (.cells #[.int .i64 s, .int .i64 b, .int .i64 c, .slice ao l.length cap] 29)).heap.size = w.heap.size + 1 from by simp] at hm0
  go_enter Try.func67, Try.ntmps67
  go_wp2_with fail
  go_loopw [12] (fun i wr => ∃ k cnt : Nat, k ≤ l.length ∧ i = .int .i64 k ∧ MapI eO Try.prog 3 wr (w.heap.size + 1) k (firstO (l.take k)) cnt ∧ Below w.heap.size w wr) (fun i _ => l.length - (intOf i).toNat)
  case atStart => exact ⟨0, 0, by omega, rfl, hm0, hb1⟩
  case round =>
    obtain ⟨k, cnt, hk, rfl, hM, hb⟩ := hrel
    clear hm0 hb0 hb1
    by_cases hlt : k < l.length
    · have hki : (k : Int) < (l.length : Int) := by omega
      obtain ⟨g, o, hao, c0, c1, c2⟩ := (ha.below hb).at hlt
      cases hao
      have HS : Hid (firstO (l.take (k + 1)) = if (firstO (l.take k) l[k].key).isSome then firstO (l.take k) else putF (firstO (l.take k)) l[k].key l[k]) := Lib.hid (by rw [take_snoc l k hlt, firstO_snoc])
      have hox := HOK.out l[k] (List.getElem_mem hlt)
      have hkey := inI_of hox.1
      generalize l[k] = x at *
      obtain ⟨wr', key, val⟩ := x
      simp only at c0 c1 c2 hkey
      have hM1 := hM.alloc (.cells #[.bool wr', .int .i64 key, .int .i64 val] 31)
      have hbb := hb.alloc hb.size (.cells #[.bool wr', .int .i64 key, .int .i64 val] 31)
      have hszb := hb.size
      clear hox hM hb
      cases hv : firstO (l.take k) key with
      | none =>
        simp only [hv, Option.isSome_none, Bool.false_eq_true, if_false] at HS
        have hM2 := hM1.alloc (.cells #[.bool false, .int .i64 0, .int .i64 0] 31)
        have hb2 := hbb.alloc hbb.size (.cells #[.bool false, .int .i64 0, .int .i64 0] 31)
        go_wp2_with (first | (at_lookup; refine wpList_lookI_ok _ rfl _ _ 94 rfl 3 31 keyI mapIO opZ (zeroO _) _ _ _ _ rfl hM1 _ rfl hkey ?_; rw [hv]; simp only [Option.getD_none, Option.isSome_none, eO, OpV.v, opZ]) | (at_mapUpdate; refine wpList_putI _ rfl _ _ _ 94 rfl 3 31 keyI mapIO _ _ _ _ rfl hM2 (by unfold maxLen; omega) _ rfl hkey ⟨wr', key, val⟩ rfl ?_; intro w1 hM3 hg; go_frame) | go_in)
        have hb3 := hb2.grown hg hb2.size (fun j hj => by cases hj; omega)
        go_wp2_with fail
        go_roundw
        case rel => exact ⟨k + 1, _, by omega, by go_num, by rw [HS.out]; exact hM3, hb3⟩
        case measure => simp [intOf]; omega
      | some v =>
        simp only [hv, Option.isSome_some, if_true] at HS
        obtain ⟨vw, vk, vv⟩ := v
        have hM2 := hM1.alloc (.cells #[.bool vw, .int .i64 vk, .int .i64 vv] 31)
        have hb2 := hbb.alloc hbb.size (.cells #[.bool vw, .int .i64 vk, .int .i64 vv] 31)
        go_wp2_with (first | (at_lookup; refine wpList_lookI_ok _ rfl _ _ 94 rfl 3 31 keyI mapIO opZ (zeroO _) _ _ _ _ rfl hM1 _ rfl hkey ?_; rw [hv]; simp only [Option.getD_some, Option.isSome_some, eO, OpV.v]) | go_in)
        go_roundw
        case rel => exact ⟨k + 1, _, by omega, by go_num, by rw [HS.out]; exact hM2.mono (by omega), hb2⟩
        case measure => simp [intOf]; omega
    · have hkl : k = l.length := by omega
      subst hkl
      rw [List.take_length] at hM
      have HR := Lib.hid (rising_any (w.heap.size + 1) l.length cnt (firstO l) false wr hM (fun x o h => ⟨(firstO_key h).1, inI_of (by rw [← (firstO_key h).1]; exact (HOK.out o (firstO_key h).2).1)⟩) (Nat.le_trans hM.le hlen))
      have hcl := hM.le
      clear hM
      go_wp2_with fail
      refine (HR.out).mono ?_
      rintro e w1 ⟨v, out, rfl, hO, hR, hl, hb1⟩
      have hb2 := below_then hb hb1
      have hO2 := Lib.hid (hO.base hb.size)
      have HRise := Lib.hid hR
      clear hO hb1 hb HR hR
      go_wp2_with fail
      go_ret
      exact ⟨_, _, rfl, hO2.out, HRise.out, by omega, hb2⟩
set_option maxHeartbeats 4000000 in
theorem writes_any (s b c : Int) (va : Value) (l : List OpV) (w : World) (ha : Ops w va l) (hok : ∀ o ∈ l, o.ok) (hlen : l.length ≤ 100000) :
    Calls Try.prog 62 #[.agg #[.int .i64 s, .int .i64 b, .int .i64 c, va]] w fun e w' => ∃ v out, e = .returned v ∧ Own w' w.heap.size v out ∧ Rise (lastW l) true out ∧ out.length ≤ l.length ∧ Below w.heap.size w w' := by
  obtain ⟨ao, cap, rfl, hal⟩ := ha.form
  have HOK := Lib.hid hok
  clear hok
  have hb0 := (Below.refl w.heap.size w).alloc (Nat.le_refl _) (.cells #[.int .i64 s, .int .i64 b, .int .i64 c, .slice ao l.length cap] 29)
  have hm0 := MapI.made eO Try.prog 3 (w.alloc (.cells #[.int .i64 s, .int .i64 b, .int .i64 c, .slice ao l.length cap] 29))
  have hb1 := hb0.alloc hb0.size (.map #[] 0)
  have hmm := @run_makeMap Try.prog
  rw [show (w.alloc (.cells #[.int .i64 s, .int .i64 b, .int .i64 c, .slice ao l.length cap] 29)).heap.size = w.heap.size + 1 from by simp] at hm0
  go_enter Try.func62, Try.ntmps62
  go_wp2_with fail
  go_loopw [10] (fun i wr => ∃ k cnt : Nat, k ≤ l.length ∧ i = .int .i64 k ∧ MapI eO Try.prog 3 wr (w.heap.size + 1) k (lastW (l.take k)) cnt ∧ Below w.heap.size w wr) (fun i _ => l.length - (intOf i).toNat)
  case atStart => exact ⟨0, 0, by omega, rfl, hm0, hb1⟩
  case round =>
    obtain ⟨k, cnt, hk, rfl, hM, hb⟩ := hrel
    clear hm0 hb0 hb1
    by_cases hlt : k < l.length
    · have hki : (k : Int) < (l.length : Int) := by omega
      obtain ⟨g, o, hao, c0, c1, c2⟩ := (ha.below hb).at hlt
      cases hao
      have HS : Hid (lastW (l.take (k + 1)) = if l[k].wr then putF (lastW (l.take k)) l[k].key l[k] else lastW (l.take k)) := Lib.hid (by rw [take_snoc l k hlt, lastW_snoc])
      have hox := HOK.out l[k] (List.getElem_mem hlt)
      have hkey := inI_of hox.1
      generalize l[k] = x at *
      obtain ⟨wr', key, val⟩ := x
      simp only at c0 c1 c2 hkey
      have hM1 := hM.alloc (.cells #[.bool wr', .int .i64 key, .int .i64 val] 31)
      have hbb := hb.alloc hb.size (.cells #[.bool wr', .int .i64 key, .int .i64 val] 31)
      have hszb := hb.size
      clear hox hM hb
      cases wr' with
      | false =>
        simp only [Bool.false_eq_true, if_false] at HS
        go_wp2_with fail
        go_roundw
        case rel => exact ⟨k + 1, _, by omega, by go_num, by rw [HS.out]; exact hM1.mono (by omega), hbb⟩
        case measure => simp [intOf]; omega
      | true =>
        simp only [if_true] at HS
        go_wp2_with (first | (at_mapUpdate; refine wpList_putI _ rfl _ _ _ 94 rfl 3 31 keyI mapIO _ _ _ _ rfl hM1 (by unfold maxLen; omega) _ rfl hkey ⟨true, key, val⟩ rfl ?_; intro w1 hM3 hg; go_frame) | go_in)
        have hb3 := hbb.grown hg hbb.size (fun j hj => by cases hj; omega)
        go_wp2_with fail
        go_roundw
        case rel => exact ⟨k + 1, _, by omega, by go_num, by rw [HS.out]; exact hM3, hb3⟩
        case measure => simp [intOf]; omega
    · have hkl : k = l.length := by omega
      subst hkl
      rw [List.take_length] at hM
      have HR := Lib.hid (rising_any (w.heap.size + 1) l.length cnt (lastW l) true wr hM (fun x o h => ⟨(lastW_key h).1, inI_of (by rw [← (lastW_key h).1]; exact (HOK.out o (lastW_key h).2.2).1)⟩) (Nat.le_trans hM.le hlen))
      have hcl := hM.le
      clear hM
      go_wp2_with fail
      refine (HR.out).mono ?_
      rintro e w1 ⟨v, out, rfl, hO, hR, hl, hb1⟩
      have hb2 := below_then hb hb1
      have hO2 := Lib.hid (hO.base hb.size)
      have HRise := Lib.hid hR
      clear hO hb1 hb HR hR
      go_wp2_with fail
      go_ret
      exact ⟨_, _, rfl, hO2.out, HRise.out, by omega, hb2⟩
end Go.Proofs.Ytlkdojcimlfmdaa
