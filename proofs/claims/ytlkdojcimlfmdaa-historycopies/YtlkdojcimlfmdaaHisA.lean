/- Walks: how many operations transactions have, whether there are too many to look at. Conditions: a slice's cells are known. -/
import Derived.Test.YtlkdojcimlfmdaaTxZ
import Derived.Test.YtlkdojcimlfmdaaTxnL
namespace Go.Proofs.Ytlkdojcimlfmdaa
set_option maxRecDepth 100000
open Go.RowKit

theorem wrap64_small {a : Int} (h1 : -9223372036854775808 ≤ a) (h2 : a ≤ 9223372036854775807) : wrap64 a = a := by unfold wrap64; omega
/-- How many operations some transactions have. -/
def opsN (h : List TxnV) : Nat := (h.map fun t => t.l.length).sum
theorem opsN_snoc (h : List TxnV) (t : TxnV) : opsN (h ++ [t]) = opsN h + t.l.length := by unfold opsN; simp
theorem opsN_take (h : List TxnV) (k : Nat) (hk : k < h.length) : opsN (h.take (k + 1)) = opsN (h.take k) + h[k].l.length := by
  rw [List.take_succ_eq_append_getElem hk, opsN_snoc]
theorem opsN_le (h : List TxnV) (k : Nat) : opsN (h.take k) ≤ opsN h := by
  have : opsN h = opsN (h.take k) + opsN (h.drop k) := by
    unfold opsN; rw [← List.sum_append, ← List.map_append, List.take_append_drop]
  omega
theorem opsN_at (h : List TxnV) (k : Nat) (hk : k < h.length) : h[k].l.length ≤ opsN h := by
  have h1 := opsN_take h k hk
  have h2 := opsN_le h (k + 1)
  omega
/-- Each of them has fewer operations than memory holds. -/
def Short (h : List TxnV) : Prop := ∀ t ∈ h, t.l.length ≤ 6000000000000
def bigI (h : List TxnV) : Int := if 100 < h.length ∨ 1200 < opsN h then 1 else 0
theorem ret_int {a b : Int} (h : a = b) : Ending.returned (.int .i64 a) = .returned (.int .i64 b) := by rw [h]
set_option maxHeartbeats 4000000 in
theorem hops_any (va : Value) (h : List TxnV) (w : World) (hT : Txns w va h) (hn : opsN h ≤ 4611686018427387904) :
    Calls Try.prog 32 #[va] w fun e w' => e = .returned (.int .i64 (opsN h)) ∧ Below w.heap.size w w' := by
  obtain ⟨ao, cap, rfl, hal⟩ := hT.form
  go_enter Try.func32, Try.ntmps32
  go_wp2_with fail
  go_loopw [3, 8] (fun n i wr => ∃ k : Nat, k ≤ h.length ∧ i = .int .i64 k ∧ n = .int .i64 (opsN (h.take k)) ∧ Below w.heap.size w wr) (fun _ i _ => h.length - (intOf i).toNat)
  case atStart => exact ⟨0, by omega, rfl, by simp [opsN], Below.refl _ _⟩
  case round =>
    obtain ⟨k, hk, rfl, rfl, hb⟩ := hrel
    by_cases hlt : k < h.length
    · have hki : (k : Int) < (h.length : Int) := by omega
      obtain ⟨g, o, hao, c0, c1, c2, c3⟩ := (hT.below hb).at hlt
      cases hao
      have HS := Lib.hid (opsN_take h k hlt)
      have hle := opsN_le h (k + 1)
      rw [HS.out] at hle
      obtain ⟨ai, capi, hv, hli⟩ := (hT.ops hlt).form
      rw [hv] at c3
      have hbb := hb.alloc hb.size (.cells #[.int .i64 h[k].s, .int .i64 h[k].b, .int .i64 h[k].c, .slice ai h[k].l.length capi] 29)
      generalize h[k].l.length = m at *
      generalize h[k].s = s at *
      generalize h[k].b = b at *
      generalize h[k].c = c at *
      generalize opsN (h.take k) = n at *
      clear hv hT
      go_wp2_with fail
      go_roundw
      case rel => exact ⟨k + 1, by omega, by go_num, by rw [HS.out]; go_num, hbb⟩
      case measure => simp [intOf]; omega
    · have hkl : k = h.length := by omega
      subst hkl
      have H : Hid ((opsN (h.take h.length) : Int) = opsN h) := Lib.hid (by rw [List.take_length])
      generalize opsN (h.take h.length) = n at *
      go_wp2_with fail
      go_ret
      exact ⟨ret_int H.out, hb⟩
set_option maxHeartbeats 4000000 in
theorem count_any (va : Value) (h : List TxnV) (w : World) (hT : Txns w va h) (hn : opsN h ≤ 4611686018427387904) :
    Calls Try.prog 49 #[va] w fun e w' => e = .returned (.int .i64 (opsN h)) ∧ Below w.heap.size w w' := by
  obtain ⟨ao, cap, rfl, hal⟩ := hT.form
  go_enter Try.func49, Try.ntmps49
  go_wp2_with fail
  go_loopw [3, 4] (fun n i wr => ∃ k : Nat, k ≤ h.length ∧ i = .int .i64 k ∧ n = .int .i64 (opsN (h.take k)) ∧ w = wr) (fun _ i _ => h.length - (intOf i).toNat)
  case atStart => exact ⟨0, by omega, rfl, by simp [opsN], rfl⟩
  case round =>
    obtain ⟨k, hk, rfl, rfl, rfl⟩ := hrel
    by_cases hlt : k < h.length
    · have hki : (k : Int) < (h.length : Int) := by omega
      obtain ⟨g, o, hao, c0, c1, c2, c3⟩ := hT.at hlt
      cases hao
      have HS := Lib.hid (opsN_take h k hlt)
      have hle := opsN_le h (k + 1)
      rw [HS.out] at hle
      obtain ⟨ai, capi, hv, hli⟩ := (hT.ops hlt).form
      rw [hv] at c3
      generalize h[k].l.length = m at *
      generalize opsN (h.take k) = n at *
      clear hv c0 c1 c2
      go_wp2_with fail
      go_roundw
      case rel => exact ⟨k + 1, by omega, by go_num, by rw [HS.out]; go_num, by first | rfl | trivial⟩
      case measure => simp [intOf]; omega
    · have hkl : k = h.length := by omega
      subst hkl
      have H : Hid ((opsN (h.take h.length) : Int) = opsN h) := Lib.hid (by rw [List.take_length])
      generalize opsN (h.take h.length) = n at *
      go_wp2_with fail
      go_ret
      exact ⟨ret_int H.out, Below.refl _ _⟩
set_option maxHeartbeats 4000000 in
theorem big_any (va : Value) (h : List TxnV) (w : World) (hT : Txns w va h) (hsh : Short h) :
    Calls Try.prog 8 #[va] w fun e w' => e = .returned (.int .i64 (bigI h)) ∧ Below w.heap.size w w' := by
  obtain ⟨ao, cap, rfl, hal⟩ := hT.form
  by_cases hbig : 100 < h.length
  · have hbig' : (100 : Int) < (h.length : Int) := by omega
    have H : Hid ((1 : Int) = bigI h) := Lib.hid (by unfold bigI; rw [if_pos (.inl hbig)])
    go_enter Try.func8, Try.ntmps8
    go_wp2_with fail
    go_ret
    exact ⟨ret_int H.out, Below.refl _ _⟩
  have hbf : decide ((100 : Int) < (h.length : Int)) = false := by simp; omega
  go_enter Try.func8, Try.ntmps8
  go_wp2_with fail
  clear hbf
  go_loopw [3, 11] (fun n i wr => ∃ k : Nat, k ≤ h.length ∧ i = .int .i64 k ∧ n = .int .i64 (opsN (h.take k)) ∧ opsN (h.take k) ≤ 1200 ∧ Below w.heap.size w wr) (fun _ i _ => h.length - (intOf i).toNat)
  case atStart => exact ⟨0, by omega, rfl, by simp [opsN], by simp [opsN], Below.refl _ _⟩
  case round =>
    obtain ⟨k, hk, rfl, rfl, hle, hb⟩ := hrel
    by_cases hlt : k < h.length
    · have hki : (k : Int) < (h.length : Int) := by omega
      obtain ⟨g, o, hao, c0, c1, c2, c3⟩ := (hT.below hb).at hlt
      cases hao
      have HS := Lib.hid (opsN_take h k hlt)
      have hle2 := opsN_le h (k + 1)
      have hst := HS.out
      have HB : Hid (1200 < opsN (h.take k) + h[k].l.length → (1 : Int) = bigI h) := Lib.hid (fun hh => by unfold bigI; rw [if_pos (.inr (by omega))])
      clear hst
      obtain ⟨ai, capi, hv, _⟩ := (hT.ops hlt).form
      have hli := hsh _ (List.getElem_mem hlt)
      rw [hv] at c3
      have hbb := hb.alloc hb.size (.cells #[.int .i64 h[k].s, .int .i64 h[k].b, .int .i64 h[k].c, .slice ai h[k].l.length capi] 29)
      generalize h[k].l.length = m at *
      generalize h[k].s = s at *
      generalize h[k].b = b at *
      generalize h[k].c = c at *
      generalize opsN (h.take k) = n at *
      clear hv hT hle2
      have hwr : wrap64 ((n : Int) + (m : Int)) = (n : Int) + (m : Int) := wrap64_small (by omega) (by omega)
      by_cases hover : 1200 < n + m
      · have H := Lib.hid (HB.out hover)
        have ho' : (1200 : Int) < (n : Int) + (m : Int) := by omega
        clear HB
        go_wp2_with fail
        go_ret
        exact ⟨ret_int H.out, hbb⟩
      · have ho' : ¬ (1200 : Int) < (n : Int) + (m : Int) := by omega
        go_wp2_with fail
        go_roundw
        case rel => exact ⟨k + 1, by omega, by go_num, by rw [HS.out]; go_num, by rw [HS.out]; omega, hbb⟩
        case measure => simp [intOf]; omega
    · have hkl : k = h.length := by omega
      subst hkl
      have H : Hid ((0 : Int) = bigI h) := Lib.hid (by rw [List.take_length] at hle; unfold bigI; rw [if_neg (by omega)])
      generalize opsN (h.take h.length) = n at *
      go_wp2_with fail
      go_ret
      exact ⟨ret_int H.out, hb⟩
end Go.Proofs.Ytlkdojcimlfmdaa
