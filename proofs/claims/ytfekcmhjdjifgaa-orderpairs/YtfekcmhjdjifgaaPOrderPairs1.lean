/- Walks and plain facts that the proof of the statement OrderPairs uses, joined: HisA HisB HisC HisD HisE OrdB OrdC OrdG OrdH RelM SetF SetG RelA RelC RelB RelD RelE RelF OrdD OrdE. Conditions: each theorem's own. -/
import Derived.Deep.QuietTactic
import Derived.WalkKit
import Derived.BigQuiet
import Derived.StillTailTactics
import Derived.Laws.Tables
import Derived.Laws.CopyOwn
import Derived.Test.YtfekcmhjdjifgaaPOrderPairs0
namespace Go.Proofs.Ytfekcmhjdjifgaa
set_option maxRecDepth 100000
open Go.RowKit

theorem wrap64_small {a : Int} (h1 : -9223372036854775808 ≤ a) (h2 : a ≤ 9223372036854775807) : wrap64 a = a := by unfold wrap64; omega
/-- How many operations some transactions have. -/
def opsN (h : List TxnV) : Nat := (h.map fun t => t.l.length).sum
theorem opsN_snoc (h : List TxnV) (t : TxnV) : opsN (h ++ [t]) = opsN h + t.l.length := by unfold opsN; simp
theorem opsN_take (h : List TxnV) (k : Nat) (hk : k < h.length) : opsN (h.take (k + 1)) = opsN (h.take k) + h[k].l.length := by
  rw [List.take_succ_eq_append_getElem hk, opsN_snoc]
theorem opsN_le (h : List TxnV) (k : Nat) : opsN (h.take k) ≤ opsN h := by
  have : opsN h = opsN (h.take k) + opsN (h.drop k) := by
    unfold opsN; rw [← List.sum_append, ← List.map_append, List.take_append_drop]
  omega
theorem opsN_at (h : List TxnV) (k : Nat) (hk : k < h.length) : h[k].l.length ≤ opsN h := by
  have h1 := opsN_take h k hk
  have h2 := opsN_le h (k + 1)
  omega
/-- Each of them has fewer operations than memory holds. -/
def Short (h : List TxnV) : Prop := ∀ t ∈ h, t.l.length ≤ 6000000000000
def bigI (h : List TxnV) : Int := if 100 < h.length ∨ 1200 < opsN h then 1 else 0
theorem ret_int {a b : Int} (h : a = b) : Ending.returned (.int .i64 a) = .returned (.int .i64 b) := by rw [h]
set_option maxHeartbeats 4000000 in
theorem hops_any (va : Value) (h : List TxnV) (w : World) (hT : Txns w va h) (hn : opsN h ≤ 4611686018427387904) :
    Calls Try.prog 52 #[va] w fun e w' => e = .returned (.int .i64 (opsN h)) ∧ Below w.heap.size w w' := by
  obtain ⟨ao, cap, rfl, hal⟩ := hT.form
  go_enter Try.func52, Try.ntmps52
  go_wp2_with fail
  go_loopw [3, 8] (fun n i wr => ∃ k : Nat, k ≤ h.length ∧ i = .int .i64 k ∧ n = .int .i64 (opsN (h.take k)) ∧ Below w.heap.size w wr) (fun _ i _ => h.length - (intOf i).toNat)
  case atStart => exact ⟨0, by omega, rfl, by simp [opsN], Below.refl _ _⟩
  case round =>
    obtain ⟨k, hk, rfl, rfl, hb⟩ := hrel
    by_cases hlt : k < h.length
    · have hki : (k : Int) < (h.length : Int) := by omega
      obtain ⟨g, o, hao, c0, c1, c2, c3⟩ := (hT.below hb).at hlt
      cases hao
      have HS := Lib.hid (opsN_take h k hlt)
      have hle := opsN_le h (k + 1)
      rw [HS.out] at hle
      obtain ⟨ai, capi, hv, hli⟩ := (hT.ops hlt).form
      rw [hv] at c3
      have hbb := hb.alloc hb.size (.cells #[.int .i64 h[k].s, .int .i64 h[k].b, .int .i64 h[k].c, .slice ai h[k].l.length capi] 46)
      generalize h[k].l.length = m at *
      generalize h[k].s = s at *
      generalize h[k].b = b at *
      generalize h[k].c = c at *
      generalize opsN (h.take k) = n at *
      clear hv hT
      go_wp2_with fail
      go_roundw
      case rel => exact ⟨k + 1, by omega, by go_num, by rw [HS.out]; go_num, hbb⟩
      case measure => simp [intOf]; omega
    · have hkl : k = h.length := by omega
      subst hkl
      have H : Hid ((opsN (h.take h.length) : Int) = opsN h) := Lib.hid (by rw [List.take_length])
      generalize opsN (h.take h.length) = n at *
      go_wp2_with fail
      go_ret
      exact ⟨ret_int H.out, hb⟩
set_option maxHeartbeats 4000000 in
theorem count_any (va : Value) (h : List TxnV) (w : World) (hT : Txns w va h) (hn : opsN h ≤ 4611686018427387904) :
    Calls Try.prog 39 #[va] w fun e w' => e = .returned (.int .i64 (opsN h)) ∧ Below w.heap.size w w' := by
  obtain ⟨ao, cap, rfl, hal⟩ := hT.form
  go_enter Try.func39, Try.ntmps39
  go_wp2_with fail
  go_loopw [3, 4] (fun n i wr => ∃ k : Nat, k ≤ h.length ∧ i = .int .i64 k ∧ n = .int .i64 (opsN (h.take k)) ∧ w = wr) (fun _ i _ => h.length - (intOf i).toNat)
  case atStart => exact ⟨0, by omega, rfl, by simp [opsN], rfl⟩
  case round =>
    obtain ⟨k, hk, rfl, rfl, rfl⟩ := hrel
    by_cases hlt : k < h.length
    · have hki : (k : Int) < (h.length : Int) := by omega
      obtain ⟨g, o, hao, c0, c1, c2, c3⟩ := hT.at hlt
      cases hao
      have HS := Lib.hid (opsN_take h k hlt)
      have hle := opsN_le h (k + 1)
      rw [HS.out] at hle
      obtain ⟨ai, capi, hv, hli⟩ := (hT.ops hlt).form
      rw [hv] at c3
      generalize h[k].l.length = m at *
      generalize opsN (h.take k) = n at *
      clear hv c0 c1 c2
      go_wp2_with fail
      go_roundw
      case rel => exact ⟨k + 1, by omega, by go_num, by rw [HS.out]; go_num, by first | rfl | trivial⟩
      case measure => simp [intOf]; omega
    · have hkl : k = h.length := by omega
      subst hkl
      have H : Hid ((opsN (h.take h.length) : Int) = opsN h) := Lib.hid (by rw [List.take_length])
      generalize opsN (h.take h.length) = n at *
      go_wp2_with fail
      go_ret
      exact ⟨ret_int H.out, Below.refl _ _⟩
set_option maxHeartbeats 4000000 in
theorem big_any (va : Value) (h : List TxnV) (w : World) (hT : Txns w va h) (hsh : Short h) :
    Calls Try.prog 7 #[va] w fun e w' => e = .returned (.int .i64 (bigI h)) ∧ Below w.heap.size w w' := by
  obtain ⟨ao, cap, rfl, hal⟩ := hT.form
  by_cases hbig : 100 < h.length
  · have hbig' : (100 : Int) < (h.length : Int) := by omega
    have H : Hid ((1 : Int) = bigI h) := Lib.hid (by unfold bigI; rw [if_pos (.inl hbig)])
    go_enter Try.func7, Try.ntmps7
    go_wp2_with fail
    go_ret
    exact ⟨ret_int H.out, Below.refl _ _⟩
  have hbf : decide ((100 : Int) < (h.length : Int)) = false := by simp; omega
  go_enter Try.func7, Try.ntmps7
  go_wp2_with fail
  clear hbf
  go_loopw [3, 11] (fun n i wr => ∃ k : Nat, k ≤ h.length ∧ i = .int .i64 k ∧ n = .int .i64 (opsN (h.take k)) ∧ opsN (h.take k) ≤ 1200 ∧ Below w.heap.size w wr) (fun _ i _ => h.length - (intOf i).toNat)
  case atStart => exact ⟨0, by omega, rfl, by simp [opsN], by simp [opsN], Below.refl _ _⟩
  case round =>
    obtain ⟨k, hk, rfl, rfl, hle, hb⟩ := hrel
    by_cases hlt : k < h.length
    · have hki : (k : Int) < (h.length : Int) := by omega
      obtain ⟨g, o, hao, c0, c1, c2, c3⟩ := (hT.below hb).at hlt
      cases hao
      have HS := Lib.hid (opsN_take h k hlt)
      have hle2 := opsN_le h (k + 1)
      have hst := HS.out
      have HB : Hid (1200 < opsN (h.take k) + h[k].l.length → (1 : Int) = bigI h) := Lib.hid (fun hh => by unfold bigI; rw [if_pos (.inr (by omega))])
      clear hst
      obtain ⟨ai, capi, hv, _⟩ := (hT.ops hlt).form
      have hli := hsh _ (List.getElem_mem hlt)
      rw [hv] at c3
      have hbb := hb.alloc hb.size (.cells #[.int .i64 h[k].s, .int .i64 h[k].b, .int .i64 h[k].c, .slice ai h[k].l.length capi] 46)
      generalize h[k].l.length = m at *
      generalize h[k].s = s at *
      generalize h[k].b = b at *
      generalize h[k].c = c at *
      generalize opsN (h.take k) = n at *
      clear hv hT hle2
      have hwr : wrap64 ((n : Int) + (m : Int)) = (n : Int) + (m : Int) := wrap64_small (by omega) (by omega)
      by_cases hover : 1200 < n + m
      · have H := Lib.hid (HB.out hover)
        have ho' : (1200 : Int) < (n : Int) + (m : Int) := by omega
        clear HB
        go_wp2_with fail
        go_ret
        exact ⟨ret_int H.out, hbb⟩
      · have ho' : ¬ (1200 : Int) < (n : Int) + (m : Int) := by omega
        go_wp2_with fail
        go_roundw
        case rel => exact ⟨k + 1, by omega, by go_num, by rw [HS.out]; go_num, by rw [HS.out]; omega, hbb⟩
        case measure => simp [intOf]; omega
    · have hkl : k = h.length := by omega
      subst hkl
      have H : Hid ((0 : Int) = bigI h) := Lib.hid (by rw [List.take_length] at hle; unfold bigI; rw [if_neg (by omega)])
      generalize opsN (h.take h.length) = n at *
      go_wp2_with fail
      go_ret
      exact ⟨ret_int H.out, hb⟩
end Go.Proofs.Ytfekcmhjdjifgaa

namespace Go.Proofs.Ytfekcmhjdjifgaa
set_option maxRecDepth 100000
open Go.RowKit

/-- All of them may be. -/
def partsB (h : List TxnV) : Bool := h.all fun t => mayT t.s t.b t.c t.l
theorem partsB_no {h : List TxnV} {k : Nat} (hk : k < h.length) (hn : mayT h[k].s h[k].b h[k].c h[k].l = false) : partsB h = false := by
  unfold partsB; exact List.all_eq_false.2 ⟨h[k], List.getElem_mem hk, by simp [hn]⟩
theorem partsB_succ (h : List TxnV) (k : Nat) (hk : k < h.length) : partsB (h.take (k + 1)) = (partsB (h.take k) && mayT h[k].s h[k].b h[k].c h[k].l) := by
  unfold partsB; rw [List.take_succ_eq_append_getElem hk, List.all_append]; simp
set_option maxHeartbeats 4000000 in
theorem parts_any (va : Value) (h : List TxnV) (w : World) (hT : Txns w va h) :
    Calls Try.prog 53 #[va] w fun e w' => e = .returned (.bool (partsB h)) ∧ Below w.heap.size w w' := by
  obtain ⟨ao, cap, rfl, hal⟩ := hT.form
  go_enter Try.func53, Try.ntmps53
  go_wp2_with fail
  go_loopw [7] (fun i wr => ∃ k : Nat, k ≤ h.length ∧ i = .int .i64 k ∧ partsB (h.take k) = true ∧ Below w.heap.size w wr) (fun i _ => h.length - (intOf i).toNat)
  case atStart => exact ⟨0, by omega, rfl, rfl, Below.refl _ _⟩
  case round =>
    obtain ⟨k, hk, rfl, hP, hb⟩ := hrel
    have HP := Lib.hid hP
    clear hP
    by_cases hlt : k < h.length
    · have hki : (k : Int) < (h.length : Int) := by omega
      obtain ⟨g, o, hao, c0, c1, c2, c3⟩ := (hT.below hb).at hlt
      cases hao
      have HS := Lib.hid (partsB_succ h k hlt)
      have HN := Lib.hid (fun hh => partsB_no hlt hh)
      have hOps := fun wx (hx : Below w.heap.size w wx) => (hT.ops hlt).below hx
      generalize h[k] = t at *
      obtain ⟨s, b, c, v, l⟩ := t
      simp only at c0 c1 c2 c3 HS HN hOps
      obtain ⟨ai, capi, rfl, hli⟩ := (hOps w (Below.refl _ _)).form
      have hbb := hb.alloc hb.size (.cells #[.int .i64 s, .int .i64 b, .int .i64 c, .slice ai l.length capi] 46)
      have CR := Lib.hid (tright_any s b c _ l _ (hOps _ hbb))
      clear hOps
      generalize mayT s b c l = q at *
      go_wp2_with fail
      refine (CR.out).mono ?_
      rintro e w1 ⟨rfl, hb1⟩
      have hb2 := below_then hbb hb1
      clear CR
      cases q
      · have H := Lib.hid (HN.out rfl)
        go_wp2_with fail
        go_ret
        exact ⟨ret_b H.out.symm, hb2⟩
      · have H : Hid (partsB (h.take (k + 1)) = true) := Lib.hid (by rw [HS.out, HP.out]; rfl)
        go_wp2_with fail
        go_roundw
        case rel => exact ⟨k + 1, by omega, by go_num, H.out, hb2⟩
        case measure => simp [intOf]; omega
    · have hkl : k = h.length := by omega
      have H : Hid (partsB h = true) := Lib.hid (by have := HP.out; rw [hkl, List.take_length] at this; exact this)
      go_wp2_with fail
      go_ret
      exact ⟨ret_b H.out.symm, hb⟩
/-- All stamps, one behind the other. -/
def stL (h : List TxnV) : List Int := h.flatMap fun t => [t.b, t.c]
def stampsB (h : List TxnV) : Bool := decide (stL h).Nodup
theorem stL_succ (h : List TxnV) (k : Nat) (hk : k < h.length) : stL (h.take (k + 1)) = stL (h.take k) ++ [h[k].b, h[k].c] := by
  unfold stL; rw [List.take_succ_eq_append_getElem hk, List.flatMap_append]; simp
theorem stL_no {h : List TxnV} {k : Nat} (hn : ¬ (stL (h.take (k + 1))).Nodup) : stampsB h = false := by
  unfold stampsB
  rw [decide_eq_false_iff_not]
  intro hd
  apply hn
  have : stL h = stL (h.take (k + 1)) ++ stL (h.drop (k + 1)) := by unfold stL; rw [← List.flatMap_append, List.take_append_drop]
  rw [this] at hd
  exact (List.nodup_append.1 hd).1
/-- The set of some numbers. -/
def inF (L : List Int) : Int → Option Bool := fun x => if x ∈ L then some true else none
theorem inF_snoc (L : List Int) (x : Int) : putF (inF L) x true = inF (L ++ [x]) := by
  funext y
  unfold putF inF
  by_cases h : y = x <;> simp [h]
theorem nod_b {L : List Int} {b c : Int} (h : (L ++ [b, c].take 0).Nodup) (hn : ¬ b ∈ L ++ [b, c].take 0) : (L ++ [b, c].take 1).Nodup := by
  simp at h hn ⊢
  rw [List.nodup_append]
  exact ⟨h, by simp, by intro x hx y hy; simp at hy; subst hy; rintro rfl; exact hn hx⟩
theorem nod_c {L : List Int} {b c : Int} (h : (L ++ [b, c].take 1).Nodup) (hn : ¬ c ∈ L ++ [b, c].take 1) : (L ++ [b, c].take 2).Nodup := by
  simp at h hn ⊢
  rw [List.nodup_append] at h ⊢
  refine ⟨h.1, ?_, ?_⟩
  · simp; exact fun e => hn.2 e.symm
  · intro x hx y hy
    simp at hy
    rcases hy with rfl | rfl
    · exact h.2.2 x hx y (by simp)
    · rintro rfl; exact hn.1 hx
theorem dup_b {L : List Int} {b c : Int} (h : b ∈ L ++ [b, c].take 0) : ¬ (L ++ [b, c]).Nodup := by
  simp at h
  intro hd
  exact (List.nodup_append.1 hd).2.2 b h b (by simp) rfl
theorem dup_c {L : List Int} {b c : Int} (h : c ∈ L ++ [b, c].take 1) : ¬ (L ++ [b, c]).Nodup := by
  simp at h
  intro hd
  rcases h with h | rfl
  · exact (List.nodup_append.1 hd).2.2 c h c (by simp) rfl
  · have := (List.nodup_append.1 hd).2.1
    simp at this
theorem mapIB : Try.prog.underlying 89 = some (.map 3 4) := Try.underlying89
theorem zeroB (w : World) : (zeroValue 4).run Try.prog w = .ok (Value.bool false) w := by kernel_rfl
theorem pair_index (b c : Int) (w : World) : Sem.run Try.prog (Instr.index 90 (.agg #[.int .i64 b, .int .i64 c]) (.int .i64 0)) w = .ok (.int .i64 b) w ∧ Sem.run Try.prog (Instr.index 90 (.agg #[.int .i64 b, .int .i64 c]) (.int .i64 1)) w = .ok (.int .i64 c) w := by
  have u1 := Try.underlying90
  have u2 := Try.underlying3
  have u3 := Try.sizeOf3
  have u4 := Try.isAgg3
  constructor <;> (unfold Instr.index; go_simp)
set_option maxHeartbeats 8000000 in
theorem stamps_any (va : Value) (h : List TxnV) (w : World) (hT : Txns w va h) (hok : ∀ t ∈ h, t.ok) (hlen : h.length ≤ 100000) :
    Calls Try.prog 55 #[va] w fun e w' => e = .returned (.bool (stampsB h)) ∧ Below w.heap.size w w' := by
  obtain ⟨ao, cap, rfl, hal⟩ := hT.form
  have HOK := Lib.hid hok
  clear hok
  have hm0 := MapI.made Value.bool Try.prog 3 w
  have hb1 := (Below.refl w.heap.size w).alloc (Nat.le_refl _) (.map #[] 0)
  have hmm := @run_makeMap Try.prog
  go_enter Try.func55, Try.ntmps55
  go_wp2_with fail
  go_loopw [11] (fun i wr => ∃ k cnt : Nat, k ≤ h.length ∧ i = .int .i64 k ∧ (stL (h.take k)).Nodup ∧ MapI Value.bool Try.prog 3 wr w.heap.size (2 * k) (inF (stL (h.take k))) cnt ∧ Below w.heap.size w wr) (fun i _ => h.length - (intOf i).toNat)
  case atStart => exact ⟨0, 0, by omega, rfl, by simp [stL], by have e : inF (stL (h.take 0)) = fun _ => none := (by funext y; simp [stL, inF]); rw [e]; exact hm0, hb1⟩
  case round =>
    obtain ⟨k, cnt, hk, rfl, hN, hM, hb⟩ := hrel
    have HND := Lib.hid hN
    clear hN hm0 hb1
    by_cases hlt : k < h.length
    · have hki : (k : Int) < (h.length : Int) := by omega
      obtain ⟨g, o, hao, c0, c1, c2, c3⟩ := (hT.below hb).at hlt
      cases hao
      have HS := Lib.hid (stL_succ h k hlt)
      have HNO := Lib.hid (fun hh => stL_no (h := h) (k := k) hh)
      have hOps := (hT.ops hlt)
      have htok := (HOK.out h[k] (List.getElem_mem hlt)).1
      generalize h[k] = t at *
      obtain ⟨s, b, c, v, l⟩ := t
      simp only at c0 c1 c2 c3 HS hOps htok
      have hkb := inI_of htok.2.1
      have hkc := inI_of htok.2.2
      obtain ⟨ai, capi, rfl, hli⟩ := hOps.form
      have hM1 := hM.alloc (.cells #[.int .i64 s, .int .i64 b, .int .i64 c, .slice ai l.length capi] 46)
      have hbb := hb.alloc hb.size (.cells #[.int .i64 s, .int .i64 b, .int .i64 c, .slice ai l.length capi] 46)
      have hsz := hb.size
      clear hOps htok hM hb
      have hix0 := fun w => (pair_index b c w).1
      have hix1 := fun w => (pair_index b c w).2
      generalize stL (h.take k) = L at *
      go_wp2_with fail
      go_loopw [20] (fun i wx => ∃ j cn : Nat, j ≤ 2 ∧ i = .int .i64 j ∧ (L ++ [b, c].take j).Nodup ∧ MapI Value.bool Try.prog 3 wx w.heap.size (2 * k + j) (inF (L ++ [b, c].take j)) cn ∧ Below w.heap.size w wx) (fun i _ => 2 - (intOf i).toNat)
      case atStart => exact ⟨0, _, by omega, rfl, by simpa using HND.out, by simpa using hM1, hbb⟩
      case round =>
        obtain ⟨j, cn, hj, hi, hD, hM2, hb2⟩ := hrel
        clear hM1 hbb
        rcases j with _ | _ | j
        · obtain rfl : u20 = .int .i64 0 := hi
          have HD := Lib.hid hD
          clear hD
          by_cases hin : b ∈ L ++ [b, c].take 0
          · have H : Hid (stampsB h = false) := Lib.hid (HNO.out (by rw [HS.out]; exact dup_b hin))
            have hf : (inF (L ++ [b, c].take 0) b).getD false = true := by unfold inF; rw [if_pos hin]; rfl
            clear HNO hin
            go_wp2_with (first | (at_lookup; refine wpList_lookI _ rfl _ _ 89 rfl 3 4 keyI mapIB false (zeroB _) _ _ _ _ rfl hM2 _ rfl hkb ?_; rw [hf]) | go_in)
            go_ret
            exact ⟨ret_b H.out.symm, hb2⟩
          · have hf : (inF (L ++ [b, c].take 0) b).getD false = false := by unfold inF; rw [if_neg hin]; rfl
            have HN2 : Hid ((L ++ [b, c].take 1).Nodup) := Lib.hid (nod_b HD.out hin)
            have HF : Hid (putF (inF (L ++ [b, c].take 0)) b true = inF (L ++ [b, c].take 1)) := Lib.hid (by rw [inF_snoc]; simp)
            clear HNO hin
            go_wp2_with (first | (at_lookup; refine wpList_lookI _ rfl _ _ 89 rfl 3 4 keyI mapIB false (zeroB _) _ _ _ _ rfl hM2 _ rfl hkb ?_; rw [hf]) | (at_mapUpdate; refine wpList_putI _ rfl _ _ _ 89 rfl 3 4 keyI mapIB _ _ _ _ rfl hM2 (by unfold maxLen; omega) _ rfl hkb true rfl ?_; intro w1 hM3 hg; go_frame) | go_in)
            have hb3 := hb2.grown hg hb2.size (fun j hj => by cases hj; omega)
            go_wp2_with fail
            go_roundw
            case rel => exact ⟨1, _, by omega, by go_num, HN2.out, by rw [← HF.out]; exact hM3, hb3⟩
            case measure => simp [intOf]
        · obtain rfl : u20 = .int .i64 1 := hi
          have HD := Lib.hid hD
          clear hD
          by_cases hin : c ∈ L ++ [b, c].take 1
          · have H : Hid (stampsB h = false) := Lib.hid (HNO.out (by rw [HS.out]; exact dup_c hin))
            have hf : (inF (L ++ [b, c].take 1) c).getD false = true := by unfold inF; rw [if_pos hin]; rfl
            clear HNO hin
            go_wp2_with (first | (at_lookup; refine wpList_lookI _ rfl _ _ 89 rfl 3 4 keyI mapIB false (zeroB _) _ _ _ _ rfl hM2 _ rfl hkc ?_; rw [hf]) | go_in)
            go_ret
            exact ⟨ret_b H.out.symm, hb2⟩
          · have hf : (inF (L ++ [b, c].take 1) c).getD false = false := by unfold inF; rw [if_neg hin]; rfl
            have HN2 : Hid ((L ++ [b, c].take 2).Nodup) := Lib.hid (nod_c HD.out hin)
            have HF : Hid (putF (inF (L ++ [b, c].take 1)) c true = inF (L ++ [b, c].take 2)) := Lib.hid (by rw [inF_snoc]; simp)
            clear HNO hin
            go_wp2_with (first | (at_lookup; refine wpList_lookI _ rfl _ _ 89 rfl 3 4 keyI mapIB false (zeroB _) _ _ _ _ rfl hM2 _ rfl hkc ?_; rw [hf]) | (at_mapUpdate; refine wpList_putI _ rfl _ _ _ 89 rfl 3 4 keyI mapIB _ _ _ _ rfl hM2 (by unfold maxLen; omega) _ rfl hkc true rfl ?_; intro w1 hM3 hg; go_frame) | go_in)
            have hb3 := hb2.grown hg hb2.size (fun j hj => by cases hj; omega)
            go_wp2_with fail
            go_roundw
            case rel => exact ⟨2, _, by omega, by go_num, HN2.out, by rw [← HF.out]; exact hM3, hb3⟩
            case measure => simp [intOf]
        · obtain rfl : j = 0 := by omega
          obtain rfl : u20 = .int .i64 2 := hi
          have HR : Hid (stL (h.take (k + 1)) = L ++ [b, c].take 2) := Lib.hid (by rw [HS.out]; rfl)
          have HD := Lib.hid hD
          clear hD
          go_wp2_with fail
          go_roundw
          case rel => exact ⟨k + 1, _, by omega, by go_num, by rw [HR.out]; exact HD.out, by rw [HR.out]; exact hM2.mono (by omega), hb2⟩
          case measure => simp [intOf]; omega
    · have hkl : k = h.length := by omega
      have H : Hid (stampsB h = true) := Lib.hid (by have := HND.out; rw [hkl, List.take_length] at this; unfold stampsB; simpa using this)
      go_wp2_with fail
      go_ret
      exact ⟨ret_b H.out.symm, hb⟩
end Go.Proofs.Ytfekcmhjdjifgaa

namespace Go.Proofs.Ytfekcmhjdjifgaa
set_option maxRecDepth 100000
open Go.RowKit

/-- When the last transaction of a session ends. -/
def endF (h : List TxnV) : Int → Option Int := fun x => ((h.filter fun t => t.s == x).getLast?).map (·.c)
theorem endF_succ (h : List TxnV) (k : Nat) (hk : k < h.length) : endF (h.take (k + 1)) = putF (endF (h.take k)) h[k].s h[k].c := by
  funext y
  unfold endF putF
  rw [List.take_succ_eq_append_getElem hk, List.filter_append]
  by_cases e : y = h[k].s
  · subst e; simp
  · have : (h[k].s == y) = false := by simp; exact fun e2 => e e2.symm
    simp [this, e]
/-- Does the transaction at k begin behind the end of the last one of its session? -/
def sesOk (h : List TxnV) (k : Nat) : Bool := match h[k]? with
  | none => true
  | some t => match endF (h.take k) t.s with
    | none => true
    | some e => decide (e < t.b)
def sesB (h : List TxnV) : Bool := (List.range h.length).all (sesOk h)
theorem sesB_all {h : List TxnV} (hh : ∀ j, j < h.length → sesOk h j = true) : sesB h = true := by
  unfold sesB; rw [List.all_eq_true]; intro j hj; exact hh j (List.mem_range.1 hj)
theorem sesB_no {h : List TxnV} {k : Nat} (hk : k < h.length) (hh : sesOk h k = false) : sesB h = false := by
  unfold sesB; rw [List.all_eq_false]; exact ⟨k, List.mem_range.2 hk, by simp [hh]⟩
theorem sesOk_at {h : List TxnV} {k : Nat} (hk : k < h.length) : sesOk h k = match endF (h.take k) h[k].s with
    | none => true
    | some e => decide (e < h[k].b) := by
  unfold sesOk; rw [List.getElem?_eq_getElem hk]
set_option maxHeartbeats 8000000 in
theorem sessions_any (va : Value) (h : List TxnV) (w : World) (hT : Txns w va h) (hok : ∀ t ∈ h, t.ok) (hlen : h.length ≤ 100000) :
    Calls Try.prog 56 #[va] w fun e w' => e = .returned (.bool (sesB h)) ∧ Below w.heap.size w w' := by
  obtain ⟨ao, cap, rfl, hal⟩ := hT.form
  have HOK := Lib.hid hok
  clear hok
  have hm0 := MapI.made eI Try.prog 3 w
  have hb1 := (Below.refl w.heap.size w).alloc (Nat.le_refl _) (.map #[] 0)
  have hmm := @run_makeMap Try.prog
  go_enter Try.func56, Try.ntmps56
  go_wp2_with fail
  go_loopw [11] (fun i wr => ∃ k cnt : Nat, k ≤ h.length ∧ i = .int .i64 k ∧ (∀ j, j < k → sesOk h j = true) ∧ MapI eI Try.prog 3 wr w.heap.size k (endF (h.take k)) cnt ∧ Below w.heap.size w wr) (fun i _ => h.length - (intOf i).toNat)
  case atStart => exact ⟨0, 0, by omega, rfl, by omega, hm0, hb1⟩
  case round =>
    obtain ⟨k, cnt, hk, rfl, hN, hM, hb⟩ := hrel
    have HST := Lib.hid hN
    clear hN hm0 hb1
    by_cases hlt : k < h.length
    · have hki : (k : Int) < (h.length : Int) := by omega
      obtain ⟨g, o, hao, c0, c1, c2, c3⟩ := (hT.below hb).at hlt
      cases hao
      have HV := Lib.hid (endF_succ h k hlt)
      have HS := Lib.hid (sesOk_at hlt)
      have HNO := Lib.hid (fun hh => sesB_no hlt hh)
      have hOps := (hT.ops hlt)
      have htok := (HOK.out h[k] (List.getElem_mem hlt)).1
      generalize h[k] = t at *
      obtain ⟨s, b, c, v, l⟩ := t
      simp only at c0 c1 c2 c3 hOps htok
      have hkey := inI_of htok.1
      obtain ⟨ai, capi, rfl, hli⟩ := hOps.form
      have hM1 := hM.alloc (.cells #[.int .i64 s, .int .i64 b, .int .i64 c, .slice ai l.length capi] 46)
      have hbb := hb.alloc hb.size (.cells #[.int .i64 s, .int .i64 b, .int .i64 c, .slice ai l.length capi] 46)
      have hsz := hb.size
      clear hOps htok hM hb
      cases hv : endF (h.take k) s with
      | none =>
        have H : Hid (sesOk h k = true) := Lib.hid (by rw [HS.out]; simp only; rw [hv])
        clear HNO HS
        go_wp2_with (first | (at_lookup; refine wpList_lookI_ok _ rfl _ _ 91 rfl 3 3 keyI mapII 0 (zeroI _) _ _ _ _ rfl hM1 _ rfl hkey ?_; rw [hv]) | (at_mapUpdate; refine wpList_putI _ rfl _ _ _ 91 rfl 3 3 keyI mapII _ _ _ _ rfl hM1 (by unfold maxLen; omega) _ rfl hkey c rfl ?_; intro w1 hM2 hg; go_frame) | go_in)
        have hb2 := hbb.grown hg hbb.size (fun j hj => by cases hj; omega)
        go_wp2_with fail
        go_roundw
        case rel => exact ⟨k + 1, _, by omega, by go_num, all_snoc HST.out H.out, by rw [HV.out]; exact hM2, hb2⟩
        case measure => simp [intOf]; omega
      | some e =>
        have HSP : Hid (sesOk h k = decide (e < b)) := Lib.hid (by rw [HS.out]; simp only; rw [hv])
        clear HS
        by_cases hvv : e < b
        · have H : Hid (sesOk h k = true) := Lib.hid (by rw [HSP.out]; simp [hvv])
          have hne : ¬ b ≤ e := by omega
          clear HNO HSP hvv
          go_wp2_with (first | (at_lookup; refine wpList_lookI_ok _ rfl _ _ 91 rfl 3 3 keyI mapII 0 (zeroI _) _ _ _ _ rfl hM1 _ rfl hkey ?_; rw [hv]; simp only [Option.getD_some, Option.isSome_some, eI]) | (at_mapUpdate; refine wpList_putI _ rfl _ _ _ 91 rfl 3 3 keyI mapII _ _ _ _ rfl hM1 (by unfold maxLen; omega) _ rfl hkey c rfl ?_; intro w1 hM2 hg; go_frame) | go_in)
          have hb2 := hbb.grown hg hbb.size (fun j hj => by cases hj; omega)
          go_wp2_with fail
          go_roundw
          case rel => exact ⟨k + 1, _, by omega, by go_num, all_snoc HST.out H.out, by rw [HV.out]; exact hM2, hb2⟩
          case measure => simp [intOf]; omega
        · have H : Hid (sesB h = false) := Lib.hid (HNO.out (by rw [HSP.out]; simpa using hvv))
          have hne : b ≤ e := by omega
          clear HNO HSP hvv
          go_wp2_with (first | (at_lookup; refine wpList_lookI_ok _ rfl _ _ 91 rfl 3 3 keyI mapII 0 (zeroI _) _ _ _ _ rfl hM1 _ rfl hkey ?_; rw [hv]; simp only [Option.getD_some, Option.isSome_some, eI]) | go_in)
          go_ret
          exact ⟨ret_b H.out.symm, hbb⟩
    · have hkl : k = h.length := by omega
      have H : Hid (sesB h = true) := Lib.hid (sesB_all (by rw [← hkl]; exact HST.out))
      go_wp2_with fail
      go_ret
      exact ⟨ret_b H.out.symm, hb⟩
end Go.Proofs.Ytfekcmhjdjifgaa

namespace Go.Proofs.Ytfekcmhjdjifgaa
set_option maxRecDepth 100000
open Go.RowKit

structure WV where
  i : Int
  key : Int
  last : Bool
def eW (x : WV) : Value := .agg #[.int .i64 x.i, .int .i64 x.key, .bool x.last]
def wZ : WV := ⟨0, 0, false⟩
def addOne (i : Int) (F : Int → Option WV) (o : OpV) : Int → Option WV := if o.wr then putF F o.val ⟨i, o.key, false⟩ else F
def addF (i : Int) (F : Int → Option WV) (l : List OpV) : Int → Option WV := l.foldl (addOne i) F
def finF (i : Int) (F : Int → Option WV) (l : List OpV) : Int → Option WV := l.foldl (fun F o => putF F o.val ⟨i, o.key, true⟩) F
theorem addF_snoc (i : Int) (F : Int → Option WV) (l : List OpV) (o : OpV) : addF i F (l ++ [o]) = addOne i (addF i F l) o := by unfold addF; rw [List.foldl_append]; rfl
theorem finF_snoc (i : Int) (F : Int → Option WV) (l : List OpV) (o : OpV) : finF i F (l ++ [o]) = putF (finF i F l) o.val ⟨i, o.key, true⟩ := by unfold finF; rw [List.foldl_append]; rfl
def opsAt (h : List TxnV) (k : Nat) : List OpV := ((h[k]?).map (·.l)).getD []
theorem opsAt_eq {h : List TxnV} {k : Nat} (hk : k < h.length) : opsAt h k = h[k].l := by unfold opsAt; rw [List.getElem?_eq_getElem hk]; rfl
/-- Who writes each value, by the first k transactions. -/
def wrTo (h : List TxnV) (k : Nat) : Int → Option WV := (List.range k).foldl (fun F (j : Nat) => finF (j : Int) (addF (j : Int) F (opsAt h j)) (refWrites (opsAt h j))) fun _ => none
theorem wrTo_succ (h : List TxnV) (k : Nat) : wrTo h (k + 1) = finF k (addF k (wrTo h k) (opsAt h k)) (refWrites (opsAt h k)) := by
  unfold wrTo; rw [List.range_succ, List.foldl_append]; rfl
/-- The values that are written. -/
def wv (l : List OpV) : List Int := (l.filter (·.wr)).map (·.val)
def wvH (h : List TxnV) : List Int := h.flatMap fun t => wv t.l
theorem wv_snoc (l : List OpV) (o : OpV) : wv (l ++ [o]) = wv l ++ (if o.wr then [o.val] else []) := by
  unfold wv; rw [List.filter_append, List.map_append]
  cases h : o.wr <;> simp [h]
theorem wvH_succ (h : List TxnV) (k : Nat) (hk : k < h.length) : wvH (h.take (k + 1)) = wvH (h.take k) ++ wv h[k].l := by
  unfold wvH; rw [List.take_succ_eq_append_getElem hk, List.flatMap_append]; simp
def okW (h : List TxnV) : Bool := decide (wvH h).Nodup
theorem okW_no {h : List TxnV} {k j : Nat} (hk : k < h.length) (hn : ¬ (wvH (h.take k) ++ wv (h[k].l.take j)).Nodup) : okW h = false := by
  unfold okW
  rw [decide_eq_false_iff_not]
  intro hd
  apply hn
  have e1 : wvH h = wvH (h.take (k + 1)) ++ wvH (h.drop (k + 1)) := by unfold wvH; rw [← List.flatMap_append, List.take_append_drop]
  have e2 : wv h[k].l = wv (h[k].l.take j) ++ wv (h[k].l.drop j) := by unfold wv; rw [← List.map_append, ← List.filter_append, List.take_append_drop]
  rw [e1, wvH_succ h k hk, e2, ← List.append_assoc] at hd
  exact (List.nodup_append.1 (List.nodup_append.1 hd).1).1
/-- The map has just these values. -/
def Dom (F : Int → Option WV) (W : List Int) : Prop := ∀ x, (F x).isSome = decide (x ∈ W)
theorem Dom.put {F : Int → Option WV} {W : List Int} (h : Dom F W) (x : Int) (u : WV) : Dom (putF F x u) (W ++ [x]) := by
  intro y
  unfold putF
  by_cases e : y = x
  · simp [e]
  · rw [if_neg e, h y]; simp [e]
theorem Dom.again {F : Int → Option WV} {W : List Int} (h : Dom F W) {x : Int} (hx : x ∈ W) (u : WV) : Dom (putF F x u) W := by
  intro y
  unfold putF
  by_cases e : y = x
  · simp [e, hx]
  · rw [if_neg e, h y]
theorem Dom.not {F : Int → Option WV} {W : List Int} (h : Dom F W) {x : Int} (hx : F x = none) : ¬ x ∈ W := by
  have := h x; rw [hx] at this; simpa using this.symm
theorem Dom.yes {F : Int → Option WV} {W : List Int} (h : Dom F W) {x : Int} {u : WV} (hx : F x = some u) : x ∈ W := by
  have := h x; rw [hx] at this; simpa using this.symm
theorem nodup_snoc {L : List Int} {x : Int} (h : L.Nodup) (hx : ¬ x ∈ L) : (L ++ [x]).Nodup := by
  rw [List.nodup_append]
  exact ⟨h, by simp, by intro a ha b hb; simp at hb; subst hb; rintro rfl; exact hx ha⟩
theorem not_nodup_snoc {L : List Int} {x : Int} (hx : x ∈ L) : ¬ (L ++ [x]).Nodup := fun hd => (List.nodup_append.1 hd).2.2 x hx x (by simp) rfl
theorem wv_mem {l : List OpV} {x : Int} : x ∈ wv l ↔ ∃ o ∈ l, o.wr = true ∧ o.val = x := by
  unfold wv; simp [and_assoc]
theorem rise_wv {l out : List OpV} (h : Rise (lastW l) true out) : ∀ o ∈ out, o.val ∈ wv l := by
  intro o ho
  obtain ⟨h1, h2⟩ := (h.2 o).1 ho
  exact wv_mem.2 ⟨o, (lastW_key h1).2.2, h2, rfl⟩
theorem wv_len (l : List OpV) : (wv l).length ≤ l.length := by unfold wv; rw [List.length_map]; exact List.length_filter_le _ _
end Go.Proofs.Ytfekcmhjdjifgaa

namespace Go.Proofs.Ytfekcmhjdjifgaa
set_option maxRecDepth 100000
open Go.RowKit

theorem mapIW : Try.prog.underlying 62 = some (.map 3 79) := Try.underlying62
theorem zeroW (w : World) : (zeroValue 79).run Try.prog w = .ok (eW wZ) w := by kernel_rfl
/-- The block p holds this. -/
def At (w : World) (p : Nat) (o : Obj) : Prop := w.heap[p]? = some o
theorem At.lt {w : World} {p : Nat} {o : Obj} (h : At w p o) : p < w.heap.size := (Array.getElem?_eq_some_iff.1 h).1
theorem At.new (w : World) (o : Obj) : At (w.alloc o) w.heap.size o := heap_alloc_new w o
theorem At.grown {w w' : World} {p : Nat} {o : Obj} {row : Option Nat} (h : At w p o) (hg : w.grownBy w' row) (hne : some p ≠ row) : At w' p o := (hg.block p h.lt hne).trans h
theorem At.alloc {w : World} {p : Nat} {o : Obj} (h : At w p o) (o' : Obj) : At (w.alloc o') p o := h.grown (World.grownBy_alloc w o' none) (by simp)
theorem At.below {w w' : World} {p : Nat} {o : Obj} (h : At w p o) (hb : Below w.heap.size w w') : At w' p o := (hb.block p h.lt).trans h
theorem At.cells4 {w : World} {p : Nat} {x y z u : Value} {t : TypeId} (h : At w p (.cells #[x, y, z, u] t)) : w.cell? ⟨p, 0, none⟩ = some x ∧ w.cell? ⟨p, 1, none⟩ = some y ∧ w.cell? ⟨p, 2, none⟩ = some z ∧ w.cell? ⟨p, 3, none⟩ = some u := by
  refine ⟨?_, ?_, ?_, ?_⟩ <;> (unfold At at h; simp [World.cell?, h])
/-- What Writes answers. -/
def WrPost (w : World) (h : List TxnV) (e : Ending) (w' : World) : Prop :=
  Below w.heap.size w w' ∧ ((okW h = false ∧ e = .returned (.tuple #[.map none, .bool false])) ∨
    (okW h = true ∧ ∃ b n, e = .returned (.tuple #[.map (some b), .bool true]) ∧ w.heap.size ≤ b ∧ MapI eW Try.prog 3 w' b n (wrTo h h.length) (wvH h).length))
set_option maxHeartbeats 16000000 in
theorem hwrites_any (va : Value) (h : List TxnV) (w : World) (hT : Txns w va h) (hok : ∀ t ∈ h, t.ok) (hks : ∀ t ∈ h, keysIn t.l) (hn : opsN h ≤ 100000) (hlen : h.length ≤ 100000) :
    Calls Try.prog 28 #[va] w (WrPost w h) := by
  obtain ⟨ao, cap, rfl, hal⟩ := hT.form
  have HOK := Lib.hid hok
  have HKS := Lib.hid hks
  clear hok hks
  have hm0 := MapI.made eW Try.prog 3 w
  have hb1 := (Below.refl w.heap.size w).alloc (Nat.le_refl _) (.map #[] 0)
  have hmm := @run_makeMap Try.prog
  go_enter Try.func28, Try.ntmps28
  go_wp2_with fail
  go_loopw [16] (fun i wr => ∃ k n : Nat, k ≤ h.length ∧ i = .int .i64 k ∧ n ≤ 2 * opsN (h.take k) ∧ (wvH (h.take k)).Nodup ∧ Dom (wrTo h k) (wvH (h.take k)) ∧ MapI eW Try.prog 3 wr w.heap.size n (wrTo h k) (wvH (h.take k)).length ∧ Below w.heap.size w wr) (fun i _ => h.length - (intOf i).toNat)
  case atStart => exact ⟨0, 0, by omega, rfl, by omega, by simp [wvH], fun x => by simp [wrTo, wvH], hm0, hb1⟩
  case round =>
    obtain ⟨k, n, hk, rfl, hnn, hN, hD, hM, hb⟩ := hrel
    have HND := Lib.hid hN
    have HD := Lib.hid hD
    clear hN hD hm0 hb1
    by_cases hlt : k < h.length
    · have hki : (k : Int) < (h.length : Int) := by omega
      obtain ⟨g, o, hao, c0, c1, c2, c3⟩ := (hT.below hb).at hlt
      cases hao
      have HW := Lib.hid (wvH_succ h k hlt)
      have HR : Hid (wrTo h (k + 1) = finF (k : Int) (addF (k : Int) (wrTo h k) h[k].l) (refWrites h[k].l)) := Lib.hid (by rw [wrTo_succ, opsAt_eq hlt])
      have HNO := Lib.hid (fun j hh => okW_no (j := j) hlt hh)
      have hOps := fun wx (hx : Below w.heap.size w wx) => (hT.ops hlt).below hx
      have HTK := Lib.hid (HOK.out h[k] (List.getElem_mem hlt))
      have HKK := Lib.hid (HKS.out h[k] (List.getElem_mem hlt))
      have hon := opsN_take h k hlt
      have hol := opsN_le h (k + 1)
      generalize h[k] = t at *
      obtain ⟨s, b, c, v, l⟩ := t
      simp only at c0 c1 c2 c3 HW HR HNO hOps HTK HKK hon
      obtain ⟨ai, capi, rfl, hli⟩ := (hOps w (Below.refl _ _)).form
      have HOP := Lib.hid hOps
      have hpl := hM.lt
      have hM1 := hM.alloc (.cells #[.int .i64 s, .int .i64 b, .int .i64 c, .slice ai l.length capi] 46)
      have hbb := hb.alloc hb.size (.cells #[.int .i64 s, .int .i64 b, .int .i64 c, .slice ai l.length capi] 46)
      have hsz := hb.size
      have hx := txnBlock wr (.int .i64 s) (.int .i64 b) (.int .i64 c) (.slice ai l.length capi) 46
      have hltx : wr.heap.size < (wr.alloc (.cells #[.int .i64 s, .int .i64 b, .int .i64 c, .slice ai l.length capi] 46)).heap.size := by simp
      clear hOps hM hb
      generalize wvH (h.take k) = W at *
      generalize wrTo h k = F at *
      go_wp2_with fail
      have hA0 := At.new wr (.cells #[.int .i64 s, .int .i64 b, .int .i64 c, .slice ai l.length capi] 46)
      generalize wr.alloc (.cells #[.int .i64 s, .int .i64 b, .int .i64 c, .slice ai l.length capi] 46) = w1 at *
      generalize hpp : wr.heap.size = p at *
      have hA1 : At w1 p (.cells #[.int .i64 s, .int .i64 b, .int .i64 c, .slice ai l.length capi] 46) := hA0
      clear hA0 c0 c1 c2 c3 hx hsz
      go_loopw [24] (fun i wx => ∃ j m : Nat, j ≤ l.length ∧ i = .int .i64 j ∧ m ≤ 2 * opsN (h.take k) + j ∧ (W ++ wv (l.take j)).Nodup ∧ Dom (addF (k : Int) F (l.take j)) (W ++ wv (l.take j)) ∧ MapI eW Try.prog 3 wx w.heap.size m (addF (k : Int) F (l.take j)) (W ++ wv (l.take j)).length ∧ At wx p (.cells #[.int .i64 s, .int .i64 b, .int .i64 c, .slice ai l.length capi] 46) ∧ Below w.heap.size w wx) (fun i _ => l.length - (intOf i).toNat)
      case atStart => exact ⟨0, n, by omega, rfl, by omega, by simpa [wv] using HND.out, by simpa [wv, addF] using HD.out, by simpa [wv, addF] using hM1, hA1, hbb⟩
      case round =>
        obtain ⟨j, m, hj, rfl, hmm2, hN2, hD2, hM2, hA2, hb2⟩ := hrel
        have HN2 := Lib.hid hN2
        have HD2 := Lib.hid hD2
        clear hN2 hD2 hM1 hA1 hbb
        by_cases hltj : j < l.length
        · have hkj : (j : Int) < (l.length : Int) := by omega
          obtain ⟨g2, o2, hao2, e0, e1, e2⟩ := (HOP.out _ hb2).at hltj
          cases hao2
          have HWJ : Hid (wv (l.take (j + 1)) = wv (l.take j) ++ (if l[j].wr then [l[j].val] else [])) := Lib.hid (by rw [take_snoc l j hltj, wv_snoc])
          have HFJ : Hid (addF (k : Int) F (l.take (j + 1)) = addOne (k : Int) (addF (k : Int) F (l.take j)) l[j]) := Lib.hid (by rw [take_snoc l j hltj, addF_snoc])
          have hox := HTK.out.2 l[j] (List.getElem_mem hltj)
          generalize l[j] = x at *
          obtain ⟨xw, xk, xv⟩ := x
          simp only at e0 e1 e2 HWJ HFJ
          have hkv := inI_of hox.2
          have hM3 := hM2.alloc (.cells #[.bool xw, .int .i64 xk, .int .i64 xv] 56)
          have hA3 := hA2.alloc (.cells #[.bool xw, .int .i64 xk, .int .i64 xv] 56)
          have hb3 := hb2.alloc hb2.size (.cells #[.bool xw, .int .i64 xk, .int .i64 xv] 56)
          have hszj := hb2.size
          clear hox hM2 hA2 hb2
          cases xw with
          | false =>
            simp only [Bool.false_eq_true, if_false, List.append_nil] at HWJ
            have HFJ2 : Hid (addF (k : Int) F (l.take (j + 1)) = addF (k : Int) F (l.take j)) := Lib.hid (by rw [HFJ.out]; rfl)
            clear HFJ
            go_wp2_with fail
            go_roundw
            case rel => exact ⟨j + 1, m, by omega, by go_num, by omega, by rw [HWJ.out]; exact HN2.out, by rw [HWJ.out, HFJ2.out]; exact HD2.out, by rw [HWJ.out, HFJ2.out]; exact hM3, hA3, hb3⟩
            case measure => simp [intOf]; omega
          | true =>
            simp only [if_true] at HWJ
            have HFJ2 : Hid (addF (k : Int) F (l.take (j + 1)) = putF (addF (k : Int) F (l.take j)) xv ⟨k, xk, false⟩) := Lib.hid (by rw [HFJ.out]; rfl)
            have HNJ : Hid (xv ∈ W ++ wv (l.take j) → okW h = false) := Lib.hid (fun hin => HNO.out (j + 1) (by rw [HWJ.out, ← List.append_assoc]; exact not_nodup_snoc hin))
            clear HFJ
            generalize addF (k : Int) F (l.take j) = F1 at *
            cases hv : F1 xv with
            | none =>
              have HX := Lib.hid (HD2.out.not hv)
              have hM4 := hM3.alloc (.cells #[.int .i64 0, .int .i64 0, .bool false] 79)
              have hA4 := hA3.alloc (.cells #[.int .i64 0, .int .i64 0, .bool false] 79)
              have hb4 := hb3.alloc hb3.size (.cells #[.int .i64 0, .int .i64 0, .bool false] 79)
              clear HNJ
              go_wp2_with (first | (at_lookup; refine wpList_lookI_ok _ rfl _ _ 62 rfl 3 79 keyI mapIW wZ (zeroW _) _ _ _ _ rfl hM3 _ rfl hkv ?_; rw [hv]; simp only [Option.getD_none, Option.isSome_none, eW, wZ]) | (at_mapUpdate; refine wpList_putI _ rfl _ _ _ 62 rfl 3 79 keyI mapIW _ _ _ _ rfl hM4 (by unfold maxLen; omega) _ rfl hkv ⟨k, xk, false⟩ rfl ?_; intro w5 hM5 hg5; go_frame) | go_in)
              have hb5 := hb4.grown hg5 hb4.size (fun j hj => by cases hj; omega)
              have hA5 := hA4.grown hg5 (fun e => by cases e; omega)
              rw [hv] at hM5
              simp only [Option.isSome_none, Bool.false_eq_true, if_false] at hM5
              clear hM4 hA4 hb4 hg5 hM3 hA3 hb3
              go_wp2_with fail
              go_roundw
              case rel => exact ⟨j + 1, m + 1, by omega, by go_num, by omega, by rw [HWJ.out, ← List.append_assoc]; exact nodup_snoc HN2.out HX.out, by rw [HWJ.out, HFJ2.out, ← List.append_assoc]; exact HD2.out.put _ _, by rw [HWJ.out, HFJ2.out, ← List.append_assoc]; simpa [Nat.add_assoc] using hM5, hA5, hb5⟩
              case measure => simp [intOf]; omega
            | some u =>
              have H := Lib.hid (HNJ.out (HD2.out.yes hv))
              obtain ⟨ui, uk, ul⟩ := u
              have hb4 := hb3.alloc hb3.size (.cells #[.int .i64 ui, .int .i64 uk, .bool ul] 79)
              clear HNJ
              go_wp2_with (first | (at_lookup; refine wpList_lookI_ok _ rfl _ _ 62 rfl 3 79 keyI mapIW wZ (zeroW _) _ _ _ _ rfl hM3 _ rfl hkv ?_; rw [hv]; simp only [Option.getD_some, Option.isSome_some, eW]) | go_in)
              refine bodyPost_ret (v := .tuple #[.map none, .bool false]) (by simp [results, Try.results28, go_sem]) rfl ⟨hb4, .inl ⟨H.out, rfl⟩⟩
        · have hj2 : j = l.length := by omega
          subst hj2
          rw [List.take_length] at hM2 HN2 HD2
          obtain ⟨q0, q1, q2, q3⟩ := hA2.cells4
          have CW := Lib.hid (writes_any s b c _ l wr (HOP.out _ hb2) HTK.out.2 (by omega))
          have hRR := Lib.hid (refWrites_rise HKK.out)
          clear HNO
          go_wp2_with fail
          refine (CW.out).mono ?_
          rintro e w6 ⟨v2, out, rfl, hO, hRise, hle2, hb6⟩
          obtain rfl := hRise.eq hRR.out
          have hM6 := hM2.below hb6
          have hb7 := below_then hb2 hb6
          have hO7 := hO.base (base' := 0) (Nat.zero_le _)
          have HWV := Lib.hid (rise_wv hRise)
          have HTO := Lib.hid (fun o (ho : o ∈ refWrites l) => HTK.out.2 o (lastW_key (((hRise.2 o).1 ho).1)).2.2)
          have hspl := hO.split
          have hwl := hM2.lt
          obtain ⟨ao2, cap2, rfl, hl2⟩ := hO7.ops.form
          have HNE : Hid (∀ g o q, ao2 = some (⟨g, o, q⟩ : Addr) → Value.ownBlock (.slice (some ⟨g, o, q⟩) (refWrites l).length cap2) ≠ some w.heap.size) := Lib.hid (fun g o q e hh => by
            rcases hspl with ⟨e1, _⟩ | ⟨g3, cap3, e1, hg3⟩
            · rw [e] at e1; simp at e1
            · rw [e] at e1; simp [Value.ownBlock] at e1 hh; omega)
          clear hO hRise hRR CW hM2 hA2 hb2 hb6 q0 q1 q2 q3
          generalize refWrites l = R at *
          generalize addF (k : Int) F l = F1 at *
          generalize hWW : W ++ wv l = W1 at *
          have HWW := Lib.hid hWW
          clear hWW
          go_wp2_with fail
          go_loopw [50] (fun i wx => ∃ j m2 : Nat, j ≤ R.length ∧ i = .int .i64 j ∧ m2 ≤ 2 * opsN (h.take k) + l.length + j ∧ Dom (finF (k : Int) F1 (R.take j)) W1 ∧ MapI eW Try.prog 3 wx w.heap.size m2 (finF (k : Int) F1 (R.take j)) W1.length ∧ Own wx 0 (.slice ao2 R.length cap2) R ∧ Below w.heap.size w wx) (fun i _ => R.length - (intOf i).toNat)
          case atStart => exact ⟨0, m, by omega, rfl, by omega, HD2.out, hM6, hO7, hb7⟩
          case round =>
            obtain ⟨j, m2, hj2, rfl, hmm3, hD3, hM8, hO8, hb8⟩ := hrel
            have HD3 := Lib.hid hD3
            clear hD3 hM6 hO7 hb7
            by_cases hltj : j < R.length
            · have hkj : (j : Int) < (R.length : Int) := by omega
              obtain ⟨g2, o2, hao2, e0, e1, e2⟩ := hO8.ops.at hltj
              cases hao2
              have HFJ : Hid (finF (k : Int) F1 (R.take (j + 1)) = putF (finF (k : Int) F1 (R.take j)) R[j].val ⟨k, R[j].key, true⟩) := Lib.hid (by rw [take_snoc R j hltj, finF_snoc])
              have hox := HTO.out R[j] (List.getElem_mem hltj)
              have hin := HWV.out R[j] (List.getElem_mem hltj)
              generalize R[j] = x at *
              obtain ⟨xw, xk, xv⟩ := x
              simp only at e0 e1 e2 HFJ hin
              have hkv := inI_of hox.2
              have hinW : Hid (xv ∈ W1) := Lib.hid (by rw [← HWW.out]; exact List.mem_append_right _ hin)
              have hM9 := hM8.alloc (.cells #[.bool xw, .int .i64 xk, .int .i64 xv] 56)
              have hO9 : Own _ _ _ _ := World.ownsRow.alloc hO8 (.cells #[.bool xw, .int .i64 xk, .int .i64 xv] 56)
              have hb9 := hb8.alloc hb8.size (.cells #[.bool xw, .int .i64 xk, .int .i64 xv] 56)
              have hszj := hb8.size
              have hne9 : Value.ownBlock (.slice (some ⟨g2, o2, none⟩) R.length cap2) ≠ some w.heap.size := HNE.out _ _ _ rfl
              clear hox hin hM8 hO8 hb8
              generalize finF (k : Int) F1 (R.take j) = F2 at *
              go_wp2_with (first | (at_mapUpdate; refine wpList_putI _ rfl _ _ _ 62 rfl 3 79 keyI mapIW _ _ _ _ rfl hM9 (by unfold maxLen; omega) _ rfl hkv ⟨k, xk, true⟩ rfl ?_; intro w5 hM5 hg5; go_frame) | go_in)
              have hb5 := hb9.grown hg5 hb9.size (fun j hj => by cases hj; omega)
              have hO5 : Own w5 0 (.slice (some ⟨g2, o2, none⟩) R.length cap2) R := World.ownsRow.kept hO9 hg5 (.inr hne9)
              have hsome : (F2 xv).isSome = true := by rw [HD3.out xv]; simpa using hinW.out
              rw [hsome] at hM5
              simp only [if_true] at hM5
              clear hM9 hO9 hb9 hg5 hsome
              go_wp2_with fail
              go_roundw
              case rel => exact ⟨j + 1, m2 + 1, by omega, by go_num, by omega, by rw [HFJ.out]; exact HD3.out.again hinW.out _, by rw [HFJ.out]; exact hM5, hO5, hb5⟩
              case measure => simp [intOf]; omega
            · have hj3 : j = R.length := by omega
              subst hj3
              rw [List.take_length] at hM8 HD3
              have HW1 : Hid (wvH (h.take (k + 1)) = W1) := Lib.hid HW.out
              go_wp2_with fail
              go_roundw
              case rel => exact ⟨k + 1, m2, by omega, by go_num, by omega, by rw [HW1.out]; exact HN2.out, by rw [HW1.out, HR.out]; exact HD3.out, by rw [HW1.out, HR.out]; exact hM8, hb8⟩
              case measure => simp [intOf]; omega
    · have hkl : k = h.length := by omega
      subst hkl
      have H : Hid (okW h = true) := Lib.hid (by have := HND.out; rw [List.take_length] at this; unfold okW; simpa using this)
      rw [List.take_length] at hM
      go_wp2_with fail
      refine bodyPost_ret (v := .tuple #[.map (some w.heap.size), .bool true]) (by simp [results, Try.results28, go_sem]) rfl ⟨hb, .inr ⟨H.out, _, _, rfl, Nat.le_refl _, hM⟩⟩
end Go.Proofs.Ytfekcmhjdjifgaa

namespace Go.Proofs.Ytfekcmhjdjifgaa
set_option maxRecDepth 100000
open Go.RowKit

/-- Of whom a value is read; the keys and whom one reads of, but for oneself. -/
def fromO (F : Int → Option WV) (x : Int) : Int := ((F x).map (·.i)).getD (-1)
def rdFr (F : Int → Option WV) (i : Int) (l : List OpV) : List (Int × Int) := (l.filter fun o => fromO F o.val != i).map fun o => (o.key, fromO F o.val)
def frV (l : List (Int × Int)) : List Value := l.flatMap fun p => [.int .i64 p.1, .int .i64 p.2]
theorem frV_app (l m : List (Int × Int)) : frV (l ++ m) = frV l ++ frV m := by simp [frV]
theorem rdFr_snoc (F : Int → Option WV) (i : Int) (l : List OpV) (k : Nat) (hk : k < l.length) : rdFr F i (l.take (k + 1)) = rdFr F i (l.take k) ++ (if fromO F l[k].val = i then [] else [(l[k].key, fromO F l[k].val)]) := by
  unfold rdFr
  rw [List.take_succ_eq_append_getElem hk, List.filter_append, List.map_append]
  by_cases h : fromO F l[k].val = i <;> simp [h]
theorem rdFr_len (F : Int → Option WV) (i : Int) (l : List OpV) : (rdFr F i l).length ≤ l.length := by
  unfold rdFr; rw [List.length_map]; exact List.length_filter_le _ _
theorem infoRd : (Try.prog.info? 51).map (fun i => (i.zero, i.size, i.bytes)) = some (some (.agg #[.int .i64 0, .int .i64 0]), 2, 16) := by kernel_rfl
theorem lit_two (w : World) (x y : Value) (t : TypeId) : ∀ j u, [x, y][j]? = some u → (w.alloc (.cells #[x, y] t)).cell? ((⟨w.heap.size, 0, none⟩ : Addr).add j) = some u := by
  have h := At.new w (.cells #[x, y] t)
  unfold At at h
  generalize w.alloc (.cells #[x, y] t) = w1 at *
  generalize w.heap.size = p at *
  intro j u hu
  rcases j with _ | _ | j
  · simp at hu; subst hu; simp [World.cell?, Addr.add, h]
  · simp at hu; subst hu; simp [World.cell?, Addr.add, h]
  · simp at hu
theorem own_base' {w : World} {base base' : Nat} {v : Value} {e : TypeId} {size n : Nat} {xs : List Value} (h : w.ownsRow base e size v n xs) (hb : base' ≤ base) : w.ownsRow base' e size v n xs := by
  obtain ⟨h1, h2⟩ := h
  refine ⟨h1, ?_⟩
  rcases h2 with h2 | ⟨g, cap, cur, e1, e2, r⟩
  · exact .inl h2
  · exact .inr ⟨g, cap, cur, e1, Nat.le_trans hb e2, r⟩
set_option maxHeartbeats 4000000 in
theorem oreads_any (i s b c : Int) (va : Value) (l : List OpV) (F : Int → Option WV) (bm n cc : Nat) (w : World) (ha : Ops w va l) (hok : ∀ o ∈ l, o.ok) (hlen : l.length ≤ 100000) (hM : MapI eW Try.prog 3 w bm n F cc) :
    Calls Try.prog 30 #[.int .i64 i, .agg #[.int .i64 s, .int .i64 b, .int .i64 c, va], .map (some bm)] w fun e w' => ∃ v out, e = .returned v ∧ w'.ownsRow w.heap.size 51 2 v (rdFr F i out).length (frV (rdFr F i out)) ∧ Rise (firstO l) false out ∧ out.length ≤ l.length ∧ Below w.heap.size w w' := by
  obtain ⟨i0, hi, hz0, hz1, hz2⟩ := info_parts infoRd
  obtain ⟨ao, cap, rfl, hal⟩ := ha.form
  have hb0 := box_below w (.cells #[.int .i64 s, .int .i64 b, .int .i64 c, .slice ao l.length cap] 46)
  have CW := Lib.hid (reads_any s b c _ l _ (ha.below hb0) hok hlen)
  have HOK := Lib.hid hok
  have HMM := Lib.hid (fun wx (hx : Below w.heap.size w wx) => hM.below hx)
  clear ha hok hM
  go_enter Try.func30, Try.ntmps30
  go_wp2_with fail
  refine (CW.out).mono ?_
  rintro e w1 ⟨v1, out, rfl, hO, hR, hol, hb1⟩
  have hb2 := below_then hb0 hb1
  have HR := Lib.hid (And.intro hR hol)
  have HV := Lib.hid (fun o (ho : o ∈ out) => HOK.out o (firstO_key (((hR.2 o).1 ho).1)).2)
  have HM := Lib.hid ((HMM.out _ hb2))
  have hlim : out.length ≤ 100000 := by omega
  clear CW hb0 hb1 hR hol HOK HMM
  obtain ⟨B, hB⟩ : ∃ B, B = w1.heap.size := ⟨_, rfl⟩
  have hBw : w.heap.size ≤ B := by have := hb2.size; omega
  have hBl : B ≤ w1.heap.size := by omega
  have HB := Lib.hid hB
  clear hB
  have hT := hO.ops
  clear hO
  obtain ⟨a1, cap1, rfl, _⟩ := hT.form
  go_wp2_with fail
  go_loopw [7, 15] (fun v j wr => ∃ k : Nat, k ≤ out.length ∧ j = .int .i64 k ∧ wr.ownsRow B 51 2 v (rdFr F i (out.take k)).length (frV (rdFr F i (out.take k))) ∧ Below B w1 wr)
    (fun _ j _ => out.length - (intOf j).toNat)
  case atStart => exact ⟨0, by omega, rfl, World.ownsRow_nil _ _ _ _, HB.out ▸ Below.refl _ _⟩
  case round =>
    obtain ⟨k, hk, rfl, hown, hb⟩ := hrel
    have hsz := hb.size
    by_cases hlt : k < out.length
    · have hki : (k : Int) < (out.length : Int) := by omega
      obtain ⟨g, o, hao, c0, c1, c2⟩ := (hT.below (HB.out ▸ hb)).at hlt
      cases hao
      have HS := Lib.hid (rdFr_snoc F i out k hlt)
      have hkl : (rdFr F i (out.take k)).length ≤ 100000 := Nat.le_trans (rdFr_len _ _ _) (by rw [List.length_take]; omega)
      have hkv := inI_of (HV.out out[k] (List.getElem_mem hlt)).2
      have hM2 := (HM.out.below (HB.out ▸ hb)).alloc (.cells #[.bool out[k].wr, .int .i64 out[k].key, .int .i64 out[k].val] 56)
      generalize out[k].wr = x at *
      generalize out[k].key = y at *
      generalize out[k].val = z at *
      have hbx := hb.alloc (by omega) (.cells #[.bool x, .int .i64 y, .int .i64 z] 56)
      have hownx := hown.alloc (.cells #[.bool x, .int .i64 y, .int .i64 z] 56)
      cases hv : F z with
      | none =>
        have hf : fromO F z = -1 := by unfold fromO; rw [hv]; rfl
        rw [hf] at HS
        have hby := hbx.alloc (by have := hbx.size; omega) (.cells #[.int .i64 (-1), .int .i64 0, .bool false] 79)
        have howny := hownx.alloc (.cells #[.int .i64 (-1), .int .i64 0, .bool false] 79)
        by_cases hfi : (-1) = i
        · rw [if_pos hfi, List.append_nil] at HS
          subst hfi
          go_wp2_with (at_lookup; refine wpList_lookI_ok _ rfl _ _ 62 rfl 3 79 keyI mapIW wZ (zeroW _) _ _ _ _ rfl hM2 _ rfl hkv ?_; rw [hv]; simp only [Option.getD_none, Option.isSome_none, eW, wZ])
          go_roundw
          case rel => exact ⟨k + 1, by omega, by go_num, by rw [HS.out]; exact howny, hby⟩
          case measure => simp [intOf]; omega
        · rw [if_neg hfi] at HS
          go_wp2_with (first | (at_lookup; refine wpList_lookI_ok _ rfl _ _ 62 rfl 3 79 keyI mapIW wZ (zeroW _) _ _ _ _ rfl hM2 _ rfl hkv ?_; rw [hv]; simp only [Option.getD_none, Option.isSome_none, eW, wZ]) | (at_builtin; refine wpList_append_own _ rfl _ _ 49 rfl B 51 i0 (.agg #[.int .i64 0, .int .i64 0]) 2 16 Try.underlying49 hi hz0 hz1 hz2 rfl (by decide) _ _ _ rfl (howny.alloc _) ⟨_, 0, none⟩ 1 1 [.int .i64 y, .int .i64 (-1)] rfl rfl ?c1 ?c2 ?c3 ?c4 ?c5 ?_))
          case c1 =>
            have e : wr.heap.size + 1 + 1 = ((wr.alloc (.cells #[.bool x, .int .i64 y, .int .i64 z] 56)).alloc (.cells #[.int .i64 (-1), .int .i64 0, .bool false] 79)).heap.size := by simp
            rw [e]
            exact lit_two _ _ _ _
          case c2 => intro u hu; simp at hu; rcases hu with rfl | rfl <;> rfl
          case c3 => unfold maxLen; omega
          case c4 => omega
          case c5 => simp; omega
          · intro v' w2 hown' hgrow _
            have hb' := below_app hby (by omega) howny hgrow
            clear hown hownx howny hbx hby hb hgrow
            go_wp2_with fail
            go_roundw
            case rel =>
              refine ⟨k + 1, by omega, by go_num, ?_, hb'⟩
              rw [HS.out, frV_app, List.length_append]
              exact hown'
            case measure => simp [intOf]; omega
      | some u =>
        have hf : fromO F z = u.i := by unfold fromO; rw [hv]; rfl
        rw [hf] at HS
        obtain ⟨ui, uk, ul⟩ := u
        simp only at HS
        have hby := hbx.alloc (by have := hbx.size; omega) (.cells #[.int .i64 ui, .int .i64 uk, .bool ul] 79)
        have howny := hownx.alloc (.cells #[.int .i64 ui, .int .i64 uk, .bool ul] 79)
        by_cases hfi : ui = i
        · rw [if_pos hfi, List.append_nil] at HS
          subst hfi
          go_wp2_with (at_lookup; refine wpList_lookI_ok _ rfl _ _ 62 rfl 3 79 keyI mapIW wZ (zeroW _) _ _ _ _ rfl hM2 _ rfl hkv ?_; rw [hv]; simp only [Option.getD_some, Option.isSome_some, eW])
          go_roundw
          case rel => exact ⟨k + 1, by omega, by go_num, by rw [HS.out]; exact howny, hby⟩
          case measure => simp [intOf]; omega
        · rw [if_neg hfi] at HS
          go_wp2_with (first | (at_lookup; refine wpList_lookI_ok _ rfl _ _ 62 rfl 3 79 keyI mapIW wZ (zeroW _) _ _ _ _ rfl hM2 _ rfl hkv ?_; rw [hv]; simp only [Option.getD_some, Option.isSome_some, eW]) | (at_builtin; refine wpList_append_own _ rfl _ _ 49 rfl B 51 i0 (.agg #[.int .i64 0, .int .i64 0]) 2 16 Try.underlying49 hi hz0 hz1 hz2 rfl (by decide) _ _ _ rfl (howny.alloc _) ⟨_, 0, none⟩ 1 1 [.int .i64 y, .int .i64 ui] rfl rfl ?c1 ?c2 ?c3 ?c4 ?c5 ?_))
          case c2 => exact ⟨rfl, rfl⟩
          case c3 => unfold maxLen; omega
          case c4 => omega
          case c5 => omega
          · intro v' w2 hown' hgrow _
            have hb' := below_app hby (by omega) howny hgrow
            clear hown hownx howny hbx hby hb hgrow
            go_wp2_with fail
            go_roundw
            case rel =>
              refine ⟨k + 1, by omega, by go_num, ?_, hb'⟩
              rw [HS.out, frV_app, List.length_append]
              exact hown'
            case measure => simp [intOf]; omega
    · have hkl : k = out.length := by omega
      subst hkl
      rw [List.take_length] at hown
      go_wp2_with fail
      go_ret
      exact ⟨_, out, rfl, own_base' hown hBw, HR.out.1, HR.out.2, hb2.trans (hb.mono hBw)⟩
end Go.Proofs.Ytfekcmhjdjifgaa

namespace Go.Proofs.Ytfekcmhjdjifgaa
set_option maxRecDepth 100000
open Go.RowKit

/-- A read of what its writer overwrites, or of what oneself writes. -/
def badFr (F : Int → Option WV) (i : Int) (o : OpV) : Bool := match F o.val with | none => false | some u => decide (u.i = i) || !u.last
theorem anyf_take {f : OpV → Bool} {l : List OpV} {k : Nat} (hk : k < l.length) (h : (l.take k).any f = false) : (l.take (k + 1)).any f = f l[k] := by
  rw [List.take_succ_eq_append_getElem hk, List.any_append, h]; simp
theorem anyf_hit {f : OpV → Bool} {l : List OpV} {k : Nat} (hk : k < l.length) (h : f l[k] = true) : l.any f = true := List.any_eq_true.2 ⟨_, List.getElem_mem hk, h⟩
set_option maxHeartbeats 4000000 in
theorem osound_any (i s b c : Int) (va : Value) (l : List OpV) (F : Int → Option WV) (bm n cc : Nat) (w : World) (ha : Ops w va l) (hok : ∀ o ∈ l, o.ok) (hlen : l.length ≤ 100000) (hM : MapI eW Try.prog 3 w bm n F cc) :
    Calls Try.prog 31 #[.int .i64 i, .agg #[.int .i64 s, .int .i64 b, .int .i64 c, va], .map (some bm)] w fun e w' => ∃ out, e = .returned (.bool (!out.any (badFr F i) && steadyL l)) ∧ Rise (firstO l) false out ∧ out.length ≤ l.length ∧ Below w.heap.size w w' := by
  obtain ⟨ao, cap, rfl, hal⟩ := ha.form
  have hb0 := box_below w (.cells #[.int .i64 s, .int .i64 b, .int .i64 c, .slice ao l.length cap] 46)
  have CW := Lib.hid (reads_any s b c _ l _ (ha.below hb0) hok hlen)
  have HOK := Lib.hid hok
  have HA := Lib.hid (fun wx (hx : Below w.heap.size w wx) => ha.below hx)
  have HMM := Lib.hid (fun wx (hx : Below w.heap.size w wx) => hM.below hx)
  have hx0 := txnBlock w (.int .i64 s) (.int .i64 b) (.int .i64 c) (.slice ao l.length cap) 46
  have hA0 := At.new w (.cells #[.int .i64 s, .int .i64 b, .int .i64 c, .slice ao l.length cap] 46)
  clear ha hok hM hx0
  go_enter Try.func31, Try.ntmps31
  go_wp2_with fail
  refine (CW.out).mono ?_
  rintro e w1 ⟨v1, out, rfl, hO, hR, hol, hb1⟩
  have hb2 := below_then hb0 hb1
  have hA1 := hA0.below hb1
  have HR := Lib.hid (And.intro hR hol)
  have HV := Lib.hid (fun o (ho : o ∈ out) => HOK.out o (firstO_key (((hR.2 o).1 ho).1)).2)
  have HM := Lib.hid ((HMM.out _ hb2))
  have hlim : out.length ≤ 100000 := by omega
  clear CW hb0 hb1 hR hol HMM hA0
  have hT := hO.ops
  clear hO
  obtain ⟨a1, cap1, rfl, _⟩ := hT.form
  go_wp2_with fail
  go_loopw [14] (fun j wr => ∃ k : Nat, k ≤ out.length ∧ j = .int .i64 k ∧ (out.take k).any (badFr F i) = false ∧ Below w1.heap.size w1 wr)
    (fun j _ => out.length - (intOf j).toNat)
  case atStart => exact ⟨0, by omega, rfl, rfl, Below.refl _ _⟩
  case round =>
    obtain ⟨k, hk, rfl, hno, hb⟩ := hrel
    have HNO := Lib.hid hno
    clear hno
    have hsz := hb.size
    by_cases hlt : k < out.length
    · have hki : (k : Int) < (out.length : Int) := by omega
      obtain ⟨g, o, hao, c0, c1, c2⟩ := (hT.below hb).at hlt
      cases hao
      have HS := Lib.hid (anyf_take hlt HNO.out)
      have HH := Lib.hid (fun h => anyf_hit (f := badFr F i) hlt h)
      have HBD : Hid (badFr F i out[k] = match F out[k].val with | none => false | some u => decide (u.i = i) || !u.last) := Lib.hid rfl
      have hkv := inI_of (HV.out out[k] (List.getElem_mem hlt)).2
      have hM2 := (HM.out.below hb).alloc (.cells #[.bool out[k].wr, .int .i64 out[k].key, .int .i64 out[k].val] 56)
      generalize badFr F i out[k] = bd at *
      generalize out[k].wr = x at *
      generalize out[k].key = y at *
      generalize out[k].val = z at *
      have hbx := hb.alloc hb.size (.cells #[.bool x, .int .i64 y, .int .i64 z] 56)
      cases hv : F z with
      | none =>
        have HF : Hid (bd = false) := Lib.hid (by rw [HBD.out, hv])
        have hby := hbx.alloc hbx.size (.cells #[.int .i64 0, .int .i64 0, .bool false] 79)
        clear HBD
        go_wp2_with (at_lookup; refine wpList_lookI_ok _ rfl _ _ 62 rfl 3 79 keyI mapIW wZ (zeroW _) _ _ _ _ rfl hM2 _ rfl hkv ?_; rw [hv]; simp only [Option.getD_none, Option.isSome_none, eW, wZ])
        go_roundw
        case rel => exact ⟨k + 1, by omega, by go_num, by rw [HS.out, HF.out], hby⟩
        case measure => simp [intOf]; omega
      | some u =>
        obtain ⟨ui, uk, ul⟩ := u
        have HF : Hid (bd = (decide (ui = i) || !ul)) := Lib.hid (by rw [HBD.out, hv])
        have hby := hbx.alloc hbx.size (.cells #[.int .i64 ui, .int .i64 uk, .bool ul] 79)
        clear HBD
        by_cases hfi : ui = i
        · have HB2 : Hid (bd = true) := Lib.hid (by rw [HF.out, decide_eq_true hfi]; rfl)
          subst hfi
          go_wp2_with (at_lookup; refine wpList_lookI_ok _ rfl _ _ 62 rfl 3 79 keyI mapIW wZ (zeroW _) _ _ _ _ rfl hM2 _ rfl hkv ?_; rw [hv]; simp only [Option.getD_some, Option.isSome_some, eW])
          go_ret
          exact ⟨out, by rw [HH.out HB2.out]; rfl, HR.out.1, HR.out.2, hb2.trans (hby.mono hb2.size)⟩
        · cases ul with
          | false =>
            have HB2 : Hid (bd = true) := Lib.hid (by rw [HF.out]; simp)
            go_wp2_with (at_lookup; refine wpList_lookI_ok _ rfl _ _ 62 rfl 3 79 keyI mapIW wZ (zeroW _) _ _ _ _ rfl hM2 _ rfl hkv ?_; rw [hv]; simp only [Option.getD_some, Option.isSome_some, eW])
            go_ret
            exact ⟨out, by rw [HH.out HB2.out]; rfl, HR.out.1, HR.out.2, hb2.trans (hby.mono hb2.size)⟩
          | true =>
            have HB2 : Hid (bd = false) := Lib.hid (by rw [HF.out, decide_eq_false hfi]; rfl)
            go_wp2_with (at_lookup; refine wpList_lookI_ok _ rfl _ _ 62 rfl 3 79 keyI mapIW wZ (zeroW _) _ _ _ _ rfl hM2 _ rfl hkv ?_; rw [hv]; simp only [Option.getD_some, Option.isSome_some, eW])
            go_roundw
            case rel => exact ⟨k + 1, by omega, by go_num, by rw [HS.out, HB2.out], hby⟩
            case measure => simp [intOf]; omega
    · have hkl : k = out.length := by omega
      subst hkl
      have HNA : Hid (out.any (badFr F i) = false) := Lib.hid (by have h := HNO.out; rwa [List.take_length] at h)
      obtain ⟨q0, q1, q2, q3⟩ := (hA1.below hb).cells4
      have hb3 := hb2.trans (hb.mono hb2.size)
      have CS := Lib.hid (steady_any s b c _ l wr (HA.out _ hb3) HOK.out hlen)
      go_wp2_with fail
      refine (CS.out).mono ?_
      rintro e w6 ⟨rfl, hb6⟩
      have hb7 := hb3.trans (hb6.mono hb3.size)
      go_wp2_with fail
      go_ret
      exact ⟨out, by rw [HNA.out]; rfl, HR.out.1, HR.out.2, hb7⟩
end Go.Proofs.Ytfekcmhjdjifgaa

namespace Go.Proofs.Ytfekcmhjdjifgaa
set_option maxRecDepth 100000
open Go.RowKit

/-- A slice of what is read of others. -/
def Frs (w : World) (v : Value) (l : List (Int × Int)) : Prop := Row w v l.length 2 (frV l)
theorem Frs.below {w w' : World} {v : Value} {l : List (Int × Int)} (h : Frs w v l) (hb : Below w.heap.size w w') : Frs w' v l := Row.below h hb
theorem frV_at : ∀ (l : List (Int × Int)) (k : Nat) (hk : k < l.length), (frV l)[k * 2]? = some (.int .i64 l[k].1) ∧ (frV l)[k * 2 + 1]? = some (.int .i64 l[k].2)
  | [], k, hk => by simp at hk
  | p :: l, 0, _ => by simp [frV]
  | p :: l, k + 1, hk => by
    obtain ⟨h1, h2⟩ := frV_at l k (by simpa using hk)
    have e : (k + 1) * 2 = k * 2 + 1 + 1 := by omega
    have e2 : frV (p :: l) = .int .i64 p.1 :: .int .i64 p.2 :: frV l := rfl
    rw [e, e2]
    exact ⟨by simpa using h1, by simpa using h2⟩
theorem Frs.form {w : World} {v : Value} {l : List (Int × Int)} (h : Frs w v l) : ∃ ao cap, v = .slice ao l.length cap ∧ l.length ≤ 9223372036854775807 := by
  obtain ⟨_, ao, cap, rfl, hm, _, _⟩ := h
  exact ⟨ao, cap, rfl, Nat.le_trans hm.1 hm.2⟩
theorem Frs.at {w : World} {ao : Option Addr} {n cap : Nat} {l : List (Int × Int)} (h : Frs w (.slice ao n cap) l) {k : Nat} (hk : k < l.length) :
    ∃ b off, ao = some ⟨b, off, none⟩ ∧ w.cell? ⟨b, off + k * 2, none⟩ = some (.int .i64 l[k].1) ∧ w.cell? ⟨b, off + k * 2 + 1, none⟩ = some (.int .i64 l[k].2) := by
  obtain ⟨_, ao', cap', he, hm, _, hc⟩ := h
  obtain ⟨rfl, _, _⟩ : ao = ao' ∧ n = l.length ∧ cap = cap' := by simpa using he
  obtain ⟨b, off, rfl, hcell⟩ := hc (by omega)
  obtain ⟨h0, h1⟩ := frV_at l k hk
  exact ⟨b, off, rfl, by rw [hcell _ (by omega), h0], by rw [Nat.add_assoc, hcell _ (by omega), h1]⟩
set_option maxHeartbeats 4000000 in
theorem offrom1_any (y f a : Int) (q : Nat) (w : World) (hq : w.cell? ⟨q, 0, none⟩ = some (.int .i64 a)) :
    Calls Try.prog 38 #[.agg #[.int .i64 y, .int .i64 f], .pointer (some ⟨q, 0, none⟩)] w fun e w' => e = .returned (.bool (decide (f = a))) ∧ Below w.heap.size w w' := by
  have hq' := (box_below w (.cells #[.int .i64 y, .int .i64 f] 51)).cell (p := ⟨q, 0, none⟩) (block_lt hq)
  rw [hq] at hq'
  go_enter Try.func38, Try.ntmps38
  go_wp2_with fail
  go_ret
  exact ⟨rfl, (Below.refl _ _).alloc (Nat.le_refl _) _⟩
theorem frs_take {f : Int × Int → Bool} {l : List (Int × Int)} {k : Nat} (hk : k < l.length) (h : (l.take k).any f = false) : (l.take (k + 1)).any f = f l[k] := by
  rw [List.take_succ_eq_append_getElem hk, List.any_append, h]; simp
set_option maxHeartbeats 4000000 in
theorem ofindex_any (va : Value) (l : List (Int × Int)) (a : Int) (q : Nat) (w : World) (hT : Frs w va l) (hq : w.cell? ⟨q, 0, none⟩ = some (.int .i64 a)) :
    Calls Try.prog 62 #[va, .func (.func 38) #[] #[.pointer (some ⟨q, 0, none⟩)]] w fun e w' => ∃ r : Int, e = .returned (.int .i64 r) ∧ decide (0 ≤ r) = l.any (fun p => decide (p.2 = a)) ∧ Below w.heap.size w w' := by
  obtain ⟨ao, cap, rfl, hal⟩ := hT.form
  have HQ := Lib.hid (fun wx (hx : Below w.heap.size w wx) => (hx.cell (p := ⟨q, 0, none⟩) (block_lt hq)).trans hq)
  clear hq
  go_enter Try.func62, Try.ntmps62
  go_wp2_with fail
  go_loopw [8] (fun i wr => ∃ k : Nat, k ≤ l.length ∧ i = .int .i64 k ∧ (l.take k).any (fun p => decide (p.2 = a)) = false ∧ Below w.heap.size w wr) (fun i _ => l.length - (intOf i).toNat)
  case atStart => exact ⟨0, by omega, rfl, rfl, Below.refl _ _⟩
  case round =>
    obtain ⟨k, hk, rfl, hno, hb⟩ := hrel
    have HNO := Lib.hid hno
    clear hno
    by_cases hlt : k < l.length
    · have hki : (k : Int) < (l.length : Int) := by omega
      obtain ⟨g, o, hao, c0, c1⟩ := (hT.below hb).at hlt
      cases hao
      have HS := Lib.hid (frs_take hlt HNO.out)
      have HH : Hid (decide (l[k].2 = a) = true → l.any (fun p => decide (p.2 = a)) = true) := Lib.hid (fun h => List.any_eq_true.2 ⟨_, List.getElem_mem hlt, h⟩)
      have CF := Lib.hid (offrom1_any l[k].1 l[k].2 a q wr (HQ.out _ hb))
      generalize l[k] = z at *
      obtain ⟨y, f⟩ := z
      simp only at c0 c1 HS HH CF
      by_cases hf : f = a
      · have HD : Hid (l.any (fun p => decide (p.2 = a)) = true) := Lib.hid (HH.out (decide_eq_true hf))
        rw [decide_eq_true hf] at CF
        clear hf HH HS
        go_wp2_with (go_at_call 38; refine (CF.out).mono ?_; rintro e w6 ⟨rfl, hb6⟩)
        have hbb := hb.trans (hb6.mono hb.size)
        go_ret
        exact ⟨_, rfl, by rw [HD.out]; exact decide_eq_true (by omega), hbb⟩
      · have HD : Hid ((l.take (k + 1)).any (fun p => decide (p.2 = a)) = false) := Lib.hid (by rw [HS.out]; exact decide_eq_false hf)
        rw [decide_eq_false hf] at CF
        clear hf HH HS
        go_wp2_with (go_at_call 38; refine (CF.out).mono ?_; rintro e w6 ⟨rfl, hb6⟩)
        have hbb := hb.trans (hb6.mono hb.size)
        go_roundw
        case rel => exact ⟨k + 1, by omega, by go_num, HD.out, hbb⟩
        case measure => simp [intOf]; omega
    · have hkl : k = l.length := by omega
      subst hkl
      have HD : Hid (l.any (fun p => decide (p.2 = a)) = false) := Lib.hid (by have h := HNO.out; rwa [List.take_length] at h)
      go_wp2_with fail
      go_ret
      exact ⟨_, rfl, by rw [HD.out]; rfl, hb⟩
end Go.Proofs.Ytfekcmhjdjifgaa

namespace Go.Proofs.Ytfekcmhjdjifgaa
set_option maxRecDepth 100000
open Go.RowKit

set_option maxHeartbeats 4000000 in
theorem ofcontains_any (va : Value) (l : List (Int × Int)) (a : Int) (q : Nat) (w : World) (hT : Frs w va l) (hq : w.cell? ⟨q, 0, none⟩ = some (.int .i64 a)) :
    Calls Try.prog 37 #[va, .func (.func 38) #[] #[.pointer (some ⟨q, 0, none⟩)]] w fun e w' => e = .returned (.bool (l.any (fun p => decide (p.2 = a)))) ∧ Below w.heap.size w w' := by
  have CI := Lib.hid (ofindex_any va l a q w hT hq)
  obtain ⟨ao, cap, rfl, hal⟩ := hT.form
  clear hT hq
  generalize l.any (fun p => decide (p.2 = a)) = B at *
  go_enter Try.func37, Try.ntmps37
  go_wp2_with fail
  refine (CI.out).mono ?_
  rintro e w6 ⟨r, rfl, hr, hb6⟩
  go_wp2_with fail
  go_ret
  exact ⟨by subst hr; rfl, hb6⟩
/-- Slices of what is read of others in a slice. -/
def FRws (w : World) (v : Value) (K : List (Value × List (Int × Int))) : Prop := Row w v K.length 1 (K.map (·.1)) ∧ ∀ p ∈ K, Frs w p.1 p.2
theorem FRws.below {w w' : World} {v : Value} {K : List (Value × List (Int × Int))} (h : FRws w v K) (hb : Below w.heap.size w w') : FRws w' v K := ⟨Row.below h.1 hb, fun p hp => (h.2 p hp).below hb⟩
theorem FRws.form {w : World} {v : Value} {K : List (Value × List (Int × Int))} (h : FRws w v K) : ∃ ao cap, v = .slice ao K.length cap := by
  obtain ⟨⟨_, ao, cap, rfl, _⟩, _⟩ := h
  exact ⟨ao, cap, rfl⟩
theorem FRws.at {w : World} {ao : Option Addr} {n cap : Nat} {K : List (Value × List (Int × Int))} (h : FRws w (.slice ao n cap) K) {k : Nat} (hk : k < K.length) :
    ∃ b off, ao = some ⟨b, off, none⟩ ∧ w.cell? ⟨b, off + k, none⟩ = some K[k].1 ∧ Frs w K[k].1 K[k].2 := by
  obtain ⟨⟨_, ao', cap', he, hm, _, hc⟩, hi⟩ := h
  obtain ⟨rfl, _, _⟩ : ao = ao' ∧ n = K.length ∧ cap = cap' := by simpa using he
  obtain ⟨b, off, rfl, hcell⟩ := hc (by omega)
  exact ⟨b, off, rfl, by rw [hcell k (by omega)]; simp [List.getElem?_eq_getElem hk], hi _ (List.getElem_mem hk)⟩
set_option maxHeartbeats 4000000 in
theorem offrom_any (vr : Value) (K : List (Value × List (Int × Int))) (a b : Nat) (p ob : Nat) (w : World) (hp : w.cell? ⟨p, 0, none⟩ = some (.pointer (some ⟨ob, 0, none⟩))) (hr : w.cell? ⟨ob, 195, none⟩ = some vr) (hT : FRws w vr K) (hb : b < K.length) :
    Calls Try.prog 36 #[.int .i64 a, .int .i64 b, .pointer (some ⟨p, 0, none⟩)] w fun e w' => e = .returned (.bool (K[b].2.any (fun r => decide (r.2 = (a : Int))))) ∧ Below w.heap.size w w' := by
  obtain ⟨ao, cap, rfl⟩ := hT.form
  have hbi : (b : Int) < (K.length : Int) := by omega
  have hb0 := box_below w (.cells #[.int .i64 a] 3)
  have hp0 := (hb0.cell (p := ⟨p, 0, none⟩) (block_lt hp)).trans hp
  have hr0 := (hb0.cell (p := ⟨ob, 195, none⟩) (block_lt hr)).trans hr
  have hq0 : (w.alloc (.cells #[.int .i64 a] 3)).cell? ⟨w.heap.size, 0, none⟩ = some (.int .i64 a) := by rw [cell_of_row _ _ 0 _ _ _ (heap_alloc_new w _)]; rfl
  obtain ⟨g, o, hao, c0, hF⟩ := (hT.below hb0).at hb
  cases hao
  have CC := Lib.hid (ofcontains_any _ _ (a : Int) w.heap.size _ hF hq0)
  obtain ⟨aq, capq, hqv, hql⟩ := hF.form
  rw [hqv] at c0 CC
  have hmf : ∀ (fn : Fn) (first cap : Array Value) (w : World), (Instr.makeFunc fn first cap).run Try.prog w = .ok (.func fn first cap) w := fun _ _ _ _ => rfl
  generalize K[b].2.any (fun r => decide (r.2 = (a : Int))) = B at *
  generalize K[b].2.length = m at *
  clear hT hF hqv hp hr
  go_enter Try.func36, Try.ntmps36
  go_wp2_with fail
  refine (CC.out).mono ?_
  rintro e w6 ⟨rfl, hb6⟩
  have hbb := below_then hb0 hb6
  go_wp2_with fail
  go_ret
  exact ⟨rfl, hbb⟩
end Go.Proofs.Ytfekcmhjdjifgaa

namespace Go.Proofs.Ytfekcmhjdjifgaa
set_option maxRecDepth 100000
open Go.RowKit

/-- The set of the numbers below 64 that a test lets by. -/
def mkS (p : Nat → Bool) : Nat := ((List.range 64).filter p).foldl (fun s i => s ||| 2 ^ i) 0
theorem testBit_fold (l : List Nat) : ∀ (s i : Nat), (l.foldl (fun s i => s ||| 2 ^ i) s).testBit i = (s.testBit i || l.contains i) := by
  induction l with
  | nil => intro s i; simp
  | cons a l ih =>
    intro s i
    rw [List.foldl_cons, ih, Nat.testBit_or, Nat.testBit_two_pow, List.contains_cons, Bool.or_assoc]
    congr 2
    rw [Bool.eq_iff_iff, decide_eq_true_iff, beq_iff_eq]
    exact ⟨fun h => h.symm, fun h => h.symm⟩
theorem testBit_mkS (p : Nat → Bool) (i : Nat) : (mkS p).testBit i = (decide (i < 64) && p i) := by
  unfold mkS
  rw [testBit_fold, Nat.zero_testBit, Bool.false_or, Bool.eq_iff_iff]
  simp
theorem isSet_mkS (p : Nat → Bool) : IsSet (mkS p) := by
  apply isSet_of_bits
  intro i hi
  rw [testBit_mkS]
  have : ¬ i < 64 := by omega
  simp [this]
theorem mkS_eq {s : Nat} {p : Nat → Bool} (hs : IsSet s) (h : ∀ i, i < 64 → s.testBit i = p i) : s = mkS p := by
  apply set_ext hs (isSet_mkS p)
  intro i hi
  rw [testBit_mkS, h i hi]; simp [hi]
theorem mkS_congr {p q : Nat → Bool} (h : ∀ i, i < 64 → p i = q i) : mkS p = mkS q := by
  apply mkS_eq (isSet_mkS p)
  intro i hi
  rw [testBit_mkS, h i hi]; simp [hi]
theorem mkS_false : mkS (fun _ => false) = 0 := (mkS_eq (by unfold IsSet; omega) fun i _ => by simp).symm
/-- A relation: does a stand to b? -/
abbrev Mat := Nat → Nat → Bool
/-- The array of a relation's rows. -/
def rowsA (R : Mat) : Array Value := ((List.range 64).map fun i => Value.int .u64 ((mkS (R i) : Nat) : Int)).toArray
theorem rowsA_size (R : Mat) : (rowsA R).size = 64 := by simp [rowsA]
theorem rowsA_at (R : Mat) {i : Nat} (hi : i < 64) : (rowsA R)[i]? = some (.int .u64 ((mkS (R i) : Nat) : Int)) := by
  simp [rowsA, hi]
/-- A relation with one row anew. -/
def rowSet (R : Mat) (a : Nat) (p : Nat → Bool) : Mat := fun i => if i = a then p else R i
theorem rowsA_set (R : Mat) (a s : Nat) (p : Nat → Bool) (hs : s = mkS p) : (rowsA R).setIfInBounds a (.int .u64 (s : Int)) = rowsA (rowSet R a p) := by
  subst hs
  apply Array.ext_getElem?
  intro i
  by_cases hi : i < 64
  · rw [rowsA_at _ hi, Array.getElem?_setIfInBounds]
    unfold rowSet
    by_cases e : a = i
    · subst e; simp [rowsA_size, hi]
    · rw [if_neg e, rowsA_at R hi, if_neg (fun h => e h.symm)]
  · rw [Array.getElem?_eq_none (by rw [Array.size_setIfInBounds, rowsA_size]; omega), Array.getElem?_eq_none (by rw [rowsA_size]; omega)]
theorem rowsA_congr {R S : Mat} (h : ∀ i j, i < 64 → j < 64 → R i j = S i j) : rowsA R = rowsA S := by
  apply Array.ext_getElem?
  intro i
  by_cases hi : i < 64
  · rw [rowsA_at _ hi, rowsA_at _ hi, mkS_congr fun j hj => h i j hi hj]
  · rw [Array.getElem?_eq_none (by rw [rowsA_size]; omega), Array.getElem?_eq_none (by rw [rowsA_size]; omega)]
/-- The block that holds a relation. -/
def RelAt (w : World) (g : Nat) (t : TypeId) (R : Mat) : Prop := w.heap[g]? = some (.cells (rowsA R) t (0, 0))
theorem RelAt.cell {w : World} {g : Nat} {t : TypeId} {R : Mat} (h : RelAt w g t R) {i : Nat} (hi : i < 64) : w.cell? ⟨g, i, none⟩ = some (.int .u64 ((mkS (R i) : Nat) : Int)) := by
  rw [cell_of_row w g i _ _ _ h, rowsA_at R hi]
theorem RelAt.free {w : World} {g : Nat} {t : TypeId} {R : Mat} (h : RelAt w g t R) (i : Nat) : w.frozen? ⟨g, i, none⟩ = false := frozen_of_row w g i _ _ h
theorem RelAt.lt {w : World} {g : Nat} {t : TypeId} {R : Mat} (h : RelAt w g t R) : g < w.heap.size := by
  by_cases h0 : g < w.heap.size
  · exact h0
  · unfold RelAt at h; rw [Array.getElem?_eq_none (Nat.le_of_not_lt h0)] at h; cases h
theorem RelAt.below {w w' : World} {g B : Nat} {t : TypeId} {R : Mat} (h : RelAt w g t R) (hb : Below B w w') (hB : g < B) : RelAt w' g t R := by
  unfold RelAt at *; rw [hb.block g hB, h]
theorem RelAt.store {w : World} {g : Nat} {t : TypeId} {R : Mat} (h : RelAt w g t R) (a s : Nat) (p : Nat → Bool) (hs : s = mkS p) :
    RelAt (w.setCell ⟨g, a, none⟩ (.int .u64 (s : Int))) g t (rowSet R a p) := by
  unfold RelAt at *
  rw [heap_setCell_same w g a _ t _ h, rowsA_set R a s p hs]
theorem RelAt.other {w : World} {g : Nat} {t : TypeId} {R : Mat} (h : RelAt w g t R) {k : Addr} (hk : g ≠ k.block) (v : Value) : RelAt (w.setCell k v) g t R := by
  unfold RelAt at *; rw [heap_setCell_other w k g v hk, h]
theorem RelAt.alloc {w : World} {g : Nat} {t : TypeId} {R : Mat} (h : RelAt w g t R) (o : Obj) : RelAt (w.alloc o) g t R := by
  have hl := RelAt.lt h
  unfold RelAt at *; rw [Below.heap_alloc w o g hl, h]
theorem RelAt.new (w : World) (t : TypeId) (R : Mat) : RelAt (w.alloc (.cells (rowsA R) t)) w.heap.size t R := heap_alloc_new w _
/-- The relation that has nothing. -/
def noR : Mat := fun _ _ => false
theorem rowsA_none : rowsA noR = Array.replicate 64 (.int .u64 0) := by
  apply Array.ext_getElem?
  intro i
  by_cases hi : i < 64
  · rw [rowsA_at _ hi, Array.getElem?_replicate, if_pos hi]
    have : mkS (noR i) = 0 := mkS_false
    rw [this]; rfl
  · rw [Array.getElem?_eq_none (by rw [rowsA_size]; omega), Array.getElem?_eq_none (by simp; omega)]
theorem RelAt.made (w : World) (t : TypeId) (R : Mat) {cs : Array Value} {g : Nat} (hg : g = w.heap.size) (hc : cs = rowsA R) : RelAt (w.alloc (.cells cs t)) g t R := by
  subst hg hc; exact RelAt.new w t R
end Go.Proofs.Ytfekcmhjdjifgaa

namespace Go.Proofs.Ytfekcmhjdjifgaa
set_option maxRecDepth 100000
open Go.RowKit

def mayB (n : Int) : Bool := decide (0 ≤ n ∧ n < 64)
set_option maxHeartbeats 400000 in
theorem rmayn_any (n : Int) (w : World) :
    Calls Try.prog 41 #[.int .i64 n] w fun e w' => e = .returned (.bool (mayB n)) ∧ w = w' := by
  have H : Hid ((decide (0 ≤ n) && decide (n < 64)) = mayB n) := Lib.hid (by unfold mayB; simp)
  by_cases h0 : 0 ≤ n
  · have H1 : Hid (decide (n < 64) = mayB n) := Lib.hid (by rw [← H.out]; simp [h0])
    go_enter Try.func41, Try.ntmps41
    go_wp2
    go_ret
    exact ⟨ret_b H1.out, rfl⟩
  · have H1 : Hid (false = mayB n) := Lib.hid (by rw [← H.out]; simp [h0])
    go_enter Try.func41, Try.ntmps41
    go_wp2
    go_ret
    exact ⟨ret_b H1.out, rfl⟩
theorem may_yes (n : Int) (w : World) (h : 0 ≤ n ∧ n < 64) : Calls Try.prog 41 #[.int .i64 n] w fun e w' => e = .returned (.bool true) ∧ w = w' := by
  have := rmayn_any n w
  rwa [show mayB n = true from by unfold mayB; simp [h]] at this
theorem may_no (n : Int) (w : World) (h : ¬ (0 ≤ n ∧ n < 64)) : Calls Try.prog 41 #[.int .i64 n] w fun e w' => e = .returned (.bool false) ∧ w = w' := by
  have := rmayn_any n w
  rwa [show mayB n = false from by unfold mayB; simp [h]] at this

/-- Does a stand to b, of any numbers? -/
def hasR (R : Mat) (a b : Int) : Bool := mayB a && hasB (mkS (R a.toNat)) b
set_option maxHeartbeats 400000 in
theorem rhasR_any (R : Mat) (a b : Int) (w : World) :
    Calls Try.prog 10 #[.agg (rowsA R), .int .i64 a, .int .i64 b] w fun e w' => e = .returned (.bool (hasR R a b)) ∧ Below w.heap.size w w' := by
  by_cases ha : 0 ≤ a ∧ a < 64
  · obtain ⟨i, rfl⟩ := Int.eq_ofNat_of_zero_le ha.1
    have hi : i < 64 := by omega
    have CM := Lib.hid (fun wx => may_yes (i : Int) wx ha)
    have HR : Hid (hasB (mkS (R i)) b = hasR R (i : Int) b) := Lib.hid (by unfold hasR mayB; simp [ha])
    have hc := (RelAt.new w 32 R).cell hi
    have hset := isSet_mkS (R i)
    clear ha
    generalize mkS (R i) = s at *
    go_enter Try.func10, Try.ntmps10
    go_wp2_with (first
      | (go_at_call 41; refine (CM.out _).mono ?_; rintro e w' ⟨rfl, rfl⟩)
      | (go_at_call 12; refine (has_any s b _ hset).mono ?_; rintro e w' ⟨rfl, rfl⟩))
    go_ret
    exact ⟨ret_b HR.out, (Below.refl _ _).alloc (Nat.le_refl _) _⟩
  · have CM := Lib.hid (fun wx => may_no a wx ha)
    have HR : Hid (false = hasR R a b) := Lib.hid (by unfold hasR mayB; simp [ha])
    clear ha
    go_enter Try.func10, Try.ntmps10
    go_wp2_with (go_at_call 41; refine (CM.out _).mono ?_; rintro e w' ⟨rfl, rfl⟩)
    go_ret
    exact ⟨ret_b HR.out, (Below.refl _ _).alloc (Nat.le_refl _) _⟩

theorem infoRel : (Try.prog.info? 32).map (·.size) = some 64 := by kernel_rfl
theorem infoRel' (R : Mat) : (Try.prog.info? 32).map (·.size) = some (rowsA R).size := by rw [rowsA_size]; exact infoRel
theorem rows_one (R : Mat) : (rowsA R).all (·.oneCell') = true := by
  rw [Array.all_eq_true_iff_forall_mem]
  intro v hv
  have : v ∈ (rowsA R).toList := by simpa using hv
  simp only [rowsA, List.toList_toArray, List.mem_map] at this
  obtain ⟨i, _, rfl⟩ := this
  rfl
theorem RelAt.setRow {w : World} {g : Nat} {t : TypeId} {R : Mat} (h : RelAt w g t R) (S : Mat) : RelAt (w.setRow g (rowsA S)) g t S := setRow_heap w g _ _ t _ h
/-- A whole relation read out of its block, and written into one. -/
theorem wpList_load_rel {ops : Array Oper} {rest : List Oper} {o : Oper} {a : Act} {w : World} {Q : Exit → Act → World → Prop} {g : Nat} {R : Mat} (h : RelAt w g 32 R) (hgd : o.guard = none) (x : Operand) (ho : o.op = .load 32 x)
    (hx : a.eval x = .pointer (some ⟨g, 0, none⟩)) (hn : wpList Try.prog ops Q rest (a.put o.dst (.agg (rowsA R))) w) : wpList Try.prog ops Q (o :: rest) a w :=
  wpList_load_row hgd 32 x ho g hx _ (rowsA R) _ _ h Try.underlying32 rfl (infoRel' _) hn
theorem wpList_store_rel {ops : Array Oper} {rest : List Oper} {o : Oper} {a : Act} {w : World} {Q : Exit → Act → World → Prop} {g : Nat} {S : Mat} (h : RelAt w g 32 S) (R : Mat) (hgd : o.guard = none) (x y : Operand) (ho : o.op = .store 32 x y)
    (hx : a.eval x = .pointer (some ⟨g, 0, none⟩)) (hy : a.eval y = .agg (rowsA R)) (hn : wpList Try.prog ops Q rest (a.put o.dst undef) (w.setRow g (rowsA R))) : wpList Try.prog ops Q (o :: rest) a w :=
  wpList_store_row hgd 32 x y ho g (rowsA R) hx hy _ _ h (infoRel' _) (by rw [rowsA_size, rowsA_size]) (rows_one _) hn
theorem results_rel {fn : Func} {p : Tmp} (h : fn.results = #[.cell p 32]) (tmps : Array Value) (w : World) (g : Nat) (R : Mat)
    (hp : tmps.getD p undef = .pointer (some ⟨g, 0, none⟩)) (hg : RelAt w g 32 R) : (results fn tmps).run Try.prog w = .ok (.agg (rowsA R)) w :=
  results_cell_row h tmps w g _ (rowsA R) _ _ hp hg Try.underlying32 rfl (infoRel' _)
theorem mkS_or (p q : Nat → Bool) : mkS p ||| mkS q = mkS fun j => p j || q j := by
  apply mkS_eq (isSet_or (isSet_mkS p) (isSet_mkS q))
  intro i hi
  rw [Nat.testBit_or, testBit_mkS, testBit_mkS]; simp [hi]
theorem u64_or (p q : Nat → Bool) : Go.bits .or .u64 ((mkS p : Nat) : Int) ((mkS q : Nat) : Int) = ((mkS (fun j => p j || q j) : Nat) : Int) := by
  rw [Go.bits_or_u64_nat _ _ (isSet_mkS p) (isSet_mkS q), mkS_or]
end Go.Proofs.Ytfekcmhjdjifgaa

namespace Go.Proofs.Ytfekcmhjdjifgaa
set_option maxRecDepth 100000

/-- One comes from i to j, in one step or more, by numbers below 64. -/
inductive Path (R : Mat) : Nat → Nat → Prop
  | one {i j : Nat} : R i j = true → Path R i j
  | more {i m j : Nat} : R i m = true → m < 64 → Path R m j → Path R i j
theorem Path.trans {R : Mat} {i m j : Nat} (h : Path R i m) (hm : m < 64) (k : Path R m j) : Path R i j := by
  induction h with
  | one h => exact .more h hm k
  | more h h2 _ ih => exact .more h h2 (ih hm k)
theorem Path.mono {R S : Mat} {i j : Nat} (h : Path R i j) (hRS : ∀ a b, R a b = true → S a b = true) : Path S i j := by
  induction h with
  | one h => exact .one (hRS _ _ h)
  | more h h2 _ ih => exact .more (hRS _ _ h) h2 ih
/-- One pass: what comes by m is added on. -/
def wPass (R : Mat) (m : Nat) : Mat := fun i j => R i j || (R i m && R m j)
/-- The pass, done for the rows below k. -/
def wTo (R : Mat) (m k : Nat) : Mat := fun i j => if i < k then wPass R m i j else R i j
def cloTo (R : Mat) : Nat → Mat
  | 0 => R
  | m + 1 => wPass (cloTo R m) m
def clo (R : Mat) : Mat := cloTo R 64
theorem cloTo_path (R : Mat) : ∀ (k : Nat), k ≤ 64 → ∀ i j, cloTo R k i j = true → Path R i j
  | 0, _, i, j, h => .one h
  | k + 1, hk, i, j, h => by
    have h' : (cloTo R k i j || (cloTo R k i k && cloTo R k k j)) = true := h
    rw [Bool.or_eq_true, Bool.and_eq_true] at h'
    rcases h' with h' | ⟨h1, h2⟩
    · exact cloTo_path R k (by omega) i j h'
    · exact (cloTo_path R k (by omega) i k h1).trans (by omega) (cloTo_path R k (by omega) k j h2)
theorem cloTo_sub (R : Mat) (i j : Nat) (h : R i j = true) : ∀ k, cloTo R k i j = true
  | 0 => h
  | k + 1 => by
    show (cloTo R k i j || _) = true
    rw [cloTo_sub R i j h k]; rfl
theorem cloTo_trans (R : Mat) : ∀ (k : Nat) (i m j : Nat), m < k → cloTo R k i m = true → cloTo R k m j = true → cloTo R k i j = true
  | 0, _, _, _, h, _, _ => by omega
  | k + 1, i, m, j, hm, h1, h2 => by
    have ih := cloTo_trans R k
    have e1 : (cloTo R k i m || (cloTo R k i k && cloTo R k k m)) = true := h1
    have e2 : (cloTo R k m j || (cloTo R k m k && cloTo R k k j)) = true := h2
    show (cloTo R k i j || (cloTo R k i k && cloTo R k k j)) = true
    generalize cloTo R k = A at *
    rw [Bool.or_eq_true, Bool.and_eq_true] at *
    by_cases hmk : m = k
    · subst hmk
      exact .inr ⟨e1.elim id (·.1), e2.elim id (·.2)⟩
    · have hlt : m < k := by omega
      rcases e1 with a | ⟨a1, a2⟩ <;> rcases e2 with b | ⟨b1, b2⟩
      · exact .inl (ih i m j hlt a b)
      · exact .inr ⟨ih i m k hlt a b1, b2⟩
      · exact .inr ⟨a1, ih k m j hlt a2 b⟩
      · exact .inr ⟨a1, b2⟩
theorem clo_iff (R : Mat) (i j : Nat) : clo R i j = true ↔ Path R i j := by
  constructor
  · exact cloTo_path R 64 (Nat.le_refl _) i j
  · intro h
    induction h with
    | one h => exact cloTo_sub R _ _ h 64
    | more h hm _ ih => exact cloTo_trans R 64 _ _ _ hm (cloTo_sub R _ _ h 64) ih
theorem wTo_row (R : Mat) (m k : Nat) : wTo R m k m = R m := by
  funext j
  unfold wTo wPass
  split
  · cases R m m <;> cases R m j <;> rfl
  · rfl
theorem wTo_at (R : Mat) (m k : Nat) : wTo R m k k = R k := by funext j; unfold wTo; rw [if_neg (by omega)]
theorem wTo_hit (R : Mat) (m k : Nat) (h : R k m = true) : rowSet (wTo R m k) k (fun j => R k j || R m j) = wTo R m (k + 1) := by
  funext i j
  unfold rowSet wTo
  by_cases e : i = k
  · subst e; rw [if_pos rfl, if_pos (by omega)]; unfold wPass; rw [h]; simp
  · rw [if_neg e]
    by_cases h2 : i < k
    · rw [if_pos h2, if_pos (by omega)]
    · rw [if_neg h2, if_neg (by omega)]
theorem wTo_miss (R : Mat) (m k : Nat) (h : R k m = false) : wTo R m (k + 1) = wTo R m k := by
  funext i j
  unfold wTo
  by_cases e : i = k
  · subst e; rw [if_pos (by omega), if_neg (by omega)]; unfold wPass; rw [h]; simp
  · by_cases h2 : i < k
    · rw [if_pos h2, if_pos (by omega)]
    · rw [if_neg h2, if_neg (by omega)]
theorem wTo_end (R : Mat) (m : Nat) : rowsA (wTo R m 64) = rowsA (wPass R m) := rowsA_congr fun i j hi _ => by unfold wTo; rw [if_pos hi]
/-- Does nothing stand to itself? -/
def irr (R : Mat) : Bool := (List.range 64).all fun i => !R i i
def acy (R : Mat) : Bool := irr (clo R)
theorem irr_succ (R : Mat) (k : Nat) : ((List.range (k + 1)).all fun i => !R i i) = (((List.range k).all fun i => !R i i) && !R k k) := by
  rw [List.range_succ, List.all_append]; simp
theorem acy_iff (R : Mat) : acy R = true ↔ ∀ i, i < 64 → ¬ Path R i i := by
  unfold acy irr
  rw [List.all_eq_true]
  constructor
  · intro h i hi hp
    have := h i (List.mem_range.2 hi)
    rw [(clo_iff R i i).2 hp] at this
    cases this
  · intro h i hi
    cases e : clo R i i
    · rfl
    · exact absurd ((clo_iff R i i).1 e) (h i (List.mem_range.1 hi))
end Go.Proofs.Ytfekcmhjdjifgaa

namespace Go.Proofs.Ytfekcmhjdjifgaa
set_option maxRecDepth 100000
open Go.RowKit

theorem infoSet : (Try.prog.info? 30).map (·.size) = some 1 := by kernel_rfl
theorem run_index_rel (R : Mat) (k : Nat) (hk : k < 64) (w : World) :
    (Instr.index 32 (.agg (rowsA R)) (.int .i64 (k : Int))).run Try.prog w = .ok (.int .u64 ((mkS (R k) : Nat) : Int)) w := by
  have h1 := rowsA_at R hk
  obtain ⟨i, hi, hs⟩ := Option.map_eq_some_iff.1 infoSet
  simp [Instr.index, asIntOf, Sem.run_bind, run_underlying Try.underlying32 w, hk, sizeOf, typeInfo, hi, hs, part, isAgg, h1]

def inMTo (R S : Mat) (k : Nat) : Bool := (List.range k).all fun i => inB (mkS (R i)) (mkS (S i))
/-- Is a relation within another one? -/
def inM (R S : Mat) : Bool := inMTo R S 64
theorem inMTo_succ (R S : Mat) (k : Nat) : inMTo R S (k + 1) = (inMTo R S k && inB (mkS (R k)) (mkS (S k))) := by
  unfold inMTo
  rw [List.range_succ, List.all_append]; simp
theorem inMTo_no (R S : Mat) (k : Nat) (hk : k < 64) (h : inB (mkS (R k)) (mkS (S k)) = false) : false = inM R S := by
  symm
  unfold inM inMTo
  rw [List.all_eq_false]
  exact ⟨k, List.mem_range.2 hk, by simp [h]⟩
set_option maxHeartbeats 1000000 in
theorem withinR_any (R S : Mat) (w : World) :
    Calls Try.prog 18 #[.agg (rowsA R), .agg (rowsA S)] w fun e w' => e = .returned (.bool (inM R S)) ∧ Below w.heap.size w w' := by
  go_enter Try.func18, Try.ntmps18
  go_wp2
  go_loopw [6] (fun i wr => ∃ k : Nat, k ≤ 64 ∧ i = .int .i64 k ∧ inMTo R S k = true ∧ RelAt wr w.heap.size 32 R ∧ RelAt wr (w.heap.size + 1) 32 S ∧ Below w.heap.size w wr)
    (fun i _ => 64 - (intOf i).toNat)
  case atStart =>
    refine ⟨0, by omega, rfl, rfl, ?_, ?_, ?_⟩
    · exact (RelAt.made w _ R rfl rfl).alloc _
    · exact RelAt.made _ _ S (by simp) rfl
    · exact ((Below.refl w.heap.size w).alloc (Nat.le_refl _) _).alloc (by simp) _
  case round =>
    obtain ⟨k, hk, rfl, hin, h0, h1, hb⟩ := hrel
    have HI := Lib.hid hin
    clear hin
    by_cases hlt : k < 64
    · have hc0 := h0.cell hlt
      have hc1 := h1.cell hlt
      have H0 := Lib.hid h0
      have H1 := Lib.hid h1
      have HS := Lib.hid (inMTo_succ R S k)
      have HN := Lib.hid (inMTo_no R S k hlt)
      have hs0 := isSet_mkS (R k)
      have hs1 := isSet_mkS (S k)
      clear h0 h1
      generalize mkS (R k) = x at *
      generalize mkS (S k) = y at *
      have C : ∀ wx, Calls Try.prog 46 #[.int .u64 (x : Int), .int .u64 (y : Int)] wx fun e w' => e = .returned (.bool (inB x y)) ∧ w' = wx :=
        fun wx => (within_any x y wx hs0 hs1).mono fun _ _ h => ⟨h.1, h.2.symm⟩
      cases hh : inB x y
      all_goals
        rw [hh] at C
        have CH := Lib.hid C
        have HE := Lib.hid hh
        clear C hh
        go_wp2
        go_quiet ((go_at_call 46; exact Calls.quiet_of_same (CH.out _)))
        go_wp2
      · go_ret
        exact ⟨ret_b (HN.out HE.out), below_drewN hb _⟩
      · go_roundw
        case rel => exact ⟨k + 1, by omega, by go_num, by rw [HS.out, HI.out, HE.out]; rfl, H0.out, H1.out, below_drewN hb _⟩
        case measure => simp [intOf]; omega
    · have hk64 : k = 64 := by omega
      subst hk64
      have HI' : Hid (true = inM R S) := Lib.hid HI.out.symm
      go_wp2
      go_ret
      exact ⟨ret_b HI'.out, hb⟩

theorem hasB_mkS (p : Nat → Bool) (n : Nat) (hn : n < 64) : hasB (mkS p) (n : Int) = p n := by
  unfold hasB
  have h : 0 ≤ (n : Int) ∧ (n : Int) < 64 := by omega
  rw [Int.toNat_natCast, testBit_mkS]
  simp [h, hn]
set_option maxHeartbeats 2000000 in
theorem rclos_any (R : Mat) (w : World) :
    Calls Try.prog 45 #[.agg (rowsA R)] w fun e w' => e = .returned (.agg (rowsA (clo R))) ∧ Below w.heap.size w w' := by
  go_enter Try.func45, Try.ntmps45
  go_wp2
  go_loopw [5] (fun i wr => ∃ m : Nat, m ≤ 64 ∧ i = .int .i64 m ∧ RelAt wr w.heap.size 32 (cloTo R m) ∧ RelAt wr (w.heap.size + 1) 32 noR ∧ Below w.heap.size w wr)
    (fun i _ => 64 - (intOf i).toNat)
  case atStart =>
    refine ⟨0, by omega, rfl, ?_, ?_, ?_⟩
    · exact (RelAt.made w _ R rfl rfl).alloc _
    · exact RelAt.made _ _ noR (by simp) (by rw [rowsA_none]; rfl)
    · exact ((Below.refl w.heap.size w).alloc (Nat.le_refl _) _).alloc (by simp) _
  case round =>
    obtain ⟨m, hm, rfl, h0, h1, hb⟩ := hrel
    by_cases hlt : m < 64
    · have HE : Hid (rowsA (wTo (cloTo R m) m 64) = rowsA (cloTo R (m + 1))) := Lib.hid (wTo_end _ _)
      have HA : Hid (rowsA (cloTo R m) = rowsA (wTo (cloTo R m) m 0)) := Lib.hid (rowsA_congr fun i j _ _ => by unfold wTo; rw [if_neg (by omega)])
      have H0 := Lib.hid h0
      clear h0
      generalize cloTo R m = A at *
      have hdm : decide ((m : Int) < 64) = true := by simp; omega
      go_wp2_with fail
      go_loopw [8] (fun i wx => ∃ k : Nat, k ≤ 64 ∧ i = .int .i64 k ∧ RelAt wx w.heap.size 32 (wTo A m k) ∧ RelAt wx (w.heap.size + 1) 32 noR ∧ Below w.heap.size w wx)
        (fun i _ => 64 - (intOf i).toNat)
      case atStart => exact ⟨0, by omega, rfl, by have := H0.out; unfold RelAt at *; rw [← HA.out]; exact this, h1, hb⟩
      case round =>
        obtain ⟨k, hk, rfl, hx0, hx1, hxb⟩ := hrel
        by_cases hlk : k < 64
        · have hc0 := hx0.cell hlk
          have hc1 := hx0.cell hlt
          rw [wTo_at] at hc0
          rw [wTo_row] at hc1
          have hf := hx0.free k
          have C := fun wx => has_any (mkS (A k)) (m : Int) wx (isSet_mkS _)
          rw [hasB_mkS _ _ hlt] at C
          cases hh : A k m
          · rw [hh] at C
            have CH := Lib.hid C
            have HM := Lib.hid (wTo_miss A m k hh)
            have HX := Lib.hid hx0
            clear C hh hx0
            generalize mkS (A k) = x at *
            generalize mkS (A m) = y at *
            go_wp2_with (go_at_call 12; refine (CH.out _).mono ?_; rintro e w' ⟨rfl, rfl⟩)
            go_roundw
            case rel => exact ⟨k + 1, by omega, by go_num, by rw [HM.out]; exact HX.out, hx1, hxb⟩
            case measure => simp [intOf]; omega
          · rw [hh] at C
            have CH := Lib.hid C
            have HM := Lib.hid (wTo_hit A m k hh)
            have HO := u64_or (A k) (A m)
            have HN := Lib.hid (hx0.store k _ (fun j => A k j || A m j) rfl)
            have H1 := Lib.hid (hx1.other (k := ⟨w.heap.size, k, none⟩) (by simp) (.int .u64 ((mkS (fun j => A k j || A m j) : Nat) : Int)))
            have HB := Lib.hid (hxb.setCell (p := ⟨w.heap.size, k, none⟩) (Nat.le_refl _) (.int .u64 ((mkS (fun j => A k j || A m j) : Nat) : Int)))
            clear C hh hx0 hx1 hxb
            generalize mkS (fun j => A k j || A m j) = z at *
            generalize mkS (A k) = x at *
            generalize mkS (A m) = y at *
            have hmi : (m : Int) < 64 := by omega
            have hki : (k : Int) < 64 := by omega
            go_wp2_with (go_at_call 12; refine (CH.out _).mono ?_; rintro e w' ⟨rfl, rfl⟩)
            go_still_tail 8, (by kernel_rfl)
            go_wp2
            go_roundw
            case rel => exact ⟨k + 1, by omega, by go_num, by rw [← HM.out]; exact HN.out, H1.out, HB.out.drew⟩
            case measure => simp [intOf]; omega
        · have hk64 : k = 64 := by omega
          subst hk64
          have HX : Hid (RelAt _ w.heap.size 32 (cloTo R (m + 1))) := Lib.hid (by unfold RelAt at *; rw [← HE.out]; exact hx0)
          clear hx0
          go_wp2
          go_roundw
          case rel => exact ⟨m + 1, by omega, by go_num, HX.out, hx1, hxb⟩
          case measure => simp [intOf]; omega
    · have hm64 : m = 64 := by omega
      subst hm64
      go_wp2_with (first
        | (with_reducible refine wpList_load_rel h0 rfl _ rfl rfl ?_)
        | (with_reducible refine wpList_store_rel h1 (cloTo R 64) rfl _ _ rfl rfl rfl ?_))
      exact bodyPost_ret (results_rel rfl _ _ _ _ rfl (h1.setRow (cloTo R 64))) rfl ⟨rfl, below_setRow hb (by omega) _⟩
end Go.Proofs.Ytfekcmhjdjifgaa

namespace Go.Proofs.Ytfekcmhjdjifgaa
set_option maxRecDepth 100000
open Go.RowKit

def irrTo (R : Mat) (k : Nat) : Bool := (List.range k).all fun i => !R i i
theorem irrTo_no (R : Mat) (k : Nat) (hk : k < 64) (h : R k k = true) : false = irr R := by
  symm
  unfold irr
  rw [List.all_eq_false]
  exact ⟨k, List.mem_range.2 hk, by simp [h]⟩
set_option maxHeartbeats 1000000 in
theorem acyclic_any (R : Mat) (w : World) :
    Calls Try.prog 17 #[.agg (rowsA R)] w fun e w' => e = .returned (.bool (acy R)) ∧ Below w.heap.size w w' := by
  have h0 := RelAt.new w 32 R
  have HD : Hid (acy R = irr (clo R)) := Lib.hid rfl
  go_enter Try.func17, Try.ntmps17
  go_wp2_with (with_reducible refine wpList_load_rel h0 rfl _ rfl rfl ?_)
  refine (rclos_any R _).mono ?_
  rintro e w1 ⟨rfl, hb⟩
  have hb1 : Below w.heap.size w w1 := ((Below.refl w.heap.size w).alloc (Nat.le_refl _) _).trans (hb.mono (by simp))
  clear hb h0
  go_wp2_with fail
  generalize clo R = C at *
  go_loop [7] (fun i => ∃ k : Nat, k ≤ 64 ∧ i = .int .i64 k ∧ irrTo C k = true) (fun i => 64 - (intOf i).toNat)
  case atStart => exact ⟨0, by omega, rfl, rfl⟩
  case round =>
    obtain ⟨k, hk, rfl, hirr⟩ := hrel
    have HI := Lib.hid hirr
    clear hirr
    by_cases hlt : k < 64
    · have hidx := fun wx => run_index_rel C k hlt wx
      have CH := fun wx => has_any (mkS (C k)) (k : Int) wx (isSet_mkS _)
      rw [hasB_mkS _ _ hlt] at CH
      have HS := Lib.hid (irr_succ C k)
      have HN := Lib.hid (irrTo_no C k hlt)
      cases hh : C k k
      all_goals
        rw [hh] at CH
        have CH' := Lib.hid CH
        have HE := Lib.hid hh
        clear CH hh
        generalize mkS (C k) = x at *
        go_wp2_with (go_at_call 12; refine (CH'.out _).mono ?_; rintro e w' ⟨rfl, rfl⟩)
      · go_round
        case rel => exact ⟨k + 1, by omega, by go_num, by unfold irrTo; rw [HS.out, HE.out]; have := HI.out; unfold irrTo at this; rw [this]; rfl⟩
        case measure => simp [intOf]; omega
      · go_ret
        exact ⟨ret_b (by rw [HD.out]; exact HN.out HE.out), hb1⟩
    · have hk64 : k = 64 := by omega
      subst hk64
      go_wp2
      go_ret
      exact ⟨ret_b (by rw [HD.out]; exact HI.out.symm), hb1⟩

theorem withS_mkS (q : Nat → Bool) (a : Nat) (ha : a < 64) : withS (mkS q) (a : Int) = mkS fun j => q j || decide (j = a) := by
  apply mkS_eq (isSet_withS (isSet_mkS q))
  intro i hi
  rw [testBit_withS, testBit_mkS]
  have h : 0 ≤ (a : Int) ∧ (a : Int) < 64 := by omega
  simp only [hi, h, decide_true, Bool.true_and, and_self, Int.toNat_natCast]
  congr 1
  rw [Bool.eq_iff_iff]; simp; exact ⟨fun h => h.symm, fun h => h.symm⟩
end Go.Proofs.Ytfekcmhjdjifgaa

namespace Go.Proofs.Ytfekcmhjdjifgaa
set_option maxRecDepth 100000
open Go.RowKit

/-- With one pair more, if both may be. -/
def addM (R : Mat) (a b : Int) : Mat := if mayB a = true ∧ mayB b = true then rowSet R a.toNat (fun j => R a.toNat j || decide (j = b.toNat)) else R
set_option maxHeartbeats 1000000 in
theorem add_yes (R : Mat) (g : Nat) (a b : Nat) (w : World) (h : RelAt w g 32 R) (ha : a < 64) (hb : b < 64) :
    Calls Try.prog 61 #[.pointer (some ⟨g, 0, none⟩), .int .i64 (a : Int), .int .i64 (b : Int)] w fun e w' => e = .returned (.bool true) ∧ RelAt w' g 32 (rowSet R a (fun j => R a j || decide (j = b))) ∧ w.grownBy w' (some g) := by
  have hma : mayB (a : Int) = true := by unfold mayB; simp; omega
  have hmb : mayB (b : Int) = true := by unfold mayB; simp; omega
  have hc := h.cell ha
  have hf := h.free a
  have hM := Lib.hid (withS_mkS (R a) b hb)
  have hset := isSet_mkS (R a)
  have hlt := h.lt
  have HN := Lib.hid (h.store a _ (fun j => R a j || decide (j = b)) hM.out)
  have CW : ∀ wx, Calls Try.prog 60 #[.int .u64 ((mkS (R a) : Nat) : Int), .int .i64 (b : Int)] wx fun e w' => e = .returned (.int .u64 ((withS (mkS (R a)) (b : Int) : Nat) : Int)) ∧ w' = wx :=
    fun wx => (with_any _ _ wx hset).mono fun _ _ h => ⟨h.1, h.2.symm⟩
  have HG : Hid (w.grownBy (w.setCell ⟨g, a, none⟩ (.int .u64 ((withS (mkS (R a)) (b : Int) : Nat) : Int))) (some g)) :=
    Lib.hid ⟨rfl, rfl, rfl, by simp, fun k _ hk => Below.heap_setCell w ⟨g, a, none⟩ _ k (fun e => hk (by rw [e]))⟩
  have CWH := Lib.hid CW
  clear CW h
  generalize mkS (R a) = x at *
  generalize withS x (b : Int) = z at *
  have hai : (a : Int) < 64 := by omega
  go_enter Try.func61, Try.ntmps61
  go_wp2_with (go_at_call 41; refine (rmayn_any _ _).mono ?_; rintro e w' ⟨rfl, rfl⟩)
  go_still_tail 11, (by kernel_rfl)
  still_call (CWH.out _)
  repeat still_step
  refine wpStill_nil ?_
  go_wp2
  go_ret
  exact ⟨rfl, HN.out, ⟨HG.out.os, HG.out.tape, HG.out.output, HG.out.size, HG.out.block⟩⟩
theorem add_no (R : Mat) (g : Nat) (a b : Int) (w : World) (h : RelAt w g 32 R) (hab : ¬ (mayB a = true ∧ mayB b = true)) :
    Calls Try.prog 61 #[.pointer (some ⟨g, 0, none⟩), .int .i64 a, .int .i64 b] w fun e w' => e = .returned (.bool false) ∧ RelAt w' g 32 R ∧ w.grownBy w' (some g) := by
  have HR := Lib.hid h
  clear h
  cases ha : mayB a
  · clear hab
    go_enter Try.func61, Try.ntmps61
    go_wp2_with (go_at_call 41; refine (rmayn_any _ _).mono ?_; rintro e w' ⟨rfl, rfl⟩)
    go_ret
    exact ⟨rfl, HR.out, World.grownBy.refl _ _⟩
  · have hb : mayB b = false := by cases hb : mayB b <;> simp_all
    clear hab
    go_enter Try.func61, Try.ntmps61
    go_wp2_with (go_at_call 41; refine (rmayn_any _ _).mono ?_; rintro e w' ⟨rfl, rfl⟩)
    go_ret
    exact ⟨rfl, HR.out, World.grownBy.refl _ _⟩
theorem mayB_iff (n : Int) : mayB n = true ↔ 0 ≤ n ∧ n < 64 := by unfold mayB; simp
theorem add_any (R : Mat) (g : Nat) (a b : Int) (w : World) (h : RelAt w g 32 R) :
    Calls Try.prog 61 #[.pointer (some ⟨g, 0, none⟩), .int .i64 a, .int .i64 b] w fun e w' => e = .returned (.bool (mayB a && mayB b)) ∧ RelAt w' g 32 (addM R a b) ∧ w.grownBy w' (some g) := by
  by_cases hab : mayB a = true ∧ mayB b = true
  · have h1 := (mayB_iff a).1 hab.1
    have h2 := (mayB_iff b).1 hab.2
    have e1 : (mayB a && mayB b) = true := by rw [hab.1, hab.2]; rfl
    have e2 : addM R a b = rowSet R a.toNat (fun j => R a.toNat j || decide (j = b.toNat)) := if_pos hab
    rw [e1, e2]
    obtain ⟨i, rfl⟩ := Int.eq_ofNat_of_zero_le h1.1
    obtain ⟨j, rfl⟩ := Int.eq_ofNat_of_zero_le h2.1
    simp only [Int.toNat_natCast]
    exact add_yes R g i j w h (by omega) (by omega)
  · have e1 : (mayB a && mayB b) = false := by cases ha : mayB a <;> cases hb : mayB b <;> simp_all
    have e2 : addM R a b = R := if_neg hab
    rw [e1, e2]
    exact add_no R g a b w h hab
end Go.Proofs.Ytfekcmhjdjifgaa

namespace Go.Proofs.Ytfekcmhjdjifgaa
set_option maxRecDepth 100000
open Go.RowKit

/-- The first k numbers of a row; the first a rows. -/
def prsRow (S : Nat → Nat → Bool) (a : Nat) (R : Mat) : Nat → Mat
  | 0 => R
  | b + 1 => if S a b then addM (prsRow S a R b) a b else prsRow S a R b
def prsTo (S : Nat → Nat → Bool) (n : Nat) : Nat → Mat
  | 0 => noR
  | a + 1 => prsRow S a (prsTo S n a) n
theorem prsRow_hit {S : Nat → Nat → Bool} {a b : Nat} (R : Mat) (h : S a b = true) : prsRow S a R (b + 1) = addM (prsRow S a R b) a b := if_pos h
theorem prsRow_miss {S : Nat → Nat → Bool} {a b : Nat} (R : Mat) (h : S a b = false) : prsRow S a R (b + 1) = prsRow S a R b := if_neg (by simp [h])
theorem results_rel1 {fn : Func} {p : Tmp} (h : fn.results = #[.cell p 32]) (tmps : Array Value) (w : World) (g : Nat) (R : Mat)
    (hp : tmps.getD p undef = .pointer (some ⟨g, 0, none⟩)) (hg : RelAt w g 32 R) : (results fn tmps).run Try.prog w = .ok (.agg (rowsA R)) w := by
  have hp' : tmps[p]?.getD undef = .pointer (some ⟨g, 0, none⟩) := by simpa using hp
  simp [results, h, hp', asAddr, run_loadVar_row w g _ 32 (rowsA R) _ _ hg Try.underlying32 rfl (infoRel' _)]
set_option maxHeartbeats 4000000 in
theorem pairs_any (S : Nat → Nat → Bool) (n : Nat) (hn : n ≤ 100) (f : FuncId) (cap : Array Value) (w : World) (hcf : ∀ (args : Array Value) (wx : World), Sem.run Try.prog (callFunc f args) wx = .ok (.enter f args) wx)
    (HF : ∀ (a b : Nat) (wx : World), a < n → b < n → Below w.heap.size w wx → Calls Try.prog f (#[.int .i64 a, .int .i64 b] ++ cap) wx fun e w' => e = .returned (.bool (S a b)) ∧ Below wx.heap.size wx w') :
    Calls Try.prog 33 #[.int .i64 n, .func (.func f) #[] cap] w fun e w' => e = .returned (.agg (rowsA (prsTo S n n))) ∧ Below w.heap.size w w' := by
  have HF' := Lib.hid HF
  clear HF
  go_enter Try.func33, Try.ntmps33
  go_wp2
  go_loopw [9] (fun i wr => ∃ k : Nat, k ≤ n ∧ i = .int .i64 k ∧ RelAt wr (w.heap.size + 1) 32 (prsTo S n k) ∧ RelAt wr w.heap.size 32 noR ∧ Below w.heap.size w wr)
    (fun i _ => n - (intOf i).toNat)
  case atStart =>
    refine ⟨0, by omega, rfl, ?_, ?_, ?_⟩
    · exact RelAt.made _ _ noR (by simp) (by rw [rowsA_none]; rfl)
    · exact (RelAt.made w _ noR rfl (by rw [rowsA_none]; rfl)).alloc _
    · exact ((Below.refl w.heap.size w).alloc (Nat.le_refl _) _).alloc (by simp) _
  case round =>
    obtain ⟨k, hk, rfl, h1, h0, hb⟩ := hrel
    by_cases hlt : k < n
    · have hki : (k : Int) < (n : Int) := by omega
      have HN : Hid (prsTo S n (k + 1) = prsRow S k (prsTo S n k) n) := Lib.hid rfl
      generalize prsTo S n k = R at *
      go_wp2_with fail
      go_loopw [13] (fun i wx => ∃ j : Nat, j ≤ n ∧ i = .int .i64 j ∧ RelAt wx (w.heap.size + 1) 32 (prsRow S k R j) ∧ RelAt wx w.heap.size 32 noR ∧ Below w.heap.size w wx)
        (fun i _ => n - (intOf i).toNat)
      case atStart => exact ⟨0, by omega, rfl, h1, h0, hb⟩
      case round =>
        clear h1 h0 hb
        obtain ⟨j, hj, rfl, h1, h0, hb⟩ := hrel
        by_cases hltj : j < n
        · have hkj : (j : Int) < (n : Int) := by omega
          have CF := Lib.hid (HF'.out k j wr hlt hltj hb)
          cases hs : S k j
          · rw [hs] at CF
            have HM := Lib.hid (prsRow_miss R hs)
            clear hs
            go_wp2_with fail
            refine (CF.out).mono ?_
            rintro e w6 ⟨rfl, hb6⟩
            have h16 := h1.below hb6 h1.lt
            have h06 := h0.below hb6 h0.lt
            have hbb := hb.trans (hb6.mono hb.size)
            clear h1 h0 hb hb6 CF
            go_wp2_with fail
            go_roundw
            case rel => exact ⟨j + 1, by omega, by go_num, by rw [HM.out]; exact h16, h06, hbb⟩
            case measure => simp [intOf]; omega
          · rw [hs] at CF
            have HM := Lib.hid (prsRow_hit R hs)
            clear hs
            go_wp2_with fail
            refine (CF.out).mono ?_
            rintro e w6 ⟨rfl, hb6⟩
            have h16 := h1.below hb6 h1.lt
            have h06 := h0.below hb6 h0.lt
            have hbb := hb.trans (hb6.mono hb.size)
            have CA := Lib.hid (add_any _ _ (k : Int) (j : Int) _ h16)
            clear h1 h0 hb hb6 CF h16
            go_wp2_with fail
            refine (CA.out).mono ?_
            rintro e w7 ⟨rfl, h17, hg7⟩
            have h07 : RelAt w7 w.heap.size 32 noR := by
              have := hg7.block w.heap.size h06.lt (by simp)
              unfold RelAt at *
              rw [this]
              exact h06
            have hb7 : Below w.heap.size w w7 := hbb.grown hg7 hbb.size (by simp)
            clear CA h06 hbb hg7
            go_wp2_with fail
            go_roundw
            case rel => exact ⟨j + 1, by omega, by go_num, by rw [HM.out]; exact h17, h07, hb7⟩
            case measure => simp [intOf]; omega
        · have hjn : j = n := by omega
          subst hjn
          go_wp2_with fail
          go_roundw
          case rel => exact ⟨k + 1, by omega, by go_num, by rw [HN.out]; exact h1, h0, hb⟩
          case measure => simp [intOf]; omega
    · have hkn : k = n := by omega
      subst hkn
      go_wp2_with (first
        | (with_reducible refine wpList_load_rel h1 rfl _ rfl rfl ?_)
        | (with_reducible refine wpList_store_rel h0 (prsTo S k k) rfl _ _ rfl rfl rfl ?_))
      have h3 := h0.setRow (prsTo S k k)
      exact bodyPost_ret (results_rel1 rfl _ _ _ _ rfl h3) rfl ⟨rfl, below_setRow hb (by omega) _⟩
end Go.Proofs.Ytfekcmhjdjifgaa

namespace Go.Proofs.Ytfekcmhjdjifgaa
set_option maxRecDepth 100000
open Go.RowKit

/-- Slices of ints in a slice: each one's value and what it holds. -/
def Rws (w : World) (v : Value) (K : List (Value × List Int)) : Prop := Row w v K.length 1 (K.map (·.1)) ∧ ∀ p ∈ K, Ints w p.1 p.2
theorem Rws.below {w w' : World} {v : Value} {K : List (Value × List Int)} (h : Rws w v K) (hb : Below w.heap.size w w') : Rws w' v K := ⟨Row.below h.1 hb, fun p hp => (h.2 p hp).below hb⟩
theorem Rws.form {w : World} {v : Value} {K : List (Value × List Int)} (h : Rws w v K) : ∃ ao cap, v = .slice ao K.length cap := by
  obtain ⟨⟨_, ao, cap, rfl, _⟩, _⟩ := h
  exact ⟨ao, cap, rfl⟩
theorem Rws.at {w : World} {ao : Option Addr} {n cap : Nat} {K : List (Value × List Int)} (h : Rws w (.slice ao n cap) K) {k : Nat} (hk : k < K.length) :
    ∃ b off, ao = some ⟨b, off, none⟩ ∧ w.cell? ⟨b, off + k, none⟩ = some K[k].1 ∧ Ints w K[k].1 K[k].2 := by
  obtain ⟨⟨_, ao', cap', he, hm, _, hc⟩, hi⟩ := h
  obtain ⟨rfl, _, _⟩ : ao = ao' ∧ n = K.length ∧ cap = cap' := by simpa using he
  obtain ⟨b, off, rfl, hcell⟩ := hc (by omega)
  exact ⟨b, off, rfl, by rw [hcell k (by omega)]; simp [List.getElem?_eq_getElem hk], hi _ (List.getElem_mem hk)⟩
def eS (s : Nat) : Value := .int .u64 (s : Int)
/-- Who writes to each key: a row's first ones; the first rows. -/
def wrsRow (i : Nat) (F : Int → Option Nat) (xs : List Int) : Int → Option Nat := xs.foldl (fun F x => putF F x (withS ((F x).getD 0) i)) F
def wrsTo (K : List (Value × List Int)) : Nat → Int → Option Nat
  | 0 => fun _ => none
  | k + 1 => wrsRow k (wrsTo K k) ((K[k]?.map (·.2)).getD [])
theorem wrsRow_snoc (i : Nat) (F : Int → Option Nat) (xs : List Int) (k : Nat) (hk : k < xs.length) : wrsRow i F (xs.take (k + 1)) = putF (wrsRow i F (xs.take k)) xs[k] (withS ((wrsRow i F (xs.take k) xs[k]).getD 0) i) := by
  unfold wrsRow; rw [List.take_succ_eq_append_getElem hk, List.foldl_append]; rfl
theorem wrsTo_succ {K : List (Value × List Int)} {k : Nat} (hk : k < K.length) : wrsTo K (k + 1) = wrsRow k (wrsTo K k) K[k].2 := by
  show wrsRow k (wrsTo K k) _ = _
  rw [List.getElem?_eq_getElem hk]; rfl
/-- Each key's is a set. -/
def AllSet (F : Int → Option Nat) : Prop := ∀ x, IsSet ((F x).getD 0)
theorem AllSet.put {F : Int → Option Nat} (h : AllSet F) (x : Int) {s : Nat} (hs : IsSet s) : AllSet (putF F x s) := fun y => by
  by_cases e : y = x
  · rw [e, putF_same]; exact hs
  · rw [putF_other F s e]; exact h y
theorem mapIS : Try.prog.underlying 33 = some (.map 3 30) := Try.underlying33
theorem zeroS (w : World) : (zeroValue 30).run Try.prog w = .ok (eS 0) w := by kernel_rfl
set_option maxHeartbeats 8000000 in
theorem owriters_any (v : Value) (K : List (Value × List Int)) (w : World) (hK : Rws w v K) (hlen : K.length ≤ 100) (hrow : ∀ p ∈ K, p.2.length ≤ 100000) (hint : ∀ p ∈ K, ∀ x ∈ p.2, InI x) :
    Calls Try.prog 32 #[v] w fun e w' => ∃ b n c, e = .returned (.map (some b)) ∧ w.heap.size ≤ b ∧ MapI eS Try.prog 3 w' b n (wrsTo K K.length) c ∧ AllSet (wrsTo K K.length) ∧ Below w.heap.size w w' := by
  obtain ⟨ao, cap, rfl⟩ := hK.form
  have HR := Lib.hid hrow
  have HI := Lib.hid hint
  clear hrow hint
  have hm0 := MapI.made eS Try.prog 3 w
  have hb1 := (Below.refl w.heap.size w).alloc (Nat.le_refl _) (.map #[] 0)
  have hmm := @run_makeMap Try.prog
  go_enter Try.func32, Try.ntmps32
  go_wp2_with fail
  go_loopw [11] (fun i wr => ∃ k n c : Nat, k ≤ K.length ∧ i = .int .i64 k ∧ n ≤ 100000 * k ∧ AllSet (wrsTo K k) ∧ MapI eS Try.prog 3 wr w.heap.size n (wrsTo K k) c ∧ Below w.heap.size w wr) (fun i _ => K.length - (intOf i).toNat)
  case atStart => exact ⟨0, 0, 0, by omega, rfl, by omega, fun _ => (show IsSet 0 from by unfold IsSet; omega), hm0, hb1⟩
  case round =>
    obtain ⟨k, n, c, hk, rfl, hnn, hA, hM, hb⟩ := hrel
    clear hm0 hb1
    by_cases hlt : k < K.length
    · have hki : (k : Int) < (K.length : Int) := by omega
      have hKr := hK.below hb
      obtain ⟨g, o, hao, c0, hin⟩ := hKr.at hlt
      cases hao
      have HS := Lib.hid (wrsTo_succ hlt)
      have hrl := HR.out K[k] (List.getElem_mem hlt)
      have HIK := Lib.hid (HI.out K[k] (List.getElem_mem hlt))
      have HIN := Lib.hid (fun wx (hx : Below w.heap.size w wx) => (hK.2 K[k] (List.getElem_mem hlt)).below hx)
      generalize K[k] = q at *
      obtain ⟨qv, xs⟩ := q
      simp only at c0 hin HS hrl HIK HIN
      obtain ⟨ax, cx, rfl, hxl⟩ := hin.form
      generalize wrsTo K k = F at *
      clear hKr hin
      go_wp2_with fail
      go_loopw [18] (fun i wx => ∃ j m d : Nat, j ≤ xs.length ∧ i = .int .i64 j ∧ m ≤ 100000 * k + j ∧ AllSet (wrsRow k F (xs.take j)) ∧ MapI eS Try.prog 3 wx w.heap.size m (wrsRow k F (xs.take j)) d ∧ Below w.heap.size w wx) (fun i _ => xs.length - (intOf i).toNat)
      case atStart => exact ⟨0, n, c, by omega, rfl, by omega, hA, hM, hb⟩
      case round =>
        obtain ⟨j, m, d, hj, rfl, hmm2, hA2, hM2, hb2⟩ := hrel
        clear hA hM
        by_cases hltj : j < xs.length
        · have hkj : (j : Int) < (xs.length : Int) := by omega
          obtain ⟨g2, o2, hao2, e0⟩ := (HIN.out _ hb2).at hltj
          cases hao2
          have HSJ := Lib.hid (wrsRow_snoc k F xs j hltj)
          have hkv := HIK.out xs[j] (List.getElem_mem hltj)
          have hset := hA2 xs[j]
          have HAN := Lib.hid (hA2.put xs[j] (isSet_withS (n := (k : Int)) hset))
          generalize xs[j] = x at *
          generalize wrsRow k F (xs.take j) = G at *
          have CW := Lib.hid (fun wx => with_any ((G x).getD 0) (k : Int) wx hset)
          clear hset hA2
          go_wp2_with (first
            | (at_lookup; refine wpList_lookI _ rfl _ _ 33 rfl 3 30 keyI mapIS 0 (zeroS _) _ _ _ _ rfl hM2 _ rfl hkv ?_; simp only [eS])
            | (go_at_call 60; refine (CW.out _).mono ?_; rintro e w' ⟨rfl, rfl⟩)
            | (at_mapUpdate; refine wpList_putI _ rfl _ _ _ 33 rfl 3 30 keyI mapIS _ _ _ _ rfl hM2 (by unfold maxLen; omega) _ rfl hkv (withS ((G x).getD 0) (k : Int)) rfl ?_; intro w5 hM5 hg5; go_frame))
          have hb5 := hb2.grown hg5 hb2.size (fun q hq => by cases hq; exact Nat.le_refl _)
          clear hM2 hb2 hg5
          go_wp2_with fail
          go_roundw
          case rel => exact ⟨j + 1, m + 1, _, by omega, by go_num, by omega, by rw [HSJ.out]; exact HAN.out, by rw [HSJ.out]; exact hM5, hb5⟩
          case measure => simp [intOf]; omega
        · have hj2 : j = xs.length := by omega
          subst hj2
          rw [List.take_length] at hA2 hM2
          go_wp2_with fail
          go_roundw
          case rel => exact ⟨k + 1, m, d, by omega, by go_num, by omega, by rw [HS.out]; exact hA2, by rw [HS.out]; exact hM2, hb2⟩
          case measure => simp [intOf]; omega
    · have hkl : k = K.length := by omega
      subst hkl
      go_wp2_with fail
      go_ret
      exact ⟨_, _, _, rfl, Nat.le_refl _, hM, hA, hb⟩
end Go.Proofs.Ytfekcmhjdjifgaa
