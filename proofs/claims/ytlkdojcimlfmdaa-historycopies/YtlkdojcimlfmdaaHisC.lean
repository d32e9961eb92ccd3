/- The walk of whether no session's transactions overlap. Conditions: a slice's cells are known, and hold numbers that are ints; there are at most 100000 transactions. -/
import Derived.Test.YtlkdojcimlfmdaaHisB
namespace Go.Proofs.Ytlkdojcimlfmdaa
set_option maxRecDepth 100000
open Go.RowKit

/-- When the last transaction of a session ends. -/
def endF (h : List TxnV) : Int → Option Int := fun x => ((h.filter fun t => t.s == x).getLast?).map (·.c)
theorem endF_succ (h : List TxnV) (k : Nat) (hk : k < h.length) : endF (h.take (k + 1)) = putF (endF (h.take k)) h[k].s h[k].c := by
  funext y
  unfold endF putF
  rw [List.take_succ_eq_append_getElem hk, List.filter_append]
  by_cases e : y = h[k].s
  · subst e; simp
  · have : (h[k].s == y) = false := by simp; exact fun e2 => e e2.symm
    simp [this, e]
/-- Does the transaction at k begin behind the end of the last one of its session? -/
def sesOk (h : List TxnV) (k : Nat) : Bool := match h[k]? with
  | none => true
  | some t => match endF (h.take k) t.s with
    | none => true
    | some e => decide (e < t.b)
def sesB (h : List TxnV) : Bool := (List.range h.length).all (sesOk h)
theorem sesB_all {h : List TxnV} (hh : ∀ j, j < h.length → sesOk h j = true) : sesB h = true := by
  unfold sesB; rw [List.all_eq_true]; intro j hj; exact hh j (List.mem_range.1 hj)
theorem sesB_no {h : List TxnV} {k : Nat} (hk : k < h.length) (hh : sesOk h k = false) : sesB h = false := by
  unfold sesB; rw [List.all_eq_false]; exact ⟨k, List.mem_range.2 hk, by simp [hh]⟩
theorem sesOk_at {h : List TxnV} {k : Nat} (hk : k < h.length) : sesOk h k = match endF (h.take k) h[k].s with
    | none => true
    | some e => decide (e < h[k].b) := by
  unfold sesOk; rw [List.getElem?_eq_getElem hk]
set_option maxHeartbeats 8000000 in
theorem sessions_any (va : Value) (h : List TxnV) (w : World) (hT : Txns w va h) (hok : ∀ t ∈ h, t.ok) (hlen : h.length ≤ 100000) :
    Calls Try.prog 66 #[va] w fun e w' => e = .returned (.bool (sesB h)) ∧ Below w.heap.size w w' := by
  obtain ⟨ao, cap, rfl, hal⟩ := hT.form
  have HOK := Lib.hid hok
  clear hok
  have hm0 := MapI.made eI Try.prog 3 w
  have hb1 := (Below.refl w.heap.size w).alloc (Nat.le_refl _) (.map #[] 0)
  have hmm := @run_makeMap Try.prog
  go_enter Try.func66, Try.ntmps66
  go_wp2_with fail
  go_loopw [11] (fun i wr => ∃ k cnt : Nat, k ≤ h.length ∧ i = .int .i64 k ∧ (∀ j, j < k → sesOk h j = true) ∧ MapI eI Try.prog 3 wr w.heap.size k (endF (h.take k)) cnt ∧ Below w.heap.size w wr) (fun i _ => h.length - (intOf i).toNat)
  case atStart => exact ⟨0, 0, by omega, rfl, by omega, hm0, hb1⟩
  case round =>
    obtain ⟨k, cnt, hk, rfl, hN, hM, hb⟩ := hrel
    have HST := Lib.hid hN
    clear hN hm0 hb1
    by_cases hlt : k < h.length
    · have hki : (k : Int) < (h.length : Int) := by omega
      obtain ⟨g, o, hao, c0, c1, c2, c3⟩ := (hT.below hb).at hlt
      cases hao
      have HV := Lib.hid (endF_succ h k hlt)
      have HS := Lib.hid (sesOk_at hlt)
      have HNO := Lib.hid (fun hh => sesB_no hlt hh)
      have hOps := (hT.ops hlt)
      have htok := (HOK.out h[k] (List.getElem_mem hlt)).1
      generalize h[k] = t at *
      obtain ⟨s, b, c, v, l⟩ := t
      simp only at c0 c1 c2 c3 hOps htok
      have hkey := inI_of htok.1
      obtain ⟨ai, capi, rfl, hli⟩ := hOps.form
      have hM1 := hM.alloc (.cells #[.int .i64 s, .int .i64 b, .int .i64 c, .slice ai l.length capi] 29)
      have hbb := hb.alloc hb.size (.cells #[.int .i64 s, .int .i64 b, .int .i64 c, .slice ai l.length capi] 29)
      have hsz := hb.size
      clear hOps htok hM hb
      cases hv : endF (h.take k) s with
      | none =>
        have H : Hid (sesOk h k = true) := Lib.hid (by rw [HS.out]; simp only; rw [hv])
        clear HNO HS
        go_wp2_with (first | (at_lookup; refine wpList_lookI_ok _ rfl _ _ 98 rfl 3 3 keyI mapII 0 (zeroI _) _ _ _ _ rfl hM1 _ rfl hkey ?_; rw [hv]) | (at_mapUpdate; refine wpList_putI _ rfl _ _ _ 98 rfl 3 3 keyI mapII _ _ _ _ rfl hM1 (by unfold maxLen; omega) _ rfl hkey c rfl ?_; intro w1 hM2 hg; go_frame) | go_in)
        have hb2 := hbb.grown hg hbb.size (fun j hj => by cases hj; omega)
        go_wp2_with fail
        go_roundw
        case rel => exact ⟨k + 1, _, by omega, by go_num, all_snoc HST.out H.out, by rw [HV.out]; exact hM2, hb2⟩
        case measure => simp [intOf]; omega
      | some e =>
        have HSP : Hid (sesOk h k = decide (e < b)) := Lib.hid (by rw [HS.out]; simp only; rw [hv])
        clear HS
        by_cases hvv : e < b
        · have H : Hid (sesOk h k = true) := Lib.hid (by rw [HSP.out]; simp [hvv])
          have hne : ¬ b ≤ e := by omega
          clear HNO HSP hvv
          go_wp2_with (first | (at_lookup; refine wpList_lookI_ok _ rfl _ _ 98 rfl 3 3 keyI mapII 0 (zeroI _) _ _ _ _ rfl hM1 _ rfl hkey ?_; rw [hv]; simp only [Option.getD_some, Option.isSome_some, eI]) | (at_mapUpdate; refine wpList_putI _ rfl _ _ _ 98 rfl 3 3 keyI mapII _ _ _ _ rfl hM1 (by unfold maxLen; omega) _ rfl hkey c rfl ?_; intro w1 hM2 hg; go_frame) | go_in)
          have hb2 := hbb.grown hg hbb.size (fun j hj => by cases hj; omega)
          go_wp2_with fail
          go_roundw
          case rel => exact ⟨k + 1, _, by omega, by go_num, all_snoc HST.out H.out, by rw [HV.out]; exact hM2, hb2⟩
          case measure => simp [intOf]; omega
        · have H : Hid (sesB h = false) := Lib.hid (HNO.out (by rw [HSP.out]; simpa using hvv))
          have hne : b ≤ e := by omega
          clear HNO HSP hvv
          go_wp2_with (first | (at_lookup; refine wpList_lookI_ok _ rfl _ _ 98 rfl 3 3 keyI mapII 0 (zeroI _) _ _ _ _ rfl hM1 _ rfl hkey ?_; rw [hv]; simp only [Option.getD_some, Option.isSome_some, eI]) | go_in)
          go_ret
          exact ⟨ret_b H.out.symm, hbb⟩
    · have hkl : k = h.length := by omega
      have H : Hid (sesB h = true) := Lib.hid (sesB_all (by rw [← hkl]; exact HST.out))
      go_wp2_with fail
      go_ret
      exact ⟨ret_b H.out.symm, hb⟩
end Go.Proofs.Ytlkdojcimlfmdaa
