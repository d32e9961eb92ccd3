/- Walks of what a history is asked, transaction by transaction: all of them may be, all stamps are unlike, no session's overlap. Conditions: a slice's cells are known, and hold numbers that are ints; there are at most 100000 transactions. -/
import Derived.Test.YtlkdojcimlfmdaaHisA
import Derived.Deep.QuietTactic
namespace Go.Proofs.Ytlkdojcimlfmdaa
set_option maxRecDepth 100000
open Go.RowKit

/-- All of them may be. -/
def partsB (h : List TxnV) : Bool := h.all fun t => mayT t.s t.b t.c t.l
theorem partsB_no {h : List TxnV} {k : Nat} (hk : k < h.length) (hn : mayT h[k].s h[k].b h[k].c h[k].l = false) : partsB h = false := by
  unfold partsB; exact List.all_eq_false.2 ⟨h[k], List.getElem_mem hk, by simp [hn]⟩
theorem partsB_succ (h : List TxnV) (k : Nat) (hk : k < h.length) : partsB (h.take (k + 1)) = (partsB (h.take k) && mayT h[k].s h[k].b h[k].c h[k].l) := by
  unfold partsB; rw [List.take_succ_eq_append_getElem hk, List.all_append]; simp
set_option maxHeartbeats 4000000 in
theorem parts_any (va : Value) (h : List TxnV) (w : World) (hT : Txns w va h) :
    Calls Try.prog 63 #[va] w fun e w' => e = .returned (.bool (partsB h)) ∧ Below w.heap.size w w' := by
  obtain ⟨ao, cap, rfl, hal⟩ := hT.form
  go_enter Try.func63, Try.ntmps63
  go_wp2_with fail
  go_loopw [7] (fun i wr => ∃ k : Nat, k ≤ h.length ∧ i = .int .i64 k ∧ partsB (h.take k) = true ∧ Below w.heap.size w wr) (fun i _ => h.length - (intOf i).toNat)
  case atStart => exact ⟨0, by omega, rfl, rfl, Below.refl _ _⟩
  case round =>
    obtain ⟨k, hk, rfl, hP, hb⟩ := hrel
    have HP := Lib.hid hP
    clear hP
    by_cases hlt : k < h.length
    · have hki : (k : Int) < (h.length : Int) := by omega
      obtain ⟨g, o, hao, c0, c1, c2, c3⟩ := (hT.below hb).at hlt
      cases hao
      have HS := Lib.hid (partsB_succ h k hlt)
      have HN := Lib.hid (fun hh => partsB_no hlt hh)
      have hOps := fun wx (hx : Below w.heap.size w wx) => (hT.ops hlt).below hx
      generalize h[k] = t at *
      obtain ⟨s, b, c, v, l⟩ := t
      simp only at c0 c1 c2 c3 HS HN hOps
      obtain ⟨ai, capi, rfl, hli⟩ := (hOps w (Below.refl _ _)).form
      have hbb := hb.alloc hb.size (.cells #[.int .i64 s, .int .i64 b, .int .i64 c, .slice ai l.length capi] 29)
      have CR := Lib.hid (tright_any s b c _ l _ (hOps _ hbb))
      clear hOps
      generalize mayT s b c l = q at *
      go_wp2_with fail
      refine (CR.out).mono ?_
      rintro e w1 ⟨rfl, hb1⟩
      have hb2 := below_then hbb hb1
      clear CR
      cases q
      · have H := Lib.hid (HN.out rfl)
        go_wp2_with fail
        go_ret
        exact ⟨ret_b H.out.symm, hb2⟩
      · have H : Hid (partsB (h.take (k + 1)) = true) := Lib.hid (by rw [HS.out, HP.out]; rfl)
        go_wp2_with fail
        go_roundw
        case rel => exact ⟨k + 1, by omega, by go_num, H.out, hb2⟩
        case measure => simp [intOf]; omega
    · have hkl : k = h.length := by omega
      have H : Hid (partsB h = true) := Lib.hid (by have := HP.out; rw [hkl, List.take_length] at this; exact this)
      go_wp2_with fail
      go_ret
      exact ⟨ret_b H.out.symm, hb⟩
/-- All stamps, one behind the other. -/
def stL (h : List TxnV) : List Int := h.flatMap fun t => [t.b, t.c]
def stampsB (h : List TxnV) : Bool := decide (stL h).Nodup
theorem stL_succ (h : List TxnV) (k : Nat) (hk : k < h.length) : stL (h.take (k + 1)) = stL (h.take k) ++ [h[k].b, h[k].c] := by
  unfold stL; rw [List.take_succ_eq_append_getElem hk, List.flatMap_append]; simp
theorem stL_no {h : List TxnV} {k : Nat} (hn : ¬ (stL (h.take (k + 1))).Nodup) : stampsB h = false := by
  unfold stampsB
  rw [decide_eq_false_iff_not]
  intro hd
  apply hn
  have : stL h = stL (h.take (k + 1)) ++ stL (h.drop (k + 1)) := by unfold stL; rw [← List.flatMap_append, List.take_append_drop]
  rw [this] at hd
  exact (List.nodup_append.1 hd).1
/-- The set of some numbers. -/
def inF (L : List Int) : Int → Option Bool := fun x => if x ∈ L then some true else none
theorem inF_snoc (L : List Int) (x : Int) : putF (inF L) x true = inF (L ++ [x]) := by
  funext y
  unfold putF inF
  by_cases h : y = x <;> simp [h]
theorem nod_b {L : List Int} {b c : Int} (h : (L ++ [b, c].take 0).Nodup) (hn : ¬ b ∈ L ++ [b, c].take 0) : (L ++ [b, c].take 1).Nodup := by
  simp at h hn ⊢
  rw [List.nodup_append]
  exact ⟨h, by simp, by intro x hx y hy; simp at hy; subst hy; rintro rfl; exact hn hx⟩
theorem nod_c {L : List Int} {b c : Int} (h : (L ++ [b, c].take 1).Nodup) (hn : ¬ c ∈ L ++ [b, c].take 1) : (L ++ [b, c].take 2).Nodup := by
  simp at h hn ⊢
  rw [List.nodup_append] at h ⊢
  refine ⟨h.1, ?_, ?_⟩
  · simp; exact fun e => hn.2 e.symm
  · intro x hx y hy
    simp at hy
    rcases hy with rfl | rfl
    · exact h.2.2 x hx y (by simp)
    · rintro rfl; exact hn.1 hx
theorem dup_b {L : List Int} {b c : Int} (h : b ∈ L ++ [b, c].take 0) : ¬ (L ++ [b, c]).Nodup := by
  simp at h
  intro hd
  exact (List.nodup_append.1 hd).2.2 b h b (by simp) rfl
theorem dup_c {L : List Int} {b c : Int} (h : c ∈ L ++ [b, c].take 1) : ¬ (L ++ [b, c]).Nodup := by
  simp at h
  intro hd
  rcases h with h | rfl
  · exact (List.nodup_append.1 hd).2.2 c h c (by simp) rfl
  · have := (List.nodup_append.1 hd).2.1
    simp at this
theorem mapIB : Try.prog.underlying 96 = some (.map 3 4) := Try.underlying96
theorem zeroB (w : World) : (zeroValue 4).run Try.prog w = .ok (Value.bool false) w := by kernel_rfl
theorem pair_index (b c : Int) (w : World) : Sem.run Try.prog (Instr.index 97 (.agg #[.int .i64 b, .int .i64 c]) (.int .i64 0)) w = .ok (.int .i64 b) w ∧ Sem.run Try.prog (Instr.index 97 (.agg #[.int .i64 b, .int .i64 c]) (.int .i64 1)) w = .ok (.int .i64 c) w := by
  have u1 := Try.underlying97
  have u2 := Try.underlying3
  have u3 := Try.sizeOf3
  have u4 := Try.isAgg3
  constructor <;> (unfold Instr.index; go_simp)
set_option maxHeartbeats 8000000 in
theorem stamps_any (va : Value) (h : List TxnV) (w : World) (hT : Txns w va h) (hok : ∀ t ∈ h, t.ok) (hlen : h.length ≤ 100000) :
    Calls Try.prog 65 #[va] w fun e w' => e = .returned (.bool (stampsB h)) ∧ Below w.heap.size w w' := by
  obtain ⟨ao, cap, rfl, hal⟩ := hT.form
  have HOK := Lib.hid hok
  clear hok
  have hm0 := MapI.made Value.bool Try.prog 3 w
  have hb1 := (Below.refl w.heap.size w).alloc (Nat.le_refl _) (.map #[] 0)
  have hmm := @run_makeMap Try.prog
  go_enter Try.func65, Try.ntmps65
  go_wp2_with fail
  go_loopw [11] (fun i wr => ∃ k cnt : Nat, k ≤ h.length ∧ i = .int .i64 k ∧ (stL (h.take k)).Nodup ∧ MapI Value.bool Try.prog 3 wr w.heap.size (2 * k) (inF (stL (h.take k))) cnt ∧ Below w.heap.size w wr) (fun i _ => h.length - (intOf i).toNat)
  case atStart => exact ⟨0, 0, by omega, rfl, by simp [stL], by have e : inF (stL (h.take 0)) = fun _ => none := (by funext y; simp [stL, inF]); rw [e]; exact hm0, hb1⟩
  case round =>
    obtain ⟨k, cnt, hk, rfl, hN, hM, hb⟩ := hrel
    have HND := Lib.hid hN
    clear hN hm0 hb1
    by_cases hlt : k < h.length
    · have hki : (k : Int) < (h.length : Int) := by omega
      obtain ⟨g, o, hao, c0, c1, c2, c3⟩ := (hT.below hb).at hlt
      cases hao
      have HS := Lib.hid (stL_succ h k hlt)
      have HNO := Lib.hid (fun hh => stL_no (h := h) (k := k) hh)
      have hOps := (hT.ops hlt)
      have htok := (HOK.out h[k] (List.getElem_mem hlt)).1
      generalize h[k] = t at *
      obtain ⟨s, b, c, v, l⟩ := t
      simp only at c0 c1 c2 c3 HS hOps htok
      have hkb := inI_of htok.2.1
      have hkc := inI_of htok.2.2
      obtain ⟨ai, capi, rfl, hli⟩ := hOps.form
      have hM1 := hM.alloc (.cells #[.int .i64 s, .int .i64 b, .int .i64 c, .slice ai l.length capi] 29)
      have hbb := hb.alloc hb.size (.cells #[.int .i64 s, .int .i64 b, .int .i64 c, .slice ai l.length capi] 29)
      have hsz := hb.size
      clear hOps htok hM hb
      have hix0 := fun w => (pair_index b c w).1
      have hix1 := fun w => (pair_index b c w).2
      generalize stL (h.take k) = L at *
      go_wp2_with fail
      go_loopw [20] (fun i wx => ∃ j cn : Nat, j ≤ 2 ∧ i = .int .i64 j ∧ (L ++ [b, c].take j).Nodup ∧ MapI Value.bool Try.prog 3 wx w.heap.size (2 * k + j) (inF (L ++ [b, c].take j)) cn ∧ Below w.heap.size w wx) (fun i _ => 2 - (intOf i).toNat)
      case atStart => exact ⟨0, _, by omega, rfl, by simpa using HND.out, by simpa using hM1, hbb⟩
      case round =>
        obtain ⟨j, cn, hj, hi, hD, hM2, hb2⟩ := hrel
        clear hM1 hbb
        rcases j with _ | _ | j
        · obtain rfl : u20 = .int .i64 0 := hi
          have HD := Lib.hid hD
          clear hD
          by_cases hin : b ∈ L ++ [b, c].take 0
          · have H : Hid (stampsB h = false) := Lib.hid (HNO.out (by rw [HS.out]; exact dup_b hin))
            have hf : (inF (L ++ [b, c].take 0) b).getD false = true := by unfold inF; rw [if_pos hin]; rfl
            clear HNO hin
            go_wp2_with (first | (at_lookup; refine wpList_lookI _ rfl _ _ 96 rfl 3 4 keyI mapIB false (zeroB _) _ _ _ _ rfl hM2 _ rfl hkb ?_; rw [hf]) | go_in)
            go_ret
            exact ⟨ret_b H.out.symm, hb2⟩
          · have hf : (inF (L ++ [b, c].take 0) b).getD false = false := by unfold inF; rw [if_neg hin]; rfl
            have HN2 : Hid ((L ++ [b, c].take 1).Nodup) := Lib.hid (nod_b HD.out hin)
            have HF : Hid (putF (inF (L ++ [b, c].take 0)) b true = inF (L ++ [b, c].take 1)) := Lib.hid (by rw [inF_snoc]; simp)
            clear HNO hin
            go_wp2_with (first | (at_lookup; refine wpList_lookI _ rfl _ _ 96 rfl 3 4 keyI mapIB false (zeroB _) _ _ _ _ rfl hM2 _ rfl hkb ?_; rw [hf]) | (at_mapUpdate; refine wpList_putI _ rfl _ _ _ 96 rfl 3 4 keyI mapIB _ _ _ _ rfl hM2 (by unfold maxLen; omega) _ rfl hkb true rfl ?_; intro w1 hM3 hg; go_frame) | go_in)
            have hb3 := hb2.grown hg hb2.size (fun j hj => by cases hj; omega)
            go_wp2_with fail
            go_roundw
            case rel => exact ⟨1, _, by omega, by go_num, HN2.out, by rw [← HF.out]; exact hM3, hb3⟩
            case measure => simp [intOf]
        · obtain rfl : u20 = .int .i64 1 := hi
          have HD := Lib.hid hD
          clear hD
          by_cases hin : c ∈ L ++ [b, c].take 1
          · have H : Hid (stampsB h = false) := Lib.hid (HNO.out (by rw [HS.out]; exact dup_c hin))
            have hf : (inF (L ++ [b, c].take 1) c).getD false = true := by unfold inF; rw [if_pos hin]; rfl
            clear HNO hin
            go_wp2_with (first | (at_lookup; refine wpList_lookI _ rfl _ _ 96 rfl 3 4 keyI mapIB false (zeroB _) _ _ _ _ rfl hM2 _ rfl hkc ?_; rw [hf]) | go_in)
            go_ret
            exact ⟨ret_b H.out.symm, hb2⟩
          · have hf : (inF (L ++ [b, c].take 1) c).getD false = false := by unfold inF; rw [if_neg hin]; rfl
            have HN2 : Hid ((L ++ [b, c].take 2).Nodup) := Lib.hid (nod_c HD.out hin)
            have HF : Hid (putF (inF (L ++ [b, c].take 1)) c true = inF (L ++ [b, c].take 2)) := Lib.hid (by rw [inF_snoc]; simp)
            clear HNO hin
            go_wp2_with (first | (at_lookup; refine wpList_lookI _ rfl _ _ 96 rfl 3 4 keyI mapIB false (zeroB _) _ _ _ _ rfl hM2 _ rfl hkc ?_; rw [hf]) | (at_mapUpdate; refine wpList_putI _ rfl _ _ _ 96 rfl 3 4 keyI mapIB _ _ _ _ rfl hM2 (by unfold maxLen; omega) _ rfl hkc true rfl ?_; intro w1 hM3 hg; go_frame) | go_in)
            have hb3 := hb2.grown hg hb2.size (fun j hj => by cases hj; omega)
            go_wp2_with fail
            go_roundw
            case rel => exact ⟨2, _, by omega, by go_num, HN2.out, by rw [← HF.out]; exact hM3, hb3⟩
            case measure => simp [intOf]
        · obtain rfl : j = 0 := by omega
          obtain rfl : u20 = .int .i64 2 := hi
          have HR : Hid (stL (h.take (k + 1)) = L ++ [b, c].take 2) := Lib.hid (by rw [HS.out]; rfl)
          have HD := Lib.hid hD
          clear hD
          go_wp2_with fail
          go_roundw
          case rel => exact ⟨k + 1, _, by omega, by go_num, by rw [HR.out]; exact HD.out, by rw [HR.out]; exact hM2.mono (by omega), hb2⟩
          case measure => simp [intOf]; omega
    · have hkl : k = h.length := by omega
      have H : Hid (stampsB h = true) := Lib.hid (by have := HND.out; rw [hkl, List.take_length] at this; unfold stampsB; simpa using this)
      go_wp2_with fail
      go_ret
      exact ⟨ret_b H.out.symm, hb⟩
end Go.Proofs.Ytlkdojcimlfmdaa
