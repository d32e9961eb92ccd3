/- The reference's Value and Last, walked; and what a history's Writes says of each write. Conditions: a slice's cells are known. -/
import Derived.Test.YtlkdojcimlfmdaaHisO
import Derived.Test.YtlkdojcimlfmdaaTxnK
namespace Go.Proofs.Ytlkdojcimlfmdaa
set_option maxRecDepth 100000
open Go.RowKit

/-- What a transaction leaves at a key. -/
def vOf (l : List OpV) (k : Int) : Int := (((refWrites l).find? fun o => o.key == k).map (·.val)).getD 0
theorem find_no {R : List OpV} {k : Int} {j : Nat} (hn : ∀ o ∈ R.take j, o.key ≠ k) (hj : j < R.length) (hk : R[j].key = k) : R.find? (fun o => o.key == k) = some R[j] := by
  rw [show R.find? (fun o => o.key == k) = (R.take j ++ R.drop j).find? (fun o => o.key == k) from by rw [List.take_append_drop], List.find?_append]
  have h2 : (R.take j).find? (fun o => o.key == k) = none := List.find?_eq_none.2 (fun o ho => by simpa using hn o ho)
  rw [h2, Option.none_or, List.drop_eq_getElem_cons hj, List.find?_cons_of_pos (by simpa using hk)]
set_option maxHeartbeats 8000000 in
theorem rvalue_any (va : Value) (l : List OpV) (k : Int) (w : World) (ha : Ops w va l) :
    Calls Try.prog 74 #[va, .int .i64 k] w fun e w' => e = .returned (.int .i64 (vOf l k)) ∧ Below w.heap.size w w' := by
  go_enter Try.func74, Try.ntmps74
  go_wp2_with fail
  refine (rwrites_any va l w ha).mono ?_
  rintro e w1 ⟨v, rfl, hO, hb⟩
  have hO := hO.base (base' := 0) (Nat.zero_le _)
  have HV : Hid (∀ n, (∃ (j : Nat) (hj : j < (refWrites l).length), (∀ o ∈ (refWrites l).take j, o.key ≠ k) ∧ (refWrites l)[j].key = k ∧ n = (refWrites l)[j].val) → n = vOf l k) := Lib.hid (fun n ⟨j, hj, hn, hk, hv⟩ => by
    unfold vOf; rw [find_no hn hj hk, hv]; rfl)
  have HN : Hid ((∀ o ∈ refWrites l, o.key ≠ k) → (0 : Int) = vOf l k) := Lib.hid (fun hn => by
    unfold vOf; rw [List.find?_eq_none.2 (fun o ho => by simpa using hn o ho)]; rfl)
  generalize refWrites l = R at *
  obtain ⟨ao, cap, rfl, hl⟩ := hO.ops.form
  have HO := Lib.hid hO.ops
  clear hO ha
  go_wp2_with fail
  go_loopw [6] (fun i wr => ∃ j : Nat, j ≤ R.length ∧ i = .int .i64 j ∧ (∀ o ∈ R.take j, o.key ≠ k) ∧ w1 = wr) (fun i _ => R.length - (intOf i).toNat)
  case atStart => exact ⟨0, by omega, rfl, by simp, rfl⟩
  case round =>
    obtain ⟨j, hj, rfl, hnk, rfl⟩ := hrel
    have HNK := Lib.hid hnk
    clear hnk
    by_cases hlt : j < R.length
    · have hki : (j : Int) < (R.length : Int) := by omega
      obtain ⟨g, o, hao, c0, c1, c2⟩ := HO.out.at hlt
      cases hao
      have HTS := Lib.hid (List.take_succ_eq_append_getElem hlt)
      have HY : Hid (R[j].key = k → R[j].val = vOf l k) := Lib.hid (fun hk => HV.out _ ⟨j, hlt, HNK.out, hk, rfl⟩)
      generalize R[j] = x at *
      obtain ⟨xw, xk, xv⟩ := x
      simp only at c0 c1 c2 HY
      by_cases d : xk = k
      · have H := Lib.hid (HY.out d)
        subst d
        clear HY HV HN
        go_wp2_with fail
        go_ret
        exact ⟨ret_int H.out, hb⟩
      · have d' : (xk == k) = false := by simpa using d
        have HD := Lib.hid d
        clear HY d
        go_wp2_with fail
        go_roundw
        case rel => exact ⟨j + 1, by omega, by go_num, by rw [HTS.out]; intro o ho; rcases List.mem_append.1 ho with h1 | h1; exact HNK.out o h1; simp at h1; subst h1; exact HD.out, by first | rfl | trivial⟩
        case measure => simp [intOf]; omega
    · have hjl : j = R.length := by omega
      subst hjl
      have H : Hid ((0 : Int) = vOf l k) := Lib.hid (HN.out (by have := HNK.out; rw [List.take_length] at this; exact this))
      clear HV HN
      go_wp2_with fail
      go_ret
      exact ⟨ret_int H.out, hb⟩
set_option maxHeartbeats 4000000 in
theorem rlast_any (s b c : Int) (v : Value) (l : List OpV) (k x : Int) (w : World) (ha : Ops w v l) :
    Calls Try.prog 60 #[.agg #[.int .i64 s, .int .i64 b, .int .i64 c, v], .int .i64 k, .int .i64 x] w fun e w' => e = .returned (.bool (vOf l k == x)) ∧ Below w.heap.size w w' := by
  obtain ⟨ao, cap, rfl, hl⟩ := ha.form
  have hb1 := box_below w (.cells #[.int .i64 s, .int .i64 b, .int .i64 c, .slice ao l.length cap] 29)
  have ha1 := ha.below hb1
  have CV := Lib.hid (rvalue_any _ l k _ ha1)
  clear ha ha1
  generalize vOf l k = n at *
  go_enter Try.func60, Try.ntmps60
  go_wp2_with fail
  refine (CV.out).mono ?_
  rintro e w2 ⟨rfl, hb2⟩
  have hb2 := below_then hb1 hb2
  go_wp2_with fail
  go_ret
  exact ⟨rfl, hb2⟩
theorem wv_cons (a : OpV) (l : List OpV) : wv (a :: l) = (if a.wr then [a.val] else []) ++ wv l := by
  unfold wv; cases h : a.wr <;> simp [h]
theorem addF_cons (i : Int) (F : Int → Option WV) (a : OpV) (l : List OpV) : addF i F (a :: l) = addF i (addOne i F a) l := rfl
theorem finF_cons (i : Int) (F : Int → Option WV) (a : OpV) (l : List OpV) : finF i F (a :: l) = finF i (putF F a.val ⟨i, a.key, true⟩) l := rfl
theorem addF_out (i : Int) {x : Int} : ∀ (l : List OpV) (F : Int → Option WV), ¬ x ∈ wv l → addF i F l x = F x
  | [], _, _ => rfl
  | a :: l, F, h => by
    rw [wv_cons] at h
    rw [addF_cons, addF_out i l _ (fun hh => h (List.mem_append_right _ hh))]
    unfold addOne
    cases hw : a.wr
    · rfl
    · simp only [if_true]
      exact putF_other _ _ (fun e => h (by rw [hw, e]; simp))
theorem addF_in (i : Int) {o : OpV} (ho : o.wr = true) : ∀ (l : List OpV) (F : Int → Option WV), (wv l).Nodup → o ∈ l → addF i F l o.val = some ⟨i, o.key, false⟩
  | a :: l, F, hn, hin => by
    rw [wv_cons] at hn
    rw [addF_cons]
    rcases List.mem_cons.1 hin with rfl | h
    · rw [ho] at hn
      simp only [if_true, List.singleton_append, List.nodup_cons] at hn
      rw [addF_out i l _ hn.1]
      unfold addOne
      rw [ho]
      simp only [if_true]
      exact putF_same _ _ _
    · exact addF_in i ho l _ (List.nodup_append.1 hn).2.1 h
theorem finF_out (i : Int) {x : Int} : ∀ (R : List OpV) (F : Int → Option WV), (∀ o ∈ R, o.val ≠ x) → finF i F R x = F x
  | [], _, _ => rfl
  | a :: R, F, h => by
    rw [finF_cons, finF_out i R _ (fun o ho => h o (List.mem_cons_of_mem _ ho))]
    exact putF_other _ _ (fun e => h a List.mem_cons_self e.symm)
theorem finF_in (i : Int) {x k : Int} : ∀ (R : List OpV) (F : Int → Option WV), (∀ o ∈ R, o.val = x → o.key = k) → (∃ o ∈ R, o.val = x) → finF i F R x = some ⟨i, k, true⟩
  | a :: R, F, h, hex => by
    rw [finF_cons]
    by_cases hr : ∃ o ∈ R, o.val = x
    · exact finF_in i R _ (fun o ho => h o (List.mem_cons_of_mem _ ho)) hr
    · have hn : ∀ o ∈ R, o.val ≠ x := fun o ho e => hr ⟨o, ho, e⟩
      obtain ⟨o, ho, e⟩ := hex
      rcases List.mem_cons.1 ho with rfl | h1
      · rw [finF_out i R _ hn, e, putF_same, h _ List.mem_cons_self e]
      · exact (hn o h1 e).elim
theorem wv_inj {l : List OpV} (hn : (wv l).Nodup) {o p : OpV} (ho : o ∈ l) (hp : p ∈ l) (wo : o.wr = true) (wp : p.wr = true) (e : o.val = p.val) : o.key = p.key := by
  have h1 := addF_in 0 wo l (fun _ => none) hn ho
  have h2 := addF_in 0 wp l (fun _ => none) hn hp
  rw [e, h2] at h1
  have := Option.some.inj h1
  exact (congrArg WV.key this).symm
theorem lastW_some (l : List OpV) {o : OpV} (wo : o.wr = true) : ∀ k, k ≤ l.length → o ∈ l.take k → (lastW (l.take k) o.key).isSome = true
  | 0, _, h => by simp at h
  | k + 1, hk, h => by
    have hlt : k < l.length := by omega
    rw [take_snoc l k hlt] at h ⊢
    rw [lastW_snoc]
    cases hw : l[k].wr with
    | false =>
      simp only [Bool.false_eq_true, if_false]
      rcases List.mem_append.1 h with h1 | h1
      · exact lastW_some l wo k (by omega) h1
      · simp at h1; rw [h1, hw] at wo; cases wo
    | true =>
      simp only [if_true]
      by_cases e : o.key = l[k].key
      · rw [e, putF_same]; rfl
      · rw [putF_other _ _ e]
        rcases List.mem_append.1 h with h1 | h1
        · exact lastW_some l wo k (by omega) h1
        · simp at h1; rw [h1] at e; exact (e rfl).elim
/-- What one transaction's turn lays at the value of one of its writes. -/
theorem turn_at (i : Int) (F : Int → Option WV) {l : List OpV} (hk : keysIn l) (hn : (wv l).Nodup) {o : OpV} (ho : o ∈ l) (wo : o.wr = true) :
    finF i (addF i F l) (refWrites l) o.val = some ⟨i, o.key, vOf l o.key == o.val⟩ := by
  have hR := refWrites_rise hk
  have hmem : ∀ p ∈ refWrites l, p ∈ l ∧ p.wr = true := fun p hp => refWrites_mem hp
  have huq : ∀ p ∈ refWrites l, ∀ q ∈ refWrites l, p.key = q.key → p = q := fun p hp q hq e => by
    have h1 := ((hR.2 p).1 hp).1
    have h2 := ((hR.2 q).1 hq).1
    rw [e, h2] at h1
    exact (Option.some.inj h1).symm
  have hex : ∃ p ∈ refWrites l, p.key = o.key := by
    have h1 := lastW_some l wo l.length (Nat.le_refl _) (by rw [List.take_length]; exact ho)
    rw [List.take_length] at h1
    obtain ⟨p, hp⟩ := Option.isSome_iff_exists.1 h1
    have h2 := lastW_key hp
    exact ⟨p, (hR.2 p).2 ⟨by rw [h2.1]; exact hp, h2.2.1⟩, h2.1⟩
  obtain ⟨p, hp, hpk⟩ := hex
  have hv : vOf l o.key = p.val := by
    unfold vOf
    cases hf : (refWrites l).find? (fun q => q.key == o.key) with
    | none => have := List.find?_eq_none.1 hf p hp; simp [hpk] at this
    | some q =>
      have h1 := List.find?_some hf
      have h2 := List.mem_of_find?_eq_some hf
      have : q = p := huq q h2 p hp (by simpa [hpk] using h1)
      rw [this]; rfl
  by_cases he : p.val = o.val
  · rw [finF_in (k := o.key) i _ _ (fun q hq e => wv_inj hn (hmem q hq).1 ho (hmem q hq).2 wo e) ⟨p, hp, he⟩, hv, he]
    simp
  · rw [finF_out i _ _ (fun q hq e => he ?_), addF_in i wo l F hn ho, hv]
    · simp [he]
    · have := wv_inj hn (hmem q hq).1 ho (hmem q hq).2 wo e
      rw [← huq q hq p hp (by rw [this, hpk])]; exact e
theorem wrTo_at {h : List TxnV} (hk : ∀ t ∈ h, keysIn t.l) : ∀ n, n ≤ h.length → (wvH (h.take n)).Nodup → ∀ i, ∀ hi : i < h.length, i < n → ∀ o ∈ h[i].l, o.wr = true → wrTo h n o.val = some ⟨i, o.key, vOf h[i].l o.key == o.val⟩
  | 0, _, _, i, _, hin, _, _, _ => by omega
  | n + 1, hn, hd, i, hi, hin, o, ho, wo => by
    have hlt : n < h.length := by omega
    rw [wvH_succ h n hlt] at hd
    have hd3 := List.nodup_append.1 hd
    rw [wrTo_succ, opsAt_eq hlt]
    by_cases e : i = n
    · subst e
      exact turn_at _ _ (hk _ (List.getElem_mem _)) hd3.2.1 ho wo
    · have hin2 : o.val ∈ wvH (h.take n) := by
        unfold wvH
        rw [List.mem_flatMap]
        refine ⟨h[i], ?_, wv_mem.2 ⟨o, ho, wo, rfl⟩⟩
        rw [List.mem_take_iff_getElem]
        exact ⟨i, by omega, rfl⟩
      have hout : ¬ o.val ∈ wv h[n].l := fun hh => hd3.2.2 _ hin2 _ hh rfl
      have hR := refWrites_rise (hk _ (List.getElem_mem hlt))
      rw [finF_out _ _ _ (fun q hq e2 => hout (by rw [← e2]; exact wv_mem.2 ⟨q, (refWrites_mem hq).1, (refWrites_mem hq).2, rfl⟩)), addF_out _ _ _ hout]
      exact wrTo_at hk n (by omega) hd3.1 i hi (by omega) o ho wo
end Go.Proofs.Ytlkdojcimlfmdaa
