/- Walks and plain facts that the proof of the statement OrderPairs uses, joined: TxnK HisP OrdR OrdS OrdX RelP RelG RelH RelI RelN RelJ RelK RelL RelO SetH SetI RelQ OrdO HisQ HisR OrdV OrdZ OrdAC OrdAA. Conditions: each theorem's own. -/
import Derived.Deep.RegionHeld3
import Derived.Deep.CutRange
import Derived.Deep.RegionWith
import Derived.Deep.MidRow
import Derived.Test.YtfekcmhjdjifgaaPOrderPairs0
import Derived.Test.YtfekcmhjdjifgaaPOrderPairs1
import Derived.Test.YtfekcmhjdjifgaaPOrderPairs2
namespace Go.Proofs.Ytfekcmhjdjifgaa
set_option maxRecDepth 100000
open Go.RowKit

/-- The place of the last write so far. -/
def LastAt (l : List OpV) (k j : Nat) (i : Int) : Prop := (i = -1 ∧ lastW (l.take j) k = none) ∨ ∃ p : Nat, ∃ h : p < l.length, i = p ∧ lastW (l.take j) k = some l[p]
theorem LastAt.yes {l : List OpV} {k j : Nat} (h : j < l.length) (h1 : l[j].key = k) (h2 : l[j].wr = true) : LastAt l k (j + 1) j :=
  .inr ⟨j, h, rfl, by rw [take_snoc l j h, lastW_snoc, if_pos h2, h1, putF_same]⟩
theorem LastAt.no {l : List OpV} {k j : Nat} {i : Int} (hL : LastAt l k j i) (h : j < l.length) (h1 : ¬ (l[j].key = k ∧ l[j].wr = true)) : LastAt l k (j + 1) i := by
  have e : lastW (l.take (j + 1)) k = lastW (l.take j) k := by
    rw [take_snoc l j h, lastW_snoc]
    cases hw : l[j].wr
    · rfl
    · simp only [if_true]; rw [putF_other]; exact fun e => h1 ⟨e.symm, hw⟩
  unfold LastAt at *
  rw [e]; exact hL
set_option maxHeartbeats 8000000 in
theorem rwrites_any (va : Value) (l : List OpV) (w : World) (ha : Ops w va l) :
    Calls Try.prog 21 #[va] w fun e w' => ∃ v, e = .returned v ∧ Own w' w.heap.size v (refWrites l) ∧ Below w.heap.size w w' := by
  obtain ⟨i0, hi, hz0, hz1, hz2⟩ := info_parts infoOp
  obtain ⟨ao, cap, rfl, hal⟩ := ha.form
  have hb0 := (Below.refl w.heap.size w).alloc (Nat.le_refl _) (.cells #[] 56)
  have hO0 := Own.lit0 w
  go_enter Try.func21, Try.ntmps21
  go_wp2_with fail
  go_loopw [3, 4] (fun v i wr => ∃ k : Nat, k ≤ 64 ∧ i = .int .i64 k ∧ Own wr w.heap.size v (upTo (wrK l) k) ∧ Below w.heap.size w wr) (fun _ i _ => 64 - (intOf i).toNat)
  case atStart => exact ⟨0, by omega, rfl, hO0, hb0⟩
  case round =>
    obtain ⟨k, hk, rfl, hO, hb⟩ := hrel
    clear hb0 hO0
    have hszr := hb.size
    by_cases hlt : k < 64
    · have hki : (k : Int) < 64 := by omega
      have hlenk := upTo_len (wrK l) k
      go_wp2_with fail
      go_loopw [5, 6] (fun v i wx => ∃ (j : Nat) (p : Int), j ≤ l.length ∧ i = .int .i64 j ∧ v = .int .i64 p ∧ LastAt l k j p ∧ wr = wx) (fun _ i _ => l.length - (intOf i).toNat)
      case atStart => exact ⟨0, -1, by omega, rfl, rfl, .inl ⟨rfl, rfl⟩, rfl⟩
      case round =>
        obtain ⟨j, p, hj, rfl, rfl, hL, rfl⟩ := hrel
        by_cases hltj : j < l.length
        · have hkj : (j : Int) < (l.length : Int) := by omega
          obtain ⟨g, o, hao, c0, c1, c2⟩ := (ha.below hb).at hltj
          cases hao
          have HY := Lib.hid (fun h1 h2 => LastAt.yes (k := k) hltj h1 h2)
          have HN := Lib.hid (fun h => hL.no hltj h)
          generalize l[j] = x at *
          obtain ⟨xw, xk, xv⟩ := x
          try simp only at c0 c1 c2
          clear hL
          by_cases d1 : xk = k
          · cases xw
            · have H := Lib.hid (HN.out (fun h => by cases h.2))
              subst d1
              clear HY HN
              go_wp2_with fail
              go_roundw
              case rel => exact ⟨j + 1, p, by omega, by go_num, rfl, H.out, by first | rfl | trivial⟩
              case measure => simp [intOf]; omega
            · have H := Lib.hid (HY.out d1 rfl)
              subst d1
              clear HY HN
              go_wp2_with fail
              go_roundw
              case rel => exact ⟨j + 1, j, by omega, by go_num, rfl, H.out, by first | rfl | trivial⟩
              case measure => simp [intOf]; omega
          · have H := Lib.hid (HN.out (fun h => d1 h.1))
            have d1' : (xk == (k : Int)) = false := by simpa using d1
            clear HY HN d1
            go_wp2_with fail
            go_roundw
            case rel => exact ⟨j + 1, p, by omega, by go_num, rfl, H.out, by first | rfl | trivial⟩
            case measure => simp [intOf]; omega
        · have hj2 : j = l.length := by omega
          subst hj2
          have HU := Lib.hid (upTo_succ (wrK l) k)
          rcases hL with ⟨rfl, hN⟩ | ⟨q, hq, rfl, hS⟩
          · rw [List.take_length] at hN
            have H : Hid (upTo (wrK l) (k + 1) = upTo (wrK l) k) := Lib.hid (by rw [HU.out, show wrK l k = none from hN]; simp)
            clear HU hN
            go_wp2_with fail
            go_roundw
            case rel => exact ⟨k + 1, by omega, by go_num, by rw [H.out]; exact hO, hb⟩
            case measure => simp [intOf]; omega
          · rw [List.take_length] at hS
            have H : Hid (upTo (wrK l) (k + 1) = upTo (wrK l) k ++ [l[q]]) := Lib.hid (by rw [HU.out, show wrK l k = some l[q] from hS]; simp)
            have hqi : (q : Int) < (l.length : Int) := by omega
            obtain ⟨g, o, hao, c0, c1, c2⟩ := (ha.below hb).at hq
            cases hao
            clear HU hS
            generalize l[q] = x at *
            obtain ⟨xw, xk, xv⟩ := x
            try simp only at c0 c1 c2
            have hlit := opLit wr 0 ⟨xw, xk, xv⟩ (Nat.zero_le _)
            go_wp2_with (first | (at_builtin; refine wpList_append_row rfl _ _ 44 rfl w.heap.size 56 i0 (.agg #[.bool false, .int .i64 0, .int .i64 0]) 3 24 Try.underlying44 hi hz0 hz1 hz2 rfl (by decide) _ _ _ rfl (World.ownsRow.alloc hO _) _ 1 _ rfl (Row.of_owns hlit) ?d1 ?d2 ?d3 ?d4 ?_) | go_in)
            case d1 => exact opV_one _
            case d2 => unfold maxLen; omega
            case d3 => omega
            case d4 => first | omega | (simp; omega)
            intro v6 w6 hown6 hg6
            clear hlit
            have hO5 : Own _ _ _ (upTo (wrK l) k ++ [⟨xw, xk, xv⟩]) := ⟨by rw [opV_len], by rw [opV_app]; simpa using hown6.2⟩
            have hb6 := below_own (hb.alloc hb.size (.cells #[.bool xw, .int .i64 xk, .int .i64 xv] 56)) (World.ownsRow.alloc hO (.cells #[.bool xw, .int .i64 xk, .int .i64 xv] 56)) (Nat.le_refl _) hg6
            clear hown6 hg6 hb hO
            go_wp2_with fail
            go_roundw
            case rel => exact ⟨k + 1, by omega, by go_num, by rw [H.out]; exact hO5, hb6⟩
            case measure => simp [intOf]; omega
    · have hk2 : k = 64 := by omega
      subst hk2
      go_wp2_with fail
      go_ret
      exact ⟨_, rfl, hO, hb⟩
end Go.Proofs.Ytfekcmhjdjifgaa

namespace Go.Proofs.Ytfekcmhjdjifgaa
set_option maxRecDepth 100000
open Go.RowKit

/-- What a transaction leaves at a key. -/
def vOf (l : List OpV) (k : Int) : Int := (((refWrites l).find? fun o => o.key == k).map (·.val)).getD 0
theorem find_no {R : List OpV} {k : Int} {j : Nat} (hn : ∀ o ∈ R.take j, o.key ≠ k) (hj : j < R.length) (hk : R[j].key = k) : R.find? (fun o => o.key == k) = some R[j] := by
  rw [show R.find? (fun o => o.key == k) = (R.take j ++ R.drop j).find? (fun o => o.key == k) from by rw [List.take_append_drop], List.find?_append]
  have h2 : (R.take j).find? (fun o => o.key == k) = none := List.find?_eq_none.2 (fun o ho => by simpa using hn o ho)
  rw [h2, Option.none_or, List.drop_eq_getElem_cons hj, List.find?_cons_of_pos (by simpa using hk)]
set_option maxHeartbeats 8000000 in
theorem rvalue_any (va : Value) (l : List OpV) (k : Int) (w : World) (ha : Ops w va l) :
    Calls Try.prog 65 #[va, .int .i64 k] w fun e w' => e = .returned (.int .i64 (vOf l k)) ∧ Below w.heap.size w w' := by
  go_enter Try.func65, Try.ntmps65
  go_wp2_with fail
  refine (rwrites_any va l w ha).mono ?_
  rintro e w1 ⟨v, rfl, hO, hb⟩
  have hO := hO.base (base' := 0) (Nat.zero_le _)
  have HV : Hid (∀ n, (∃ (j : Nat) (hj : j < (refWrites l).length), (∀ o ∈ (refWrites l).take j, o.key ≠ k) ∧ (refWrites l)[j].key = k ∧ n = (refWrites l)[j].val) → n = vOf l k) := Lib.hid (fun n ⟨j, hj, hn, hk, hv⟩ => by
    unfold vOf; rw [find_no hn hj hk, hv]; rfl)
  have HN : Hid ((∀ o ∈ refWrites l, o.key ≠ k) → (0 : Int) = vOf l k) := Lib.hid (fun hn => by
    unfold vOf; rw [List.find?_eq_none.2 (fun o ho => by simpa using hn o ho)]; rfl)
  generalize refWrites l = R at *
  obtain ⟨ao, cap, rfl, hl⟩ := hO.ops.form
  have HO := Lib.hid hO.ops
  clear hO ha
  go_wp2_with fail
  go_loopw [6] (fun i wr => ∃ j : Nat, j ≤ R.length ∧ i = .int .i64 j ∧ (∀ o ∈ R.take j, o.key ≠ k) ∧ w1 = wr) (fun i _ => R.length - (intOf i).toNat)
  case atStart => exact ⟨0, by omega, rfl, by simp, rfl⟩
  case round =>
    obtain ⟨j, hj, rfl, hnk, rfl⟩ := hrel
    have HNK := Lib.hid hnk
    clear hnk
    by_cases hlt : j < R.length
    · have hki : (j : Int) < (R.length : Int) := by omega
      obtain ⟨g, o, hao, c0, c1, c2⟩ := HO.out.at hlt
      cases hao
      have HTS := Lib.hid (List.take_succ_eq_append_getElem hlt)
      have HY : Hid (R[j].key = k → R[j].val = vOf l k) := Lib.hid (fun hk => HV.out _ ⟨j, hlt, HNK.out, hk, rfl⟩)
      generalize R[j] = x at *
      obtain ⟨xw, xk, xv⟩ := x
      simp only at c0 c1 c2 HY
      by_cases d : xk = k
      · have H := Lib.hid (HY.out d)
        subst d
        clear HY HV HN
        go_wp2_with fail
        go_ret
        exact ⟨ret_int H.out, hb⟩
      · have d' : (xk == k) = false := by simpa using d
        have HD := Lib.hid d
        clear HY d
        go_wp2_with fail
        go_roundw
        case rel => exact ⟨j + 1, by omega, by go_num, by rw [HTS.out]; intro o ho; rcases List.mem_append.1 ho with h1 | h1; exact HNK.out o h1; simp at h1; subst h1; exact HD.out, by first | rfl | trivial⟩
        case measure => simp [intOf]; omega
    · have hjl : j = R.length := by omega
      subst hjl
      have H : Hid ((0 : Int) = vOf l k) := Lib.hid (HN.out (by have := HNK.out; rw [List.take_length] at this; exact this))
      clear HV HN
      go_wp2_with fail
      go_ret
      exact ⟨ret_int H.out, hb⟩
theorem wv_cons (a : OpV) (l : List OpV) : wv (a :: l) = (if a.wr then [a.val] else []) ++ wv l := by
  unfold wv; cases h : a.wr <;> simp [h]
theorem addF_cons (i : Int) (F : Int → Option WV) (a : OpV) (l : List OpV) : addF i F (a :: l) = addF i (addOne i F a) l := rfl
theorem finF_cons (i : Int) (F : Int → Option WV) (a : OpV) (l : List OpV) : finF i F (a :: l) = finF i (putF F a.val ⟨i, a.key, true⟩) l := rfl
theorem addF_out (i : Int) {x : Int} : ∀ (l : List OpV) (F : Int → Option WV), ¬ x ∈ wv l → addF i F l x = F x
  | [], _, _ => rfl
  | a :: l, F, h => by
    rw [wv_cons] at h
    rw [addF_cons, addF_out i l _ (fun hh => h (List.mem_append_right _ hh))]
    unfold addOne
    cases hw : a.wr
    · rfl
    · simp only [if_true]
      exact putF_other _ _ (fun e => h (by rw [hw, e]; simp))
theorem addF_in (i : Int) {o : OpV} (ho : o.wr = true) : ∀ (l : List OpV) (F : Int → Option WV), (wv l).Nodup → o ∈ l → addF i F l o.val = some ⟨i, o.key, false⟩
  | a :: l, F, hn, hin => by
    rw [wv_cons] at hn
    rw [addF_cons]
    rcases List.mem_cons.1 hin with rfl | h
    · rw [ho] at hn
      simp only [if_true, List.singleton_append, List.nodup_cons] at hn
      rw [addF_out i l _ hn.1]
      unfold addOne
      rw [ho]
      simp only [if_true]
      exact putF_same _ _ _
    · exact addF_in i ho l _ (List.nodup_append.1 hn).2.1 h
theorem finF_out (i : Int) {x : Int} : ∀ (R : List OpV) (F : Int → Option WV), (∀ o ∈ R, o.val ≠ x) → finF i F R x = F x
  | [], _, _ => rfl
  | a :: R, F, h => by
    rw [finF_cons, finF_out i R _ (fun o ho => h o (List.mem_cons_of_mem _ ho))]
    exact putF_other _ _ (fun e => h a List.mem_cons_self e.symm)
theorem finF_in (i : Int) {x k : Int} : ∀ (R : List OpV) (F : Int → Option WV), (∀ o ∈ R, o.val = x → o.key = k) → (∃ o ∈ R, o.val = x) → finF i F R x = some ⟨i, k, true⟩
  | a :: R, F, h, hex => by
    rw [finF_cons]
    by_cases hr : ∃ o ∈ R, o.val = x
    · exact finF_in i R _ (fun o ho => h o (List.mem_cons_of_mem _ ho)) hr
    · have hn : ∀ o ∈ R, o.val ≠ x := fun o ho e => hr ⟨o, ho, e⟩
      obtain ⟨o, ho, e⟩ := hex
      rcases List.mem_cons.1 ho with rfl | h1
      · rw [finF_out i R _ hn, e, putF_same, h _ List.mem_cons_self e]
      · exact (hn o h1 e).elim
theorem wv_inj {l : List OpV} (hn : (wv l).Nodup) {o p : OpV} (ho : o ∈ l) (hp : p ∈ l) (wo : o.wr = true) (wp : p.wr = true) (e : o.val = p.val) : o.key = p.key := by
  have h1 := addF_in 0 wo l (fun _ => none) hn ho
  have h2 := addF_in 0 wp l (fun _ => none) hn hp
  rw [e, h2] at h1
  have := Option.some.inj h1
  exact (congrArg WV.key this).symm
theorem lastW_some (l : List OpV) {o : OpV} (wo : o.wr = true) : ∀ k, k ≤ l.length → o ∈ l.take k → (lastW (l.take k) o.key).isSome = true
  | 0, _, h => by simp at h
  | k + 1, hk, h => by
    have hlt : k < l.length := by omega
    rw [take_snoc l k hlt] at h ⊢
    rw [lastW_snoc]
    cases hw : l[k].wr with
    | false =>
      simp only [Bool.false_eq_true, if_false]
      rcases List.mem_append.1 h with h1 | h1
      · exact lastW_some l wo k (by omega) h1
      · simp at h1; rw [h1, hw] at wo; cases wo
    | true =>
      simp only [if_true]
      by_cases e : o.key = l[k].key
      · rw [e, putF_same]; rfl
      · rw [putF_other _ _ e]
        rcases List.mem_append.1 h with h1 | h1
        · exact lastW_some l wo k (by omega) h1
        · simp at h1; rw [h1] at e; exact (e rfl).elim
/-- What one transaction's turn lays at the value of one of its writes. -/
theorem turn_at (i : Int) (F : Int → Option WV) {l : List OpV} (hk : keysIn l) (hn : (wv l).Nodup) {o : OpV} (ho : o ∈ l) (wo : o.wr = true) :
    finF i (addF i F l) (refWrites l) o.val = some ⟨i, o.key, vOf l o.key == o.val⟩ := by
  have hR := refWrites_rise hk
  have hmem : ∀ p ∈ refWrites l, p ∈ l ∧ p.wr = true := fun p hp => refWrites_mem hp
  have huq : ∀ p ∈ refWrites l, ∀ q ∈ refWrites l, p.key = q.key → p = q := fun p hp q hq e => by
    have h1 := ((hR.2 p).1 hp).1
    have h2 := ((hR.2 q).1 hq).1
    rw [e, h2] at h1
    exact (Option.some.inj h1).symm
  have hex : ∃ p ∈ refWrites l, p.key = o.key := by
    have h1 := lastW_some l wo l.length (Nat.le_refl _) (by rw [List.take_length]; exact ho)
    rw [List.take_length] at h1
    obtain ⟨p, hp⟩ := Option.isSome_iff_exists.1 h1
    have h2 := lastW_key hp
    exact ⟨p, (hR.2 p).2 ⟨by rw [h2.1]; exact hp, h2.2.1⟩, h2.1⟩
  obtain ⟨p, hp, hpk⟩ := hex
  have hv : vOf l o.key = p.val := by
    unfold vOf
    cases hf : (refWrites l).find? (fun q => q.key == o.key) with
    | none => have := List.find?_eq_none.1 hf p hp; simp [hpk] at this
    | some q =>
      have h1 := List.find?_some hf
      have h2 := List.mem_of_find?_eq_some hf
      have : q = p := huq q h2 p hp (by simpa [hpk] using h1)
      rw [this]; rfl
  by_cases he : p.val = o.val
  · rw [finF_in (k := o.key) i _ _ (fun q hq e => wv_inj hn (hmem q hq).1 ho (hmem q hq).2 wo e) ⟨p, hp, he⟩, hv, he]
    simp
  · rw [finF_out i _ _ (fun q hq e => he ?_), addF_in i wo l F hn ho, hv]
    · simp [he]
    · have := wv_inj hn (hmem q hq).1 ho (hmem q hq).2 wo e
      rw [← huq q hq p hp (by rw [this, hpk])]; exact e
theorem wrTo_at {h : List TxnV} (hk : ∀ t ∈ h, keysIn t.l) : ∀ n, n ≤ h.length → (wvH (h.take n)).Nodup → ∀ i, ∀ hi : i < h.length, i < n → ∀ o ∈ h[i].l, o.wr = true → wrTo h n o.val = some ⟨i, o.key, vOf h[i].l o.key == o.val⟩
  | 0, _, _, i, _, hin, _, _, _ => by omega
  | n + 1, hn, hd, i, hi, hin, o, ho, wo => by
    have hlt : n < h.length := by omega
    rw [wvH_succ h n hlt] at hd
    have hd3 := List.nodup_append.1 hd
    rw [wrTo_succ, opsAt_eq hlt]
    by_cases e : i = n
    · subst e
      exact turn_at _ _ (hk _ (List.getElem_mem _)) hd3.2.1 ho wo
    · have hin2 : o.val ∈ wvH (h.take n) := by
        unfold wvH
        rw [List.mem_flatMap]
        refine ⟨h[i], ?_, wv_mem.2 ⟨o, ho, wo, rfl⟩⟩
        rw [List.mem_take_iff_getElem]
        exact ⟨i, by omega, rfl⟩
      have hout : ¬ o.val ∈ wv h[n].l := fun hh => hd3.2.2 _ hin2 _ hh rfl
      have hR := refWrites_rise (hk _ (List.getElem_mem hlt))
      rw [finF_out _ _ _ (fun q hq e2 => hout (by rw [← e2]; exact wv_mem.2 ⟨q, (refWrites_mem hq).1, (refWrites_mem hq).2, rfl⟩)), addF_out _ _ _ hout]
      exact wrTo_at hk n (by omega) hd3.1 i hi (by omega) o ho wo
end Go.Proofs.Ytfekcmhjdjifgaa

namespace Go.Proofs.Ytfekcmhjdjifgaa
set_option maxRecDepth 100000
open Go.RowKit

/-- Of whom a value is read, and what is read of others, as the reference says it. -/
def fromR (h : List TxnV) (o : OpV) : Int := if o.val = 0 then -1 else wrI o.key o.val h
def rdR (h : List TxnV) (i : Int) (l : List OpV) : List (Int × Int) := (l.filter fun o => fromR h o != i).map fun o => (o.key, fromR h o)
theorem rdR_snoc (h : List TxnV) (i : Int) (l : List OpV) (k : Nat) (hk : k < l.length) : rdR h i (l.take (k + 1)) = rdR h i (l.take k) ++ (if fromR h l[k] = i then [] else [(l[k].key, fromR h l[k])]) := by
  unfold rdR
  rw [List.take_succ_eq_append_getElem hk, List.filter_append, List.map_append]
  by_cases e : fromR h l[k] = i <;> simp [e]
theorem rdR_len (h : List TxnV) (i : Int) (l : List OpV) : (rdR h i l).length ≤ l.length := by
  unfold rdR; rw [List.length_map]; exact List.length_filter_le _ _
theorem refReads_len (l : List OpV) : (refReads l).length ≤ 64 := upTo_len (rdK l) 64
theorem infoRR : (Try.prog.info? 52).map (fun i => (i.zero, i.size, i.bytes)) = some (some (.agg #[.int .i64 0, .int .i64 0]), 2, 16) := by kernel_rfl
set_option maxHeartbeats 8000000 in
theorem rreads8_any (va : Value) (h : List TxnV) (i : Nat) (hi : i < h.length) (w : World) (hT : Txns w va h) :
    Calls Try.prog 20 #[va, .int .i64 i] w fun e w' => ∃ v, e = .returned v ∧ w'.ownsRow w.heap.size 52 2 v (rdR h i (refReads h[i].l)).length (frV (rdR h i (refReads h[i].l))) ∧ Below w.heap.size w w' := by
  obtain ⟨i0, hi0, hz0, hz1, hz2⟩ := info_parts infoRR
  obtain ⟨ao, cap, rfl, hal⟩ := hT.form
  have hb0 := box_below w (.cells #[] 52)
  have hO0 : World.ownsRow (w.alloc (.cells #[] 52)) w.heap.size 52 2 (.slice (some ⟨w.heap.size, 0, none⟩) 0 0) 0 [] := World.ownsRow_lit (base := w.heap.size) (size := 2) w #[] 0 (Nat.le_refl _) (by decide) rfl
  obtain ⟨g, o, hao, c0, c1, c2, c3⟩ := (hT.below hb0).at hi
  cases hao
  have hii : (i : Int) < (h.length : Int) := by omega
  have CR := Lib.hid (rreads_any h[i].v h[i].l _ ((hT.below hb0).ops hi))
  have HT := Lib.hid (fun wx (hx : Below w.heap.size w wx) => hT.below hx)
  have HL := Lib.hid (refReads_len h[i].l)
  clear hT c0 c1 c2
  generalize h[i].v = vi at *
  generalize refReads h[i].l = L at *
  go_enter Try.func20, Try.ntmps20
  go_wp2_with fail
  refine (CR.out).mono ?_
  rintro e w1 ⟨v1, rfl, hO1, hb1⟩
  have hb2 := below_then hb0 hb1
  have hO2 := owns_below hO0 hb1
  have hL := hO1.ops
  obtain ⟨a1, cap1, rfl, _⟩ := hL.form
  have hL1 : Own w1 w.heap.size _ L := own_base' hO1 (by simp)
  clear CR hO0 hO1 hb0 hb1 c3
  go_wp2_with fail
  go_loopw [5, 7] (fun v j wr => ∃ k : Nat, k ≤ L.length ∧ j = .int .i64 k ∧ wr.ownsRow w.heap.size 52 2 v (rdR h i (L.take k)).length (frV (rdR h i (L.take k))) ∧ Below w.heap.size w wr ∧ Own wr w.heap.size (.slice a1 L.length cap1) L)
    (fun _ j _ => L.length - (intOf j).toNat)
  case atStart => exact ⟨0, by omega, rfl, hO2, hb2, hL1⟩
  case round =>
    obtain ⟨k, hk, rfl, hown, hb, hLo⟩ := hrel
    by_cases hlt : k < L.length
    · have hki : (k : Int) < (L.length : Int) := by omega
      obtain ⟨g1, o1, hao, d0, d1, d2⟩ := hLo.ops.at hlt
      cases hao
      have HS := Lib.hid (rdR_snoc h i L k hlt)
      have hkl : (rdR h i (L.take k)).length ≤ 64 := Nat.le_trans (rdR_len _ _ _) (by rw [List.length_take]; have := HL.out; omega)
      have HF := Lib.hid (show fromR h L[k] = if L[k].val = 0 then -1 else wrI L[k].key L[k].val h from rfl)
      generalize fromR h L[k] = f at *
      generalize hkey : L[k].key = y at *
      generalize L[k].val = z at *
      have hsz := hb.size
      by_cases hz : z = 0
      · have hf := HF.out
        rw [if_pos hz] at hf
        subst hz
        subst hf
        clear HF
        by_cases hfi : (-1) = (i : Int)
        · omega
        · rw [if_neg hfi] at HS
          go_wp2_with (first | (at_builtin; refine wpList_append_own _ rfl _ _ 47 rfl w.heap.size 52 i0 (.agg #[.int .i64 0, .int .i64 0]) 2 16 Try.underlying47 hi0 hz0 hz1 hz2 rfl (by decide) _ _ _ rfl (World.ownsRow.alloc hown _) ⟨_, 0, none⟩ 1 1 [.int .i64 y, .int .i64 (-1)] rfl rfl ?c1 ?c2 ?c3 ?c4 ?c5 ?_) | go_in)
          case c1 => exact lit_two _ _ _ _
          case c2 => intro u hu; simp at hu; rcases hu with rfl | rfl <;> rfl
          case c3 => unfold maxLen; omega
          case c4 => omega
          case c5 => simp; omega
          intro v' w5 hown' hgrow _
          have hb' := below_app hb (Nat.le_refl _) hown hgrow
          have hL' : Own w5 w.heap.size (.slice (some ⟨g1, o1, none⟩) L.length cap1) L := World.ownsRow.kept (World.ownsRow.alloc hLo _) hgrow (owns_apart hLo hown (by decide))
          clear hgrow
          go_wp2_with fail
          go_roundw
          case rel =>
            refine ⟨k + 1, by omega, by go_num, ?_, hb', hL'⟩
            rw [HS.out, frV_app, List.length_append]
            exact hown'
          case measure => simp [intOf]; omega
      · have hf := HF.out
        rw [if_neg hz] at hf
        clear HF
        have CW := Lib.hid (fun wx (hx : Below w.heap.size w wx) => writer_any _ h y z wx (HT.out _ hx))
        rw [← hf] at CW
        clear hf
        have hlo := block_lt d1
        simp only at hlo
        go_wp2_with fail
        have kk := Below.refl wr.heap.size wr
        go_region_held3 (fun w' => w'.cell? ⟨g1, o1 + k * 3 + 1, none⟩ = some (.int .i64 y) ∧ w'.cell? ⟨g1, o1 + k * 3 + 2, none⟩ = some (.int .i64 z))
          (go_keep)
          (first
            | (go_at_call 49; refine (CW.out _ (below_then hb (by first | exact kk | exact kk.drew | exact below_drewN kk _))).mono ?_; rintro e wx ⟨rfl, hbx⟩; have kk : Below wr.heap.size wr wx := (by first | exact below_then kk hbx | exact below_then kk ⟨hbx.os, hbx.tape, hbx.output, hbx.size, hbx.block⟩); have d1 := (kk.cell (p := ⟨g1, o1 + k * 3 + 1, none⟩) hlo).trans d1; have d2 := (kk.cell (p := ⟨g1, o1 + k * 3 + 2, none⟩) hlo).trans d2))
        have hb4 := below_then hb kk
        have hown4 := owns_below hown kk
        have hL4 := Own.below hLo kk
        have hsz4 := hb4.size
        clear CW hbx hb hown hLo
        by_cases hfi : f = (i : Int)
        · rw [if_pos hfi, List.append_nil] at HS
          subst hfi
          go_wp2_with fail
          go_roundw
          case rel => exact ⟨k + 1, by omega, by go_num, by rw [HS.out]; exact hown4, hb4, hL4⟩
          case measure => simp [intOf]; omega
        · rw [if_neg hfi] at HS
          go_wp2_with (first | (at_builtin; refine wpList_append_own _ rfl _ _ 47 rfl w.heap.size 52 i0 (.agg #[.int .i64 0, .int .i64 0]) 2 16 Try.underlying47 hi0 hz0 hz1 hz2 rfl (by decide) _ _ _ rfl (World.ownsRow.alloc hown4 _) ⟨_, 0, none⟩ 1 1 [.int .i64 y, .int .i64 f] rfl rfl ?c1 ?c2 ?c3 ?c4 ?c5 ?_) | go_in)
          case c1 => exact lit_two _ _ _ _
          case c2 => intro u hu; simp at hu; rcases hu with rfl | rfl <;> rfl
          case c3 => unfold maxLen; omega
          case c4 => omega
          case c5 => simp; omega
          intro v' w5 hown' hgrow _
          have hb' := below_app hb4 (Nat.le_refl _) hown4 hgrow
          have hL' : Own w5 w.heap.size (.slice (some ⟨g1, o1, none⟩) L.length cap1) L := World.ownsRow.kept (World.ownsRow.alloc hL4 _) hgrow (owns_apart hL4 hown4 (by decide))
          clear hgrow
          go_wp2_with fail
          go_roundw
          case rel =>
            refine ⟨k + 1, by omega, by go_num, ?_, hb', hL'⟩
            rw [HS.out, frV_app, List.length_append]
            exact hown'
          case measure => simp [intOf]; omega
    · have hk2 : k = L.length := by omega
      subst hk2
      rw [List.take_length] at hown
      go_wp2_with fail
      go_ret
      exact ⟨_, rfl, hown, hb⟩
end Go.Proofs.Ytfekcmhjdjifgaa

namespace Go.Proofs.Ytfekcmhjdjifgaa
set_option maxRecDepth 100000
open Go.RowKit

/-- Does k read of i, as the reference says it? -/
def froR (h : List TxnV) (i k : Nat) : Bool := (rdR h k (refReads (opsAt h k))).any fun r => decide (r.2 = (i : Int))
set_option maxHeartbeats 8000000 in
theorem rfrom8_any (va : Value) (h : List TxnV) (i k : Nat) (hk : k < h.length) (w : World) (hT : Txns w va h) :
    Calls Try.prog 15 #[va, .int .i64 i, .int .i64 k] w fun e w' => e = .returned (.bool (froR h i k)) ∧ Below w.heap.size w w' := by
  have CR := Lib.hid (rreads8_any va h k hk w hT)
  have HF : Hid (froR h i k = (rdR h k (refReads h[k].l)).any fun r => decide (r.2 = (i : Int))) := Lib.hid (by
    unfold froR opsAt
    rw [List.getElem?_eq_getElem hk]; rfl)
  obtain ⟨ao, cap, rfl, hal⟩ := hT.form
  clear hT
  generalize rdR h k (refReads h[k].l) = L at *
  generalize froR h i k = q at *
  go_enter Try.func15, Try.ntmps15
  go_wp2_with fail
  refine (CR.out).mono ?_
  rintro e w1 ⟨v, rfl, hO, hb⟩
  have hL : Frs w1 v L := Row.of_owns hO
  obtain ⟨a1, cap1, rfl, hll⟩ := hL.form
  clear CR hO
  go_wp2_with fail
  go_loopw [8] (fun j wr => ∃ n : Nat, n ≤ L.length ∧ j = .int .i64 n ∧ (L.take n).any (fun r => decide (r.2 = (i : Int))) = false ∧ Below w.heap.size w wr ∧ Below w1.heap.size w1 wr)
    (fun j _ => L.length - (intOf j).toNat)
  case atStart => exact ⟨0, by omega, rfl, rfl, hb, Below.refl _ _⟩
  case round =>
    obtain ⟨n, hn, rfl, hno, hbw, hb1⟩ := hrel
    by_cases hlt : n < L.length
    · have hni : (n : Int) < (L.length : Int) := by omega
      obtain ⟨g1, o1, hao, d0, d1⟩ := (hL.below hb1).at hlt
      cases hao
      have HN := Lib.hid (show (L.take (n + 1)).any (fun r => decide (r.2 = (i : Int))) = decide (L[n].2 = (i : Int)) by
        rw [List.take_succ_eq_append_getElem hlt, List.any_append, hno]; simp)
      have HH := Lib.hid (show decide (L[n].2 = (i : Int)) = true → (L.any fun r => decide (r.2 = (i : Int))) = true from fun h => List.any_eq_true.2 ⟨_, List.getElem_mem hlt, h⟩)
      generalize L[n].2 = f at *
      by_cases hf : f = (i : Int)
      · have HQ : Hid (true = q) := Lib.hid (by rw [HF.out]; exact (HH.out (decide_eq_true hf)).symm)
        subst hf
        clear HN HH HF
        go_wp2_with fail
        go_ret
        exact ⟨ret_b HQ.out, hbw⟩
      · have hno2 : Hid ((L.take (n + 1)).any (fun r => decide (r.2 = (i : Int))) = false) := Lib.hid (by rw [HN.out]; exact decide_eq_false hf)
        clear HN HH
        go_wp2_with fail
        go_roundw
        case rel => exact ⟨n + 1, by omega, by go_num, hno2.out, hbw, hb1⟩
        case measure => simp [intOf]; omega
    · have hn2 : n = L.length := by omega
      subst hn2
      rw [List.take_length] at hno
      have HQ : Hid (false = q) := Lib.hid (by rw [HF.out]; exact hno.symm)
      clear HF
      go_wp2_with fail
      go_ret
      exact ⟨ret_b HQ.out, hbw⟩
end Go.Proofs.Ytfekcmhjdjifgaa

namespace Go.Proofs.Ytfekcmhjdjifgaa
set_option maxRecDepth 100000
open Go.RowKit

/-- Does transaction i write to a key; do two write to one key, as the reference says it? -/
def wrsR (h : List TxnV) (i : Nat) (key : Int) : Bool := vOf (opsAt h i) key != 0
def rivR (h : List TxnV) (i k : Nat) : Bool := (List.range 64).any fun n => wrsR h i (n : Int) && wrsR h k (n : Int)
set_option maxHeartbeats 4000000 in
theorem rwrts8_any (va : Value) (h : List TxnV) (i : Nat) (key : Int) (hi : i < h.length) (w : World) (hT : Txns w va h) :
    Calls Try.prog 44 #[va, .int .i64 i, .int .i64 key] w fun e w' => e = .returned (.bool (wrsR h i key)) ∧ Below w.heap.size w w' := by
  have CV := Lib.hid (rvalue_any h[i].v h[i].l key w (hT.ops hi))
  have HV : Hid (wrsR h i key = (vOf h[i].l key != 0)) := Lib.hid (by unfold wrsR; rw [opsAt_eq hi])
  obtain ⟨ao, cap, rfl, hal⟩ := hT.form
  obtain ⟨g, o, hao, c0, c1, c2, c3⟩ := hT.at hi
  cases hao
  have hii : (i : Int) < (h.length : Int) := by omega
  rw [HV.out]
  generalize vOf h[i].l key = x at *
  generalize h[i].v = vi at *
  clear c0 c1 c2 hT HV
  go_enter Try.func44, Try.ntmps44
  go_wp2_with fail
  refine (CV.out).mono ?_
  rintro e w1 ⟨rfl, hb⟩
  go_wp2_with fail
  go_ret
  exact ⟨rfl, hb⟩
set_option maxHeartbeats 8000000 in
theorem rrivals_any (va : Value) (h : List TxnV) (i k : Nat) (hi : i < h.length) (hk : k < h.length) (hne : i ≠ k) (w : World) (hT : Txns w va h) :
    Calls Try.prog 16 #[va, .int .i64 i, .int .i64 k] w fun e w' => e = .returned (.bool (rivR h i k)) ∧ Below w.heap.size w w' := by
  have C1 := Lib.hid (fun (n : Int) wx (hx : Below w.heap.size w wx) => rwrts8_any va h i n hi wx (hT.below hx))
  have C2 := Lib.hid (fun (n : Int) wx (hx : Below w.heap.size w wx) => rwrts8_any va h k n hk wx (hT.below hx))
  have HQ : Hid (rivR h i k = (List.range 64).any fun n => wrsR h i (n : Int) && wrsR h k (n : Int)) := Lib.hid rfl
  have hnei : ¬ (i : Int) = (k : Int) := by omega
  generalize rivR h i k = q at *
  generalize wrsR h i = f1 at *
  generalize wrsR h k = f2 at *
  obtain ⟨ao, cap, rfl, hal⟩ := hT.form
  clear hT
  go_enter Try.func16, Try.ntmps16
  go_wp2_with fail
  have hb0 : ((i : Int) == (k : Int)) = false := by simpa using hnei
  simp only [hb0]
  clear hnei
  go_loopw [7] (fun j wr => ∃ n : Nat, n ≤ 64 ∧ j = .int .i64 n ∧ ((List.range n).any fun n => f1 (n : Int) && f2 (n : Int)) = false ∧ Below w.heap.size w wr) (fun j _ => 64 - (intOf j).toNat)
  case atStart => exact ⟨0, by omega, rfl, rfl, Below.refl _ _⟩
  case round =>
    obtain ⟨n, hn, rfl, hno, hb⟩ := hrel
    by_cases hlt : n < 64
    · have hni : (n : Int) < 64 := by omega
      have HN := Lib.hid (show ((List.range (n + 1)).any fun n => f1 (n : Int) && f2 (n : Int)) = (f1 (n : Int) && f2 (n : Int)) by
        rw [List.range_succ, List.any_append, hno]; simp)
      have HH := Lib.hid (show (f1 (n : Int) && f2 (n : Int)) = true → ((List.range 64).any fun n => f1 (n : Int) && f2 (n : Int)) = true from fun h => List.any_eq_true.2 ⟨n, List.mem_range.2 hlt, h⟩)
      have D1 := Lib.hid (C1.out (n : Int))
      have D2 := Lib.hid (C2.out (n : Int))
      generalize f1 (n : Int) = p1 at *
      generalize f2 (n : Int) = p2 at *
      go_wp2_with fail
      refine (D1.out _ hb).mono ?_
      rintro e w1 ⟨rfl, hb1⟩
      have hb2 := below_then hb hb1
      cases p1
      · have hno2 : Hid (((List.range (n + 1)).any fun n => f1 (n : Int) && f2 (n : Int)) = false) := Lib.hid (by rw [HN.out]; rfl)
        clear HN HH D1 D2 C1 C2 HQ
        go_wp2_with fail
        go_roundw
        case rel => exact ⟨n + 1, by omega, by go_num, hno2.out, hb2⟩
        case measure => simp [intOf]; omega
      · go_wp2_with fail
        refine (D2.out _ hb2).mono ?_
        rintro e w2 ⟨rfl, hb3⟩
        have hb4 := below_then hb2 hb3
        cases p2
        · have hno2 : Hid (((List.range (n + 1)).any fun n => f1 (n : Int) && f2 (n : Int)) = false) := Lib.hid (by rw [HN.out]; rfl)
          clear HN HH D1 D2 C1 C2 HQ
          go_wp2_with fail
          go_roundw
          case rel => exact ⟨n + 1, by omega, by go_num, hno2.out, hb4⟩
          case measure => simp [intOf]; omega
        · have HR : Hid (true = q) := Lib.hid (by rw [HQ.out]; exact (HH.out rfl).symm)
          clear HN HH D1 D2 C1 C2 HQ
          go_wp2_with fail
          go_ret
          exact ⟨ret_b HR.out, hb4⟩
    · have hn2 : n = 64 := by omega
      subst hn2
      have HR : Hid (false = q) := Lib.hid (by rw [HQ.out]; exact hno.symm)
      clear HQ C1 C2
      go_wp2_with fail
      go_ret
      exact ⟨ret_b HR.out, hb⟩
end Go.Proofs.Ytfekcmhjdjifgaa

namespace Go.Proofs.Ytfekcmhjdjifgaa
set_option maxRecDepth 100000
open Go.RowKit

abbrev Pr := Int × Int
def prV (l : List Pr) : List Value := l.flatMap fun p => [.int .i64 p.1, .int .i64 p.2]
theorem prV_len (l : List Pr) : (prV l).length = l.length * 2 := by
  induction l with
  | nil => rfl
  | cons a l ih => unfold prV at *; rw [List.flatMap_cons, List.length_append, ih, List.length_cons]; simp; omega
theorem prV_at : ∀ (l : List Pr) (k : Nat) (hk : k < l.length), (prV l)[2 * k]? = some (.int .i64 l[k].1) ∧ (prV l)[2 * k + 1]? = some (.int .i64 l[k].2)
  | [], k, hk => by simp at hk
  | a :: l, 0, _ => by unfold prV; simp
  | a :: l, k + 1, hk => by
    have := prV_at l k (by simpa using hk)
    unfold prV at *
    rw [List.flatMap_cons, show 2 * (k + 1) = 2 * k + 2 by omega]
    simpa using this
/-- The slice v holds these pairs. -/
def Prs (w : World) (v : Value) (l : List Pr) : Prop := Row w v l.length 2 (prV l)
theorem Prs.below {w w' : World} {v : Value} {l : List Pr} (h : Prs w v l) (hb : Below w.heap.size w w') : Prs w' v l := Row.below h hb
theorem Prs.of_owns {w : World} {base : Nat} {e : TypeId} {v : Value} {n : Nat} {l : List Pr} (h : w.ownsRow base e 2 v n (prV l)) : Prs w v l := by
  have hr := Row.of_owns h
  have hn : n = l.length := by have := h.1; rw [prV_len] at this; omega
  subst hn; exact hr
theorem Prs.form {w : World} {v : Value} {l : List Pr} (h : Prs w v l) : ∃ ao cap, v = .slice ao l.length cap ∧ l.length ≤ 9223372036854775807 := by
  obtain ⟨_, ao, cap, rfl, hm, _, _⟩ := h
  exact ⟨ao, cap, rfl, Nat.le_trans hm.1 hm.2⟩
theorem Prs.at {w : World} {ao : Option Addr} {n cap : Nat} {l : List Pr} (h : Prs w (.slice ao n cap) l) {k : Nat} (hk : k < l.length) :
    ∃ b off, ao = some ⟨b, off, none⟩ ∧ w.cell? ⟨b, off + k * 2, none⟩ = some (.int .i64 l[k].1) ∧ w.cell? ⟨b, off + k * 2 + 1, none⟩ = some (.int .i64 l[k].2) := by
  obtain ⟨_, ao', cap', he, hm, _, hc⟩ := h
  obtain ⟨rfl, _, _⟩ : ao = ao' ∧ n = l.length ∧ cap = cap' := by simpa using he
  obtain ⟨b, off, rfl, hcell⟩ := hc (by omega)
  obtain ⟨h1, h2⟩ := prV_at l k hk
  refine ⟨b, off, rfl, ?_, ?_⟩
  · rw [Nat.mul_comm k 2, hcell (2 * k) (by omega), h1]
  · rw [Nat.mul_comm k 2, Nat.add_assoc, hcell (2 * k + 1) (by omega), h2]

def hasP (l : List Pr) (a b : Int) : Bool := l.any fun p => p.1 == a && p.2 == b
theorem hasP_iff {l : List Pr} {a b : Int} : hasP l a b = true ↔ (a, b) ∈ l := by
  unfold hasP
  rw [List.any_eq_true]
  constructor
  · rintro ⟨⟨x, y⟩, h, e⟩
    simp at e
    obtain ⟨rfl, rfl⟩ := e
    exact h
  · intro h; exact ⟨(a, b), h, by simp⟩
def putP (l : List Pr) (a b : Int) : List Pr := if hasP l a b then l else l ++ [(a, b)]
theorem mem_putP {l : List Pr} {a b : Int} {p : Pr} : p ∈ putP l a b ↔ p ∈ l ∨ p = (a, b) := by
  unfold putP
  split
  · rename_i h
    rw [hasP_iff] at h
    exact ⟨.inl, fun h' => h'.elim id (fun e => e ▸ h)⟩
  · simp
theorem putP_nodup {l : List Pr} {a b : Int} (h : l.Nodup) : (putP l a b).Nodup := by
  unfold putP
  split
  · exact h
  · rename_i hn
    rw [List.nodup_append]
    refine ⟨h, by simp, ?_⟩
    intro x hx y hy
    simp at hy
    subst hy
    rintro rfl
    exact hn (hasP_iff.2 hx)
/-- Pairs put in, one by one. -/
def putAll (o l : List Pr) : List Pr := l.foldl (fun o p => putP o p.1 p.2) o
theorem mem_putAll {p : Pr} : ∀ (l o : List Pr), p ∈ putAll o l ↔ p ∈ o ∨ p ∈ l
  | [], o => by simp [putAll]
  | q :: l, o => by
    have := mem_putAll (p := p) l (putP o q.1 q.2)
    unfold putAll at *
    rw [List.foldl_cons, this, mem_putP, List.mem_cons, or_assoc]
theorem putAll_nodup : ∀ (l : List Pr) {o : List Pr}, o.Nodup → (putAll o l).Nodup
  | [], _, h => h
  | _ :: l, _, h => putAll_nodup l (putP_nodup h)
/-- One pair, and then any of some, put in. -/
def thenOne (o : List Pr) (p : Pr) (m : List Pr) : List Pr := m.foldl (fun o q => if p.2 == q.1 then putP o p.1 q.2 else o) o
def thenP (l m : List Pr) : List Pr := l.foldl (fun o p => thenOne o p m) []
theorem mem_thenOne {x : Pr} {p : Pr} : ∀ (m o : List Pr), x ∈ thenOne o p m ↔ x ∈ o ∨ ∃ q ∈ m, p.2 = q.1 ∧ x = (p.1, q.2)
  | [], o => by simp [thenOne]
  | q :: m, o => by
    have h := mem_thenOne (x := x) (p := p) m (if p.2 == q.1 then putP o p.1 q.2 else o)
    have e : thenOne o p (q :: m) = thenOne (if p.2 == q.1 then putP o p.1 q.2 else o) p m := rfl
    rw [e, h]
    by_cases hpq : p.2 = q.1
    · have : (p.2 == q.1) = true := by simpa using hpq
      rw [if_pos this, mem_putP, or_assoc]
      apply or_congr Iff.rfl
      constructor
      · rintro (rfl | ⟨r, hr, h1, h2⟩)
        · exact ⟨q, List.mem_cons_self, hpq, rfl⟩
        · exact ⟨r, List.mem_cons_of_mem _ hr, h1, h2⟩
      · rintro ⟨r, hr, h1, h2⟩
        rcases List.mem_cons.1 hr with rfl | hr
        · exact .inl h2
        · exact .inr ⟨r, hr, h1, h2⟩
    · have : ¬ (p.2 == q.1) = true := by simpa using hpq
      rw [if_neg this]
      apply or_congr Iff.rfl
      constructor
      · rintro ⟨r, hr, h1, h2⟩; exact ⟨r, List.mem_cons_of_mem _ hr, h1, h2⟩
      · rintro ⟨r, hr, h1, h2⟩
        rcases List.mem_cons.1 hr with rfl | hr
        · exact absurd h1 hpq
        · exact ⟨r, hr, h1, h2⟩
theorem mem_thenAll {x : Pr} {m : List Pr} : ∀ (l o : List Pr), x ∈ l.foldl (fun o p => thenOne o p m) o ↔ x ∈ o ∨ ∃ p ∈ l, ∃ q ∈ m, p.2 = q.1 ∧ x = (p.1, q.2)
  | [], o => by simp
  | p :: l, o => by
    rw [List.foldl_cons, mem_thenAll l, mem_thenOne, or_assoc]
    apply or_congr Iff.rfl
    constructor
    · rintro (⟨q, hq, h⟩ | ⟨r, hr, q, hq, h⟩)
      · exact ⟨p, List.mem_cons_self, q, hq, h⟩
      · exact ⟨r, List.mem_cons_of_mem _ hr, q, hq, h⟩
    · rintro ⟨r, hr, q, hq, h⟩
      rcases List.mem_cons.1 hr with rfl | hr
      · exact .inl ⟨q, hq, h⟩
      · exact .inr ⟨r, hr, q, hq, h⟩
theorem mem_thenP {x : Pr} {l m : List Pr} : x ∈ thenP l m ↔ ∃ p ∈ l, ∃ q ∈ m, p.2 = q.1 ∧ x = (p.1, q.2) := by
  unfold thenP; rw [mem_thenAll]; simp
/-- A list without repeats that lies in another one is no longer. -/
theorem nodup_le {α : Type} [BEq α] [LawfulBEq α] : ∀ (l m : List α), l.Nodup → (∀ x ∈ l, x ∈ m) → l.length ≤ m.length
  | [], _, _, _ => by simp
  | a :: l, m, hn, hs => by
    rw [List.nodup_cons] at hn
    have ha := hs a List.mem_cons_self
    have := nodup_le l (m.erase a) hn.2 (fun x hx => by
      have hxa : x ≠ a := by rintro rfl; exact hn.1 hx
      exact (List.mem_erase_of_ne hxa).2 (hs x (List.mem_cons_of_mem _ hx)))
    rw [List.length_erase_of_mem ha] at this
    have hpos : 0 < m.length := List.length_pos_of_mem ha
    rw [List.length_cons]; omega
/-- One comes from a to b, by the pairs of a list, in one step or more. -/
inductive PathP (l : List Pr) : Int → Int → Prop
  | one {a b : Int} : (a, b) ∈ l → PathP l a b
  | more {a b c : Int} : PathP l a b → (b, c) ∈ l → PathP l a c
theorem PathP.ends {l : List Pr} {a b : Int} (h : PathP l a b) : (∃ y, (a, y) ∈ l) ∧ ∃ x, (x, b) ∈ l := by
  induction h with
  | one h => exact ⟨⟨_, h⟩, ⟨_, h⟩⟩
  | more _ h ih => exact ⟨ih.1, ⟨_, h⟩⟩
/-- One more round of the reference's closing. -/
def cloNext (o l : List Pr) : List Pr := putAll o (thenP o l)
/-- What holds of the reference's list from its first round on. -/
structure CloInv (l o : List Pr) : Prop where
  nodup : o.Nodup
  has : ∀ p ∈ l, p ∈ o
  path : ∀ a b, (a, b) ∈ o → PathP l a b
theorem CloInv.next {l o : List Pr} (h : CloInv l o) : CloInv l (cloNext o l) where
  nodup := putAll_nodup _ h.nodup
  has := fun p hp => (mem_putAll _ _).2 (.inl (h.has p hp))
  path := fun a b hab => by
    rcases (mem_putAll _ _).1 hab with h' | h'
    · exact h.path a b h'
    · obtain ⟨⟨x, y⟩, hp, ⟨u, v⟩, hq, h1, h2⟩ := mem_thenP.1 h'
      simp at h1 h2
      obtain ⟨rfl, rfl⟩ := h2
      subst h1
      exact .more (h.path _ _ hp) hq
theorem CloInv.len {l o : List Pr} (h : CloInv l o) : o.length ≤ l.length * l.length := by
  have := nodup_le o (l.flatMap fun p => l.map fun q => (p.1, q.2)) h.nodup (fun x hx => by
    obtain ⟨⟨y, hy⟩, ⟨z, hz⟩⟩ := (h.path x.1 x.2 hx).ends
    exact List.mem_flatMap.2 ⟨_, hy, List.mem_map.2 ⟨_, hz, rfl⟩⟩)
  have e : (l.flatMap fun p => l.map fun q => (p.1, q.2)).length = l.length * l.length := by
    rw [List.length_flatMap]
    have : (l.map fun p => (l.map fun q => ((p.1, q.2) : Pr)).length) = l.map fun _ => l.length := by simp
    rw [this, List.map_const']
    have hr : ∀ n k : Nat, (List.replicate n k).sum = n * k := by
      intro n k; induction n with
      | zero => simp
      | succ n ih => rw [List.replicate_succ, List.sum_cons, ih, Nat.succ_mul]; omega
    exact hr _ _
  rw [e] at this; exact this
theorem CloInv.done {l o : List Pr} (h : CloInv l o) (hd : (cloNext o l).length = o.length) (a b : Int) : (a, b) ∈ o ↔ PathP l a b := by
  constructor
  · exact h.path a b
  · intro hp
    have hsub : ∀ x ∈ cloNext o l, x ∈ o := by
      intro x hx
      by_cases hxo : x ∈ o
      · exact hxo
      · have h2 := nodup_le (x :: o) (cloNext o l) (List.nodup_cons.2 ⟨hxo, h.nodup⟩) (fun y hy => by
          rcases List.mem_cons.1 hy with rfl | hy
          · exact hx
          · exact (mem_putAll _ _).2 (.inl hy))
        rw [List.length_cons] at h2; omega
    induction hp with
    | one h' => exact h.has _ h'
    | more _ h' ih => exact hsub _ ((mem_putAll _ _).2 (.inr (mem_thenP.2 ⟨_, ih, _, h', rfl, rfl⟩)))
end Go.Proofs.Ytfekcmhjdjifgaa

namespace Go.Proofs.Ytfekcmhjdjifgaa
set_option maxRecDepth 100000
open Go.RowKit

/-- Pairs are no sets: a store into a relation's block leaves them. -/
theorem Prs.grown {w w' : World} {v : Value} {l : List Pr} {g : Nat} {t : TypeId} {R : Mat} (h : Prs w v l) (hr : RelAt w g t R) (hg : w.grownBy w' (some g)) : Prs w' v l := by
  obtain ⟨hl, ao, cap, rfl, hm, hno, hc⟩ := h
  refine ⟨hl, ao, cap, rfl, hm, hno, fun hn => ?_⟩
  obtain ⟨b, off, rfl, hcell⟩ := hc hn
  refine ⟨b, off, rfl, fun i hi => ?_⟩
  have h1 := hcell i hi
  have hi' : i < (prV l).length := by rw [prV_len]; omega
  rw [List.getElem?_eq_getElem hi'] at h1 ⊢
  have hb : b ≠ g := by
    rintro rfl
    rw [cell_of_row w b _ _ _ _ hr] at h1
    have hmem : (prV l)[i] ∈ prV l := List.getElem_mem hi'
    unfold prV at hmem
    obtain ⟨p, _, hp⟩ := List.mem_flatMap.1 hmem
    by_cases ho : off + i < 64
    · rw [rowsA_at R ho] at h1
      have := Option.some.inj h1
      unfold prV at this
      rw [← this] at hp
      simp at hp
    · rw [Array.getElem?_eq_none (by rw [rowsA_size]; omega)] at h1
      cases h1
  exact hg.cell h1 (by simpa using hb)
end Go.Proofs.Ytfekcmhjdjifgaa

namespace Go.Proofs.Ytfekcmhjdjifgaa
set_option maxRecDepth 100000
open Go.RowKit

/-- Does nothing of a set follow on a number? -/
def emp (R : Mat) (s i : Nat) : Bool := (mkS (R i) &&& s) == 0
theorem emp_no {R : Mat} {s i : Nat} (hs : IsSet s) (h : emp R s i = false) : ∃ j, j ∈ lst s ∧ R i j = true := by
  unfold emp at h
  rw [beq_eq_false_iff_ne] at h
  have hset : IsSet (mkS (R i) &&& s) := isSet_and (isSet_mkS _)
  have hne : lst (mkS (R i) &&& s) ≠ [] := fun e => h (lst_nil hset e)
  have hm := mem_lst.1 (fst_mem hne)
  rw [Nat.testBit_and, testBit_mkS, Bool.and_eq_true, Bool.and_eq_true] at hm
  exact ⟨_, (mem_lst' hs).2 hm.2.2, hm.2.1.2⟩
theorem emp_yes {R : Mat} {s i j : Nat} (hj : j ∈ lst s) (h : R i j = true) : emp R s i = false := by
  unfold emp
  rw [beq_eq_false_iff_ne]
  intro e
  have hj' := mem_lst.1 hj
  have := congrArg (fun x => Nat.testBit x j) e
  simp [Nat.testBit_and, testBit_mkS, hj'.1, hj'.2, h] at this
/-- A set each of whose numbers stands to one of it. -/
def Suff (R : Mat) (F : Nat → Prop) : Prop := ∀ a, F a → a < 64 ∧ ∃ b, F b ∧ R a b = true
structure EndInv (R : Mat) (s : Nat) : Prop where
  set : IsSet s
  all : ∀ F, Suff R F → ∀ a, F a → a ∈ lst s
/-- One round done for the first k numbers. -/
def NxTo (R : Mat) (s : Nat) (k : Nat) (x : Nat) : Prop := IsSet x ∧ ∀ i, x.testBit i = (s.testBit i && !(((lst s).take k).contains i && emp R s i))
theorem nxTo_end {R : Mat} {s x : Nat} (hs : IsSet s) (h : NxTo R s (lst s).length x) (i : Nat) : x.testBit i = (s.testBit i && !emp R s i) := by
  rw [h.2 i, List.take_length]
  cases hb : s.testBit i
  · simp
  · have : (lst s).contains i = true := by rw [List.contains_iff_mem]; exact (mem_lst' hs).2 hb
    rw [this]; simp
theorem EndInv.next {R : Mat} {s x : Nat} (h : EndInv R s) (hx : NxTo R s (lst s).length x) : EndInv R x where
  set := hx.1
  all := fun F hF a ha => by
    obtain ⟨hlt, b, hb, hab⟩ := hF a ha
    rw [mem_lst' hx.1, nxTo_end h.set hx, (mem_lst' h.set).1 (h.all F hF a ha), emp_yes (h.all F hF b hb) hab]; rfl
theorem EndInv.done {R : Mat} {s : Nat} (h : EndInv R s) (hx : NxTo R s (lst s).length s) : ∀ a ∈ lst s, ∃ b ∈ lst s, R a b = true := by
  intro a ha
  have hb := (mem_lst' h.set).1 ha
  have := nxTo_end h.set hx a
  rw [hb] at this
  simp at this
  exact emp_no h.set this
end Go.Proofs.Ytfekcmhjdjifgaa

namespace Go.Proofs.Ytfekcmhjdjifgaa
set_option maxRecDepth 100000
open Go.RowKit

theorem getD_at (l : List Nat) (i : Nat) (h : i < l.length) : l.getD i 0 = l[i] := by simp [List.getD, h]
/-- Each number of a list stands to the next one. -/
def Edges (R : Mat) (l : List Nat) : Prop := ∀ i, i + 1 < l.length → R (l.getD i 0) (l.getD (i + 1) 0) = true
/-- The row that one has gone, and where one stands. -/
structure GoOK (R : Mat) (E : Nat) (Q : List Nat) (n : Nat) : Prop where
  nodup : Q.Nodup
  mem : ∀ x ∈ Q, x ∈ lst E
  at_ : n ∈ lst E
  edges : Edges R (Q ++ [n])
theorem GoOK.len {R : Mat} {E : Nat} {Q : List Nat} {n : Nat} (h : GoOK R E Q n) : Q.length ≤ 64 := by
  have := nodup_le Q (lst E) h.nodup h.mem
  have := lstTo_len E 64
  have : (lst E).length ≤ 64 := this
  omega
theorem GoOK.next {R : Mat} {E : Nat} {Q : List Nat} {n m : Nat} (h : GoOK R E Q n) (hn : n ∉ Q) (hm : m ∈ lst E) (hR : R n m = true) : GoOK R E (Q ++ [n]) m where
  nodup := by
    rw [List.nodup_append]
    exact ⟨h.nodup, by simp, fun x hx y hy => by simp at hy; subst hy; rintro rfl; exact hn hx⟩
  mem := fun x hx => by
    rcases List.mem_append.1 hx with hx | hx
    · exact h.mem x hx
    · simp at hx; subst hx; exact h.at_
  at_ := hm
  edges := by
    intro i hi
    have hlen : (Q ++ [n] ++ [m]).length = Q.length + 2 := by simp
    by_cases hi2 : i + 1 < (Q ++ [n]).length
    · have := h.edges i hi2
      have e1 : (Q ++ [n] ++ [m]).getD i 0 = (Q ++ [n]).getD i 0 := by
        rw [getD_at _ _ (by omega), getD_at _ _ (by omega), List.getElem_append_left]
      have e2 : (Q ++ [n] ++ [m]).getD (i + 1) 0 = (Q ++ [n]).getD (i + 1) 0 := by
        rw [getD_at _ _ (by omega), getD_at _ _ (by omega), List.getElem_append_left]
      rw [e1, e2]; exact this
    · have hi3 : i = Q.length := by simp at hi2 hi; omega
      subst hi3
      have e1 : (Q ++ [n] ++ [m]).getD Q.length 0 = n := by simp [List.getD]
      have e2 : (Q ++ [n] ++ [m]).getD (Q.length + 1) 0 = m := by simp [List.getD]
      rw [e1, e2]; exact hR
theorem Ints.drop {w : World} {g n cap : Nat} {l : List Int} (h : Ints w (.slice (some ⟨g, 0, none⟩) n cap) l) (k : Nat) (hk : k < l.length) :
    Ints w (.slice (some ⟨g, k, none⟩) (l.length - k) (cap - k)) (l.drop k) := by
  have hlen : (l.drop k).length = l.length - k := by simp
  obtain ⟨_, ao, cap', he, hm, _, hc⟩ := h
  obtain ⟨rfl, rfl, rfl⟩ : some (⟨g, 0, none⟩ : Addr) = ao ∧ n = l.length ∧ cap = cap' := by simpa using he
  refine ⟨by simp, some ⟨g, k, none⟩, cap - k, by rw [hlen], by rw [hlen]; unfold maxLen at *; omega, (fun h => by cases h), fun _ => ⟨g, k, rfl, fun i hi => ?_⟩⟩
  obtain ⟨b, off, he2, hcell⟩ := hc (by omega)
  obtain ⟨rfl, rfl⟩ : g = b ∧ 0 = off := by simpa using he2
  have := hcell (k + i) (by omega)
  rw [Nat.zero_add] at this
  rw [this, List.map_drop, List.getElem?_drop]
end Go.Proofs.Ytfekcmhjdjifgaa

namespace Go.Proofs.Ytfekcmhjdjifgaa
set_option maxRecDepth 100000
open Go.RowKit

theorem inB_iff {s t : Nat} (hs : IsSet s) : inB s t = true ↔ ∀ i, i < 64 → s.testBit i = true → t.testBit i = true := by
  unfold inB
  rw [beq_iff_eq]
  constructor
  · intro h i _ hi
    have := congrArg (fun x => Nat.testBit x i) h
    simp [Nat.testBit_xor, Nat.testBit_and, hi] at this
    exact this
  · intro h
    apply set_ext (isSet_xor hs (isSet_and hs)) (by unfold IsSet; omega)
    intro i hi
    rw [Nat.testBit_xor, Nat.testBit_and]
    cases hb : s.testBit i
    · simp
    · simp [h i hi hb]
end Go.Proofs.Ytfekcmhjdjifgaa

namespace Go.Proofs.Ytfekcmhjdjifgaa
set_option maxRecDepth 100000
open Go.RowKit

theorem addM_iff (R : Mat) (a b : Int) (i j : Nat) (hi : i < 64) (hj : j < 64) : addM R a b i j = true ↔ R i j = true ∨ (a = (i : Int) ∧ b = (j : Int)) := by
  unfold addM
  split
  · rename_i h
    have h1 := (mayB_iff a).1 h.1
    have h2 := (mayB_iff b).1 h.2
    unfold rowSet
    by_cases e : i = a.toNat
    · rw [if_pos e, ← e, Bool.or_eq_true, decide_eq_true_iff]
      apply or_congr Iff.rfl
      constructor
      · intro h; omega
      · intro h; omega
    · rw [if_neg e]
      constructor
      · exact .inl
      · rintro (h | h)
        · exact h
        · omega
  · rename_i h
    constructor
    · exact .inl
    · rintro (h' | ⟨rfl, rfl⟩)
      · exact h'
      · exact absurd ⟨(mayB_iff _).2 (by omega), (mayB_iff _).2 (by omega)⟩ h
theorem PathP.cons {l : List Pr} {a b c : Int} (h : (a, b) ∈ l) (k : PathP l b c) : PathP l a c := by
  induction k with
  | one h' => exact .more (.one h) h'
  | more _ h' ih => exact .more ih h'
end Go.Proofs.Ytfekcmhjdjifgaa

namespace Go.Proofs.Ytfekcmhjdjifgaa
set_option maxRecDepth 100000
open Go.RowKit

theorem prsRow_iff (S : Nat → Nat → Bool) (a : Nat) (R : Mat) (i j : Nat) (hi : i < 64) (hj : j < 64) : ∀ b, prsRow S a R b i j = true ↔ R i j = true ∨ (i = a ∧ j < b ∧ S i j = true)
  | 0 => by simp [prsRow]
  | b + 1 => by
    have ih := prsRow_iff S a R i j hi hj b
    cases hs : S a b with
    | true =>
      rw [prsRow_hit R hs, addM_iff _ _ _ _ _ hi hj, ih]
      constructor
      · rintro ((h | ⟨h1, h2, h3⟩) | ⟨h1, h2⟩)
        · exact .inl h
        · exact .inr ⟨h1, by omega, h3⟩
        · have e1 : i = a := by omega
          have e2 : j = b := by omega
          subst e1 e2
          exact .inr ⟨rfl, by omega, hs⟩
      · rintro (h | ⟨h1, h2, h3⟩)
        · exact .inl (.inl h)
        · by_cases e : j = b
          · exact .inr ⟨by omega, by omega⟩
          · exact .inl (.inr ⟨h1, by omega, h3⟩)
    | false =>
      rw [prsRow_miss R hs, ih]
      constructor
      · rintro (h | ⟨h1, h2, h3⟩)
        · exact .inl h
        · exact .inr ⟨h1, by omega, h3⟩
      · rintro (h | ⟨h1, h2, h3⟩)
        · exact .inl h
        · refine .inr ⟨h1, ?_, h3⟩
          by_cases e : j = b
          · subst h1 e; rw [hs] at h3; cases h3
          · omega
theorem prsTo_iff (S : Nat → Nat → Bool) (n : Nat) (i j : Nat) (hi : i < 64) (hj : j < 64) : ∀ a, prsTo S n a i j = true ↔ i < a ∧ j < n ∧ S i j = true
  | 0 => by simp [prsTo, noR]
  | a + 1 => by
    have ih := prsTo_iff S n i j hi hj a
    show prsRow S a (prsTo S n a) n i j = true ↔ _
    rw [prsRow_iff S a _ i j hi hj, ih]
    constructor
    · rintro (⟨h1, h2⟩ | ⟨h1, h2⟩)
      · exact ⟨by omega, h2⟩
      · exact ⟨by omega, h2⟩
    · rintro ⟨h1, h2⟩
      by_cases e : i = a
      · exact .inr ⟨e, h2⟩
      · exact .inl ⟨by omega, h2⟩
theorem hasR_prs (S : Nat → Nat → Bool) (n : Nat) (hn : n ≤ 64) (i j : Nat) (hi : i < n) (hj : j < n) : hasR (prsTo S n n) (i : Int) (j : Int) = S i j := by
  have h := prsTo_iff S n i j (by omega) (by omega) n
  unfold hasR mayB
  rw [Int.toNat_natCast, hasB_mkS _ _ (by omega)]
  have e : decide (0 ≤ (i : Int) ∧ (i : Int) < 64) = true := by simp; omega
  rw [e, Bool.true_and]
  cases hs : S i j with
  | true => exact h.2 ⟨hi, hj, hs⟩
  | false =>
    cases hp : prsTo S n n i j with
    | false => rfl
    | true => have := (h.1 hp).2.2; rw [hs] at this; cases this
theorem wpList_load_part {ops : Array Oper} {rest : List Oper} {o : Oper} {a : Act} {w : World} {Q : Exit → Act → World → Prop} {B k : Nat} {R : Mat} (h : w.rangeAt B k (rowsA R).toList) (x : Operand) (ho : o.op = .load 32 x)
    (hw : Region.wanted o (yielded ops a.tmps) = true) (hx : a.eval x = .pointer (some ⟨B, k, none⟩)) (hn : wpList Try.prog ops Q rest (a.put o.dst (.agg (rowsA R))) w) : wpList Try.prog ops Q (o :: rest) a w :=
  wpList_step fun K hK => by
    rw [if_pos hw]
    refine wp_load_mid 32 x ho B k hx (rowsA R).toList _ h Try.underlying32 rfl (by rw [Array.length_toList]; exact infoRel' R) ?_
    rw [Array.toArray_toList]
    exact hK _ _ hn
end Go.Proofs.Ytfekcmhjdjifgaa

namespace Go.Proofs.Ytfekcmhjdjifgaa
set_option maxRecDepth 100000
open Go.RowKit

theorem may_parts {h : List TxnV} (hm : mayRef h = true) : okW h = true ∧ ∀ t ∈ h, keysIn t.l := by
  rw [← right_ref] at hm
  unfold rightB valuesB at hm
  simp only [Bool.and_eq_true] at hm
  exact ⟨hm.2.1.1, parts_keys hm.1⟩
end Go.Proofs.Ytfekcmhjdjifgaa

namespace Go.Proofs.Ytfekcmhjdjifgaa
set_option maxRecDepth 100000
open Go.RowKit

theorem wrI_at {key x : Int} {h : List TxnV} (hn : ¬ wrI key x h < 0) : ∃ i, ∃ hi : i < h.length, wrI key x h = i ∧ ∃ o ∈ h[i].l, isWr key x o = true := by
  unfold wrI at hn ⊢
  cases hf : h.findIdx? (fun t => t.l.any (isWr key x)) with
  | none => rw [hf] at hn; exact absurd (by decide) hn
  | some i =>
    rw [List.findIdx?_eq_some_iff_getElem] at hf
    obtain ⟨hi, h1, _⟩ := hf
    obtain ⟨o, ho, hw⟩ := List.any_eq_true.1 h1
    exact ⟨i, hi, rfl, o, ho, hw⟩
theorem isWr_iff {key x : Int} {o : OpV} : isWr key x o = true ↔ o.wr = true ∧ o.key = key ∧ o.val = x := by unfold isWr; simp
theorem may_rows {h : List TxnV} (hm : mayRef h = true) : ∀ k, ∀ hk : k < h.length, rowR h k h[k] = true := fun k hk => by
  have := List.all_eq_true.1 hm k (List.mem_range.2 hk)
  rwa [List.getElem?_eq_getElem hk] at this
theorem rowR_iff {h : List TxnV} {k : Nat} {t : TxnV} : rowR h k t = true ↔ mayT t.s t.b t.c t.l = true ∧ (h.take k).all (fun a => apartB a t) = true ∧ ∀ o ∈ t.l, opR h o = true := by
  unfold rowR
  rw [Bool.and_eq_true, Bool.and_eq_true, List.all_eq_true (p := opR h)]
theorem may_wr {h : List TxnV} (hm : mayRef h = true) {i : Nat} (hi : i < h.length) {o : OpV} (ho : o ∈ h[i].l) (wo : o.wr = true) : wrTo h h.length o.val = some ⟨i, o.key, vOf h[i].l o.key == o.val⟩ := by
  obtain ⟨hw, hk⟩ := may_parts hm
  exact wrTo_at hk h.length (Nat.le_refl _) (by rw [List.take_length]; unfold okW at hw; simpa using hw) i hi hi o ho wo
/-- What is told of a value that is read: who wrote it, to that key; of 0 nothing. -/
theorem reads_F {h : List TxnV} (hm : mayRef h = true) {k : Nat} (hk : k < h.length) {o : OpV} (ho : o ∈ h[k].l) (wo : o.wr = false) :
    (o.val = 0 ∧ wrTo h h.length 0 = none) ∨ (o.val ≠ 0 ∧ ∃ u, wrTo h h.length o.val = some u ∧ u.key = o.key ∧ wrI o.key o.val h = u.i) := by
  by_cases h0 : o.val = 0
  · refine .inl ⟨h0, ?_⟩
    cases hF : wrTo h h.length 0 with
    | none => rfl
    | some u =>
      obtain ⟨p, hp, hpv, _⟩ := real_wr h h.length (Nat.le_refl _) 0 u hF
      obtain ⟨t, ht, hpt, hpw⟩ := wrs_mem.1 hp
      obtain ⟨i, hi, rfl⟩ := List.getElem_of_mem ht
      have h1 := (rowR_iff.1 (may_rows hm i hi)).1
      unfold mayT at h1
      simp only [Bool.and_eq_true] at h1
      have h2 := (mayO_iff p).1 (List.all_eq_true.1 h1.2 p hpt)
      exact absurd hpv (h2.2.2 hpw)
  · refine .inr ⟨h0, ?_⟩
    have h1 := (rowR_iff.1 (may_rows hm k hk)).2.2 o ho
    unfold opR at h1
    rw [wo] at h1
    have h2 : ¬ wrI o.key o.val h < 0 := by simpa [h0] using h1
    obtain ⟨i, hi, he, p, hp, hpw⟩ := wrI_at h2
    obtain ⟨q1, q2, q3⟩ := isWr_iff.1 hpw
    have h3 := may_wr hm hi hp q1
    rw [q3, q2] at h3
    exact ⟨_, h3, rfl, he⟩
end Go.Proofs.Ytfekcmhjdjifgaa

namespace Go.Proofs.Ytfekcmhjdjifgaa
set_option maxRecDepth 100000
open Go.RowKit

theorem may_of {h : List TxnV} (hc : checkI h = 0) : mayRef h = true := by
  rw [← right_ref]
  unfold checkI at hc
  split at hc
  · cases hc
  · cases hr : rightB h with
    | true => rfl
    | false => rw [hr] at hc; cases hc
theorem from_same {h : List TxnV} (hc : checkI h = 0) {k : Nat} (hk : k < h.length) {o : OpV} (ho : o ∈ h[k].l) (wo : o.wr = false) : fromO (wrTo h h.length) o.val = fromR h o := by
  unfold fromO fromR
  rcases reads_F (may_of hc) hk ho wo with ⟨h0, hn⟩ | ⟨h0, u, hu, _, hw⟩
  · rw [if_pos h0, h0, hn]; rfl
  · rw [if_neg h0, hu, hw]; rfl
theorem rd_congr {h : List TxnV} {F : Int → Option WV} {i : Int} : ∀ (l : List OpV), (∀ o ∈ l, fromO F o.val = fromR h o) → rdFr F i l = rdR h i l
  | [], _ => rfl
  | a :: l, hl => by
    have ih := rd_congr (i := i) l (fun o ho => hl o (List.mem_cons_of_mem _ ho))
    have ha := hl a List.mem_cons_self
    unfold rdFr rdR at *
    rw [List.filter_cons, List.filter_cons, ha]
    split
    · rw [List.map_cons, List.map_cons, ih, ha]
    · exact ih
theorem refReads_in {l : List OpV} {o : OpV} (ho : o ∈ refReads l) : o ∈ l ∧ o.wr = false := by
  obtain ⟨k, _, hk⟩ := upTo_mem.1 ho
  obtain ⟨h1, h2⟩ := rdK_some.1 hk
  exact ⟨(firstO_key h1).2, h2⟩
theorem reads_same {h : List TxnV} (hc : checkI h = 0) {k : Nat} (hk : k < h.length) : readsOf h k = rdR h k (refReads h[k].l) := by
  unfold readsOf
  rw [opsAt_eq hk]
  refine rd_congr _ fun o ho => ?_
  obtain ⟨h1, h2⟩ := refReads_in ho
  exact from_same hc hk h1 h2
theorem fro_same {h : List TxnV} (hc : checkI h = 0) (i : Nat) {k : Nat} (hk : k < h.length) : froP h i k = froR h i k := by
  unfold froP froR
  rw [reads_same hc hk, opsAt_eq hk]
theorem froM_at {h : List TxnV} (hc : checkI h = 0) {i k : Nat} (hi : i < h.length) (hk : k < h.length) : hasR (froM h) (i : Int) (k : Int) = froR h i k := by
  have hl := (check_zero hc).1
  unfold froM
  rw [hasR_prs _ _ hl i k hi hk, fro_same hc i hk]
theorem sesM_at {h : List TxnV} (hc : checkI h = 0) {i k : Nat} (hi : i < h.length) (hk : k < h.length) : hasR (sesM h) (i : Int) (k : Int) = (decide (i < k) && decide (h[i].s = h[k].s)) := by
  have hl := (check_zero hc).1
  unfold sesM
  rw [hasR_prs _ _ hl i k hi hk]
  unfold sesP
  rw [sAt_eq hi, sAt_eq hk]
theorem timM_at {h : List TxnV} (hc : checkI h = 0) {i k : Nat} (hi : i < h.length) (hk : k < h.length) : hasR (timM h) (i : Int) (k : Int) = decide (h[i].c < h[k].b) := by
  have hl := (check_zero hc).1
  unfold timM
  rw [hasR_prs _ _ hl i k hi hk]
  unfold timP
  rw [cAt_eq hi, bAt_eq hk]
end Go.Proofs.Ytfekcmhjdjifgaa

namespace Go.Proofs.Ytfekcmhjdjifgaa
set_option maxRecDepth 100000
open Go.RowKit

theorem rivS_bit (F : Int → Option Nat) (j : Nat) : ∀ (xs : List Int) (s : Nat), (xs.foldl (fun s x => s ||| (F x).getD 0) s).testBit j = (s.testBit j || xs.any fun x => ((F x).getD 0).testBit j)
  | [], s => by simp
  | x :: xs, s => by
    rw [List.foldl_cons, rivS_bit F j xs, Nat.testBit_or, List.any_cons, Bool.or_assoc]
theorem wrsRow_bit (i : Nat) (hi : i < 64) (j : Nat) (y : Int) : ∀ (xs : List Int) (F : Int → Option Nat), ((wrsRow i F xs y).getD 0).testBit j = (((F y).getD 0).testBit j || (decide (y ∈ xs) && decide (i = j)))
  | [], F => by simp [wrsRow]
  | x :: xs, F => by
    have ih := wrsRow_bit i hi j y xs (putF F x (withS ((F x).getD 0) i))
    show ((wrsRow i (putF F x (withS ((F x).getD 0) i)) xs y).getD 0).testBit j = _
    rw [ih]
    by_cases e : y = x
    · subst e
      rw [putF_same, Option.getD_some, testBit_withS, Int.toNat_natCast]
      have : decide (0 ≤ (i : Int) ∧ (i : Int) < 64) = true := by simp; omega
      rw [this]
      cases ((F y).getD 0).testBit j <;> by_cases h : i = j <;> simp [h]
    · rw [putF_other F _ e]
      simp [e]
theorem wrsTo_bit (K : List KRow) (j : Nat) (y : Int) : ∀ m, m ≤ 64 → m ≤ K.length → ((wrsTo K m y).getD 0).testBit j = (decide (j < m) && decide (y ∈ ((K[j]?).map (·.2)).getD []))
  | 0, _, _ => by simp [wrsTo]
  | m + 1, h64, hm => by
    have ih := wrsTo_bit K j y m (by omega) (by omega)
    have hlt : m < K.length := by omega
    rw [wrsTo_succ hlt, wrsRow_bit m (by omega) j y, ih]
    by_cases e : m = j
    · subst e
      simp [List.getElem?_eq_getElem hlt]
    · by_cases h : j < m
      · have h2 : j < m + 1 := by omega
        simp [h, h2, e]
      · have h2 : ¬ j < m + 1 := by omega
        simp [h, h2, e]
theorem keysOf_iff {h : List TxnV} (hc : checkI h = 0) {i : Nat} (hi : i < h.length) (y : Int) : y ∈ keysOf (opsAt h i) ↔ wrsR h i y = true := by
  unfold keysOf wrsR vOf
  generalize hl : opsAt h i = l
  rw [opsAt_eq hi] at hl
  constructor
  · intro hy
    obtain ⟨o, ho, rfl⟩ := List.mem_map.1 hy
    cases hf : (refWrites l).find? (fun p => p.key == o.key) with
    | none => have := List.find?_eq_none.1 hf o ho; simp at this
    | some p =>
      have hp := List.mem_of_find?_eq_some hf
      obtain ⟨h1, h2⟩ := refWrites_mem hp
      have h3 := (rowR_iff.1 (may_rows (may_of hc) i hi)).1
      unfold mayT at h3
      simp only [Bool.and_eq_true] at h3
      have h4 := (mayO_iff p).1 (List.all_eq_true.1 h3.2 p (by rw [hl]; exact h1))
      simpa using h4.2.2 h2
  · intro hy
    cases hf : (refWrites l).find? (fun p => p.key == y) with
    | none => rw [hf] at hy; simp at hy
    | some p =>
      have hp := List.mem_of_find?_eq_some hf
      have hk := List.find?_some hf
      exact List.mem_map.2 ⟨p, hp, by simpa using hk⟩
theorem keys_at {h : List TxnV} {K : List KRow} (hK : K.map (·.2) = keysTo h h.length) {k : Nat} (hk : k < h.length) : ((K[k]?).map (·.2)).getD [] = keysOf (opsAt h k) := by
  rw [← List.getElem?_map, hK]
  unfold keysTo
  simp [hk]
theorem keys_len {h : List TxnV} {K : List KRow} (hK : K.map (·.2) = keysTo h h.length) : K.length = h.length := by
  have := congrArg List.length hK
  simpa [keysTo] using this
theorem riv_same {h : List TxnV} {K : List KRow} (hc : checkI h = 0) (hK : K.map (·.2) = keysTo h h.length) {i k : Nat} (hi : i < h.length) (hk : k < h.length) (hne : i ≠ k) :
    hasB (woS (rivS (wrsTo K K.length) (((K[i]?).map (·.2)).getD [])) (i : Int)) (k : Int) = rivR h i k := by
  obtain ⟨h64, _, _, hks⟩ := check_zero hc
  have hl := keys_len hK
  unfold hasB
  rw [Int.toNat_natCast, testBit_woS, Int.toNat_natCast]
  have e1 : decide (0 ≤ (k : Int) ∧ (k : Int) < 64) = true := by simp; omega
  rw [e1, Bool.true_and]
  have e2 : decide (i = k) = false := decide_eq_false hne
  rw [e2, Bool.and_false, Bool.not_false, Bool.and_true]
  unfold rivS
  rw [rivS_bit, Nat.zero_testBit, Bool.false_or, keys_at hK hi, Bool.eq_iff_iff, List.any_eq_true]
  unfold rivR
  rw [List.any_eq_true]
  have hb : ∀ y, ((wrsTo K K.length y).getD 0).testBit k = true ↔ wrsR h k y = true := fun y => by
    rw [wrsTo_bit K k y K.length (by omega) (Nat.le_refl _), keys_at hK hk]
    have : k < K.length := by omega
    simp only [this, decide_true, Bool.true_and, decide_eq_true_eq]
    exact keysOf_iff hc hk y
  constructor
  · rintro ⟨y, hy, hbt⟩
    have h1 := (keysOf_iff hc hi y).1 hy
    have h2 := (hb y).1 hbt
    obtain ⟨o, ho, rfl⟩ := List.mem_map.1 hy
    have h3 := (refWrites_mem ho).1
    rw [opsAt_eq hi] at h3
    obtain ⟨h4, h5⟩ := hks _ (List.getElem_mem hi) o h3
    refine ⟨o.key.toNat, List.mem_range.2 (by omega), ?_⟩
    rw [Int.toNat_of_nonneg h4, h1, h2]; rfl
  · rintro ⟨n, _, hn⟩
    rw [Bool.and_eq_true] at hn
    exact ⟨(n : Int), (keysOf_iff hc hi _).2 hn.1, (hb _).2 hn.2⟩
end Go.Proofs.Ytfekcmhjdjifgaa

namespace Go.Proofs.Ytfekcmhjdjifgaa
set_option maxRecDepth 100000
open Go.RowKit

/-- Who writes to a key that a transaction writes to. -/
def rivB (h : List TxnV) (i k : Nat) : Bool := decide (i < h.length) && (decide (k < h.length) && (decide (i ≠ k) && rivR h i k))
def rivN (h : List TxnV) (i : Nat) : Nat := mkS (rivB h i)
theorem rivN_set (h : List TxnV) (i : Nat) : IsSet (rivN h i) := isSet_mkS _
theorem rivN_none {h : List TxnV} {i : Nat} (hi : h.length ≤ i) : rivN h i = 0 := by
  unfold rivN
  have : rivB h i = fun _ => false := by
    funext k
    unfold rivB
    rw [decide_eq_false (by omega)]; rfl
  rw [this]; exact mkS_false
theorem keys_int {h : List TxnV} {K : List KRow} (hc : checkI h = 0) (hK : K.map (·.2) = keysTo h h.length) : ∀ p ∈ K, ∀ x ∈ p.2, InI x := by
  obtain ⟨_, _, _, hks⟩ := check_zero hc
  intro p hp x hx
  have h1 : p.2 ∈ keysTo h h.length := by rw [← hK]; exact List.mem_map.2 ⟨p, hp, rfl⟩
  unfold keysTo at h1
  obtain ⟨i, hi, e⟩ := List.mem_map.1 h1
  have hi := List.mem_range.1 hi
  rw [← e] at hx
  unfold keysOf at hx
  obtain ⟨o, ho, rfl⟩ := List.mem_map.1 hx
  have h2 := (refWrites_mem ho).1
  rw [opsAt_eq hi] at h2
  obtain ⟨h3, h4⟩ := hks _ (List.getElem_mem hi) o h2
  refine inI_of ?_
  unfold IntOk
  omega
theorem riv_eq {h : List TxnV} {K : List KRow} (hc : checkI h = 0) (hK : K.map (·.2) = keysTo h h.length) {i : Nat} (hi : i < h.length) (hA : AllSet (wrsTo K K.length)) :
    woS (rivS (wrsTo K K.length) (((K[i]?).map (·.2)).getD [])) (i : Int) = rivN h i := by
  have hl := keys_len hK
  have h64 := (check_zero hc).1
  refine mkS_eq ?_ (fun k hk => ?_)
  · have h1 : IsSet (rivS (wrsTo K K.length) (((K[i]?).map (·.2)).getD [])) := by
      have := rivS_set hA (((K[i]?).map (·.2)).getD []) (((K[i]?).map (·.2)).getD []).length (Nat.le_refl _)
      rwa [List.take_length] at this
    exact isSet_woS h1
  · by_cases hkn : k < h.length
    · by_cases e : i = k
      · subst e
        unfold rivB
        rw [testBit_woS, Int.toNat_natCast]
        simp; intros; omega
      · have h2 := riv_same hc hK hi hkn e
        unfold hasB at h2
        rw [Int.toNat_natCast] at h2
        have e1 : decide (0 ≤ (k : Int) ∧ (k : Int) < 64) = true := by simp; omega
        rw [e1, Bool.true_and] at h2
        rw [h2]
        unfold rivB
        simp [hi, hkn, e]
    · rw [testBit_woS]
      have h3 : (rivS (wrsTo K K.length) (((K[i]?).map (·.2)).getD [])).testBit k = false := by
        unfold rivS
        rw [rivS_bit, Nat.zero_testBit, Bool.false_or]
        refine List.any_eq_false.2 (fun y _ => ?_)
        rw [wrsTo_bit K k y K.length (by omega) (Nat.le_refl _)]
        have : ¬ k < K.length := by omega
        simp [this]
      rw [h3]
      unfold rivB
      simp [hkn]
theorem ordis_rivals {w : World} {B b : Nat} {h : List TxnV} (hO : OrdIs w B b h) (hc : checkI h = 0) (i : Nat) :
    Calls Try.prog 11 #[.pointer (some ⟨B, 0, none⟩), .int .i64 i] w fun e w' => e = .returned (.int .u64 ((rivN h i : Nat) : Int)) ∧ Below w.heap.size w w' := by
  obtain ⟨bm, m, c, vk, vr, K, R, h1, h2, h3, h4, h5, h6⟩ := hO
  have hl := keys_len h5
  by_cases hi : i < h.length
  · have hiK : i < K.length := by omega
    have hh := orivals_any i h1 h2 h3 h4.rws (keys_int hc h5) hiK
    have e := riv_eq hc h5 hi h3
    rw [List.getElem?_eq_getElem hiK] at e
    simp only [Option.map_some, Option.getD_some] at e
    rw [e] at hh
    exact hh
  · rw [rivN_none (by omega)]
    exact orivals_none (i : Int) h1 h4.rws (.inr (by omega))
theorem ordis_rivals_neg {w : World} {B b : Nat} {h : List TxnV} (hO : OrdIs w B b h) (i : Int) (hi : i < 0) :
    Calls Try.prog 11 #[.pointer (some ⟨B, 0, none⟩), .int .i64 i] w fun e w' => e = .returned (.int .u64 0) ∧ Below w.heap.size w w' := by
  obtain ⟨bm, m, c, vk, vr, K, R, h1, h2, h3, h4, h5, h6⟩ := hO
  exact orivals_none i h1 h4.rws (.inl hi)
theorem rivN_has (h : List TxnV) (i k : Nat) (hk : k < 64) : hasB (rivN h i) (k : Int) = rivB h i k := hasB_mkS _ _ hk
theorem froR_irr (h : List TxnV) (i : Nat) : froR h i i = false := by
  unfold froR
  refine List.any_eq_false.2 (fun r hr => ?_)
  unfold rdR at hr
  obtain ⟨o, ho, rfl⟩ := List.mem_map.1 hr
  have := (List.mem_filter.1 ho).2
  simpa using this
end Go.Proofs.Ytfekcmhjdjifgaa

namespace Go.Proofs.Ytfekcmhjdjifgaa
set_option maxRecDepth 100000
open Go.RowKit

theorem path_up {R : Mat} (f : Nat → Int) (hR : ∀ a b, a < 64 → b < 64 → R a b = true → f a < f b) {i j : Nat} (h : Path R i j) (hi : i < 64) (hj : j < 64) : f i < f j := by
  induction h with
  | one h => exact hR _ _ hi hj h
  | more h h2 _ ih => exact Int.lt_trans (hR _ _ hi h2 h) (ih h2 hj)
theorem acy_up {R : Mat} (f : Nat → Int) (hR : ∀ a b, a < 64 → b < 64 → R a b = true → f a < f b) : acy R = true :=
  (acy_iff R).2 fun i hi h => by have := path_up f hR h hi hi; omega
theorem bc_of {h : List TxnV} (hc : checkI h = 0) {i : Nat} (hi : i < h.length) : h[i].b < h[i].c := by
  have h1 := (rowR_iff.1 (may_rows (may_of hc) i hi)).1
  unfold mayT at h1
  simp only [Bool.and_eq_true, decide_eq_true_eq] at h1
  omega
theorem ses_tim {h : List TxnV} (hc : checkI h = 0) {i k : Nat} (hi : i < h.length) (hk : k < h.length) (hik : i < k) (hs : h[i].s = h[k].s) : h[i].c < h[k].b := by
  have h1 := (rowR_iff.1 (may_rows (may_of hc) k hk)).2.1
  have h2 : h[i] ∈ h.take k := by
    rw [List.mem_take_iff_getElem]
    exact ⟨i, by omega, rfl⟩
  obtain ⟨⟨_, _, h3, _⟩, h4⟩ := (apartB_iff _ _).1 (List.all_eq_true.1 h1 _ h2)
  by_cases e : h[k].b < h[i].c
  · exact absurd ⟨hs, e⟩ h4
  · omega
theorem timM_acy {h : List TxnV} (hc : checkI h = 0) : acy (timM h) = true := by
  refine acy_up (cAt h) fun a b ha hb hab => ?_
  obtain ⟨h1, h2, h3⟩ := (prsTo_iff (timP h) h.length a b ha hb h.length).1 hab
  unfold timP at h3
  have h4 := bc_of hc h2
  rw [bAt_eq h2] at h3
  rw [cAt_eq h2]
  have := of_decide_eq_true h3
  omega
theorem sesM_acy (h : List TxnV) : acy (sesM h) = true := by
  refine acy_up (fun n => (n : Int)) fun a b ha hb hab => ?_
  obtain ⟨_, _, h3⟩ := (prsTo_iff (sesP h) h.length a b ha hb h.length).1 hab
  unfold sesP at h3
  simp only [Bool.and_eq_true, decide_eq_true_eq] at h3
  show (a : Int) < (b : Int)
  omega
theorem ses_in_tim {h : List TxnV} (hc : checkI h = 0) : inM (sesM h) (timM h) = true := by
  unfold inM inMTo
  rw [List.all_eq_true]
  intro i hi
  have hi := List.mem_range.1 hi
  rw [inB_iff (isSet_mkS _)]
  intro j hj hb
  rw [testBit_mkS] at hb ⊢
  simp only [hj, decide_true, Bool.true_and] at hb ⊢
  obtain ⟨h1, h2, h3⟩ := (prsTo_iff (sesP h) h.length i j hi hj h.length).1 hb
  refine (prsTo_iff (timP h) h.length i j hi hj h.length).2 ⟨h1, h2, ?_⟩
  unfold sesP at h3
  unfold timP
  rw [sAt_eq h1, sAt_eq h2] at h3
  simp only [Bool.and_eq_true, decide_eq_true_eq] at h3
  rw [cAt_eq h1, bAt_eq h2]
  exact decide_eq_true (ses_tim hc h1 h2 h3.1 h3.2)
end Go.Proofs.Ytfekcmhjdjifgaa
