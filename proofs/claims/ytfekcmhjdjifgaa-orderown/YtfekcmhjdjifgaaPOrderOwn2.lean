/- Walks and plain facts that the proof of the statement OrderOwn uses, joined: TxnJ TxnK HisP HisQ HisW HisY SetN SetB SetC SetD SetE OrdA OrdB OrdC OrdG OrdH RelM SetF SetG RelA RelC RelB RelD RelE RelF OrdD OrdE OrdI OrdJ OrdR OrdS OrdAG OrdF. Conditions: each theorem's own. -/
import Derived.Deep.RegionHeld3
import Derived.Laws.Wrap64
import Derived.WalkKit
import Derived.Deep.QuietTactic
import Derived.BigQuiet
import Derived.StillTailTactics
import Derived.Laws.Tables
import Derived.Laws.CopyOwn
import Derived.Deep.MidRow
import Derived.Deep.CutRange
import Derived.Test.YtfekcmhjdjifgaaPOrderOwn0
import Derived.Test.YtfekcmhjdjifgaaPOrderOwn1
namespace Go.Proofs.Ytfekcmhjdjifgaa
set_option maxRecDepth 100000
open Go.RowKit

theorem rdTo_none {l : List OpV} {k j : Nat} (h : lastO (l.take j) k = none) : rdTo l k j = none := by
  have := firstO_none (l := l.take j) (x := (k : Int))
  rw [h] at this
  unfold rdTo rdK
  rw [show firstO (l.take j) k = none from by simpa using this]; rfl
theorem rdTo_all (l : List OpV) (k : Nat) : rdTo l k l.length = rdK l k := by unfold rdTo; rw [List.take_length]
theorem Own.lit0 (w : World) : Own (w.alloc (.cells #[] 56)) w.heap.size (.slice (some ⟨w.heap.size, 0, none⟩) 0 0) [] := World.ownsRow_lit (base := w.heap.size) (size := 3) w #[] 0 (Nat.le_refl _) (by decide) rfl
set_option maxHeartbeats 8000000 in
theorem rreads_any (va : Value) (l : List OpV) (w : World) (ha : Ops w va l) :
    Calls Try.prog 48 #[va] w fun e w' => ∃ v, e = .returned v ∧ Own w' w.heap.size v (refReads l) ∧ Below w.heap.size w w' := by
  obtain ⟨i0, hi, hz0, hz1, hz2⟩ := info_parts infoOp
  obtain ⟨ao, cap, rfl, hal⟩ := ha.form
  have hb0 := (Below.refl w.heap.size w).alloc (Nat.le_refl _) (.cells #[] 56)
  have hO0 := Own.lit0 w
  go_enter Try.func48, Try.ntmps48
  go_wp2_with fail
  go_loopw [3, 4] (fun v i wr => ∃ k : Nat, k ≤ 64 ∧ i = .int .i64 k ∧ Own wr w.heap.size v (upTo (rdK l) k) ∧ Below w.heap.size w wr) (fun _ i _ => 64 - (intOf i).toNat)
  case atStart => exact ⟨0, by omega, rfl, hO0, hb0⟩
  case round =>
    obtain ⟨k, hk, rfl, hO, hb⟩ := hrel
    clear hb0 hO0
    by_cases hlt : k < 64
    · have hki : (k : Int) < 64 := by omega
      have hlenk := upTo_len (rdK l) k
      go_wp2_with fail
      go_loopw [3, 5] (fun v i wx => ∃ j : Nat, j ≤ l.length ∧ i = .int .i64 j ∧ Own wx w.heap.size v (upTo (rdK l) k ++ (rdTo l k j).toList) ∧ Below w.heap.size w wx) (fun _ i _ => l.length - (intOf i).toNat)
      case atStart => exact ⟨0, by omega, rfl, by simpa [rdTo, rdK, firstO] using hO, hb⟩
      case round =>
        obtain ⟨j, hj, rfl, hO2, hb2⟩ := hrel
        have hszx := hb2.size
        clear hO hb
        by_cases hltj : j < l.length
        · have hkj : (j : Int) < (l.length : Int) := by omega
          have CB := Lib.hid (before_any _ l j (k : Int) wr (ha.below hb2) hj)
          have HS := Lib.hid (rdTo_succ (k := k) hltj)
          have HN := Lib.hid (fun h => rdTo_none (l := l) (k := k) (j := j) h)
          have HAT := Lib.hid (fun (wy : World) (hby : Below w.heap.size w wy) => (ha.below hby).at hltj)
          generalize l[j] = x at *
          obtain ⟨xw, xk, xv⟩ := x
          generalize lastO (l.take j) (k : Int) = q at *
          go_wp2_with fail
          refine (CB.out).mono ?_
          rintro e w1 ⟨rfl, hb3⟩
          have hb4 := below_then hb2 hb3
          have hO3 := hO2.below hb3
          clear CB hO2 hb3 hb2
          have hq : Hid (q = none ↔ q.isSome = false) := Lib.hid (by cases q <;> simp)
          generalize q.isSome = qb at *
          simp only [eO]
          generalize q.getD opZ = z at *
          obtain ⟨zw, zk, zv⟩ := z
          simp only [OpV.v]
          have hb5 := hb4.alloc hb4.size (.cells #[.bool zw, .int .i64 zk, .int .i64 zv] 56)
          have hO4 : Own _ _ _ _ := World.ownsRow.alloc hO3 (.cells #[.bool zw, .int .i64 zk, .int .i64 zv] 56)
          obtain ⟨_, _, hao, c0, c1, c2⟩ := HAT.out _ hb5
          cases hao
          try simp only at c0 c1 c2
          have hsz1 := hb4.size
          clear hb4 hO3
          by_cases d1 : xk = k
          · cases xw
            · cases qb
              · have hqn := Lib.hid (hq.out.2 rfl)
                have HS2 : Hid (rdTo l k (j + 1) = some ⟨false, xk, xv⟩) := Lib.hid (by rw [HS.out, if_pos ⟨d1, rfl, hqn.out⟩])
                have HNN := Lib.hid (HN.out hqn.out)
                subst d1
                have hlit := opLit (w1.alloc (.cells #[.bool zw, .int .i64 zk, .int .i64 zv] 56)) 0 ⟨false, (k : Int), xv⟩ (Nat.zero_le _)
                rw [show (w1.alloc (.cells #[.bool zw, .int .i64 zk, .int .i64 zv] 56)).heap.size = w1.heap.size + 1 from by simp] at hlit
                rw [HNN.out] at hO4
                simp only [Option.toList_none, List.append_nil] at hO4
                clear HS HN HNN hq hqn HAT
                go_wp2_with (first | (at_builtin; refine wpList_append_row rfl _ _ 44 rfl w.heap.size 56 i0 (.agg #[.bool false, .int .i64 0, .int .i64 0]) 3 24 Try.underlying44 hi hz0 hz1 hz2 rfl (by decide) _ _ _ rfl (World.ownsRow.alloc hO4 _) _ 1 _ rfl (Row.of_owns hlit) ?d1 ?d2 ?d3 ?d4 ?_) | go_in)
                case d1 => exact opV_one _
                case d2 => unfold maxLen; omega
                case d3 => omega
                case d4 => first | omega | (simp; omega)
                intro v6 w6 hown6 hg6
                clear hlit
                have hO5 : Own _ _ _ (upTo (rdK l) k ++ [⟨false, (k : Int), xv⟩]) := ⟨by rw [opV_len], by rw [opV_app]; simpa using hown6.2⟩
                have hb6 := below_own (hb5.alloc hb5.size (.cells #[.bool false, .int .i64 k, .int .i64 xv] 56)) (World.ownsRow.alloc hO4 (.cells #[.bool false, .int .i64 k, .int .i64 xv] 56)) (Nat.le_refl _) hg6
                clear hown6 hg6 hb5 hO4
                go_wp2_with fail
                go_roundw
                case rel => exact ⟨j + 1, by omega, by go_num, by rw [HS2.out]; exact hO5, hb6⟩
                case measure => simp [intOf]; omega
              · have HS2 : Hid (rdTo l k (j + 1) = rdTo l k j) := Lib.hid (by rw [HS.out, if_neg (fun h => by have := hq.out.1 h.2.2; cases this)])
                subst d1
                clear HS HN hq HAT
                go_wp2_with fail
                go_roundw
                case rel => exact ⟨j + 1, by omega, by go_num, by rw [HS2.out]; exact hO4, hb5⟩
                case measure => simp [intOf]; omega
            · have HS2 : Hid (rdTo l k (j + 1) = rdTo l k j) := Lib.hid (by rw [HS.out, if_neg (fun h => by have := h.2.1; cases this)])
              subst d1
              clear HS HN hq HAT
              go_wp2_with fail
              go_roundw
              case rel => exact ⟨j + 1, by omega, by go_num, by rw [HS2.out]; exact hO4, hb5⟩
              case measure => simp [intOf]; omega
          · have HS2 : Hid (rdTo l k (j + 1) = rdTo l k j) := Lib.hid (by rw [HS.out, if_neg (fun h => d1 h.1)])
            have d1' : (xk == (k : Int)) = false := by simpa using d1
            clear HS HN hq HAT d1
            go_wp2_with fail
            go_roundw
            case rel => exact ⟨j + 1, by omega, by go_num, by rw [HS2.out]; exact hO4, hb5⟩
            case measure => simp [intOf]; omega
        · have hj2 : j = l.length := by omega
          subst hj2
          have HU := Lib.hid (upTo_succ (rdK l) k)
          rw [rdTo_all] at hO2
          rw [← HU.out] at hO2
          go_wp2_with fail
          go_roundw
          case rel => exact ⟨k + 1, by omega, by go_num, hO2, hb2⟩
          case measure => simp [intOf]; omega
    · have hk2 : k = 64 := by omega
      subst hk2
      go_wp2_with fail
      go_ret
      exact ⟨_, rfl, hO, hb⟩
end Go.Proofs.Ytfekcmhjdjifgaa

namespace Go.Proofs.Ytfekcmhjdjifgaa
set_option maxRecDepth 100000
open Go.RowKit

/-- The place of the last write so far. -/
def LastAt (l : List OpV) (k j : Nat) (i : Int) : Prop := (i = -1 ∧ lastW (l.take j) k = none) ∨ ∃ p : Nat, ∃ h : p < l.length, i = p ∧ lastW (l.take j) k = some l[p]
theorem LastAt.yes {l : List OpV} {k j : Nat} (h : j < l.length) (h1 : l[j].key = k) (h2 : l[j].wr = true) : LastAt l k (j + 1) j :=
  .inr ⟨j, h, rfl, by rw [take_snoc l j h, lastW_snoc, if_pos h2, h1, putF_same]⟩
theorem LastAt.no {l : List OpV} {k j : Nat} {i : Int} (hL : LastAt l k j i) (h : j < l.length) (h1 : ¬ (l[j].key = k ∧ l[j].wr = true)) : LastAt l k (j + 1) i := by
  have e : lastW (l.take (j + 1)) k = lastW (l.take j) k := by
    rw [take_snoc l j h, lastW_snoc]
    cases hw : l[j].wr
    · rfl
    · simp only [if_true]; rw [putF_other]; exact fun e => h1 ⟨e.symm, hw⟩
  unfold LastAt at *
  rw [e]; exact hL
end Go.Proofs.Ytfekcmhjdjifgaa

namespace Go.Proofs.Ytfekcmhjdjifgaa
set_option maxRecDepth 100000
open Go.RowKit

/-- What a transaction leaves at a key. -/
def vOf (l : List OpV) (k : Int) : Int := (((refWrites l).find? fun o => o.key == k).map (·.val)).getD 0
theorem wv_cons (a : OpV) (l : List OpV) : wv (a :: l) = (if a.wr then [a.val] else []) ++ wv l := by
  unfold wv; cases h : a.wr <;> simp [h]
theorem addF_cons (i : Int) (F : Int → Option WV) (a : OpV) (l : List OpV) : addF i F (a :: l) = addF i (addOne i F a) l := rfl
theorem finF_cons (i : Int) (F : Int → Option WV) (a : OpV) (l : List OpV) : finF i F (a :: l) = finF i (putF F a.val ⟨i, a.key, true⟩) l := rfl
theorem addF_out (i : Int) {x : Int} : ∀ (l : List OpV) (F : Int → Option WV), ¬ x ∈ wv l → addF i F l x = F x
  | [], _, _ => rfl
  | a :: l, F, h => by
    rw [wv_cons] at h
    rw [addF_cons, addF_out i l _ (fun hh => h (List.mem_append_right _ hh))]
    unfold addOne
    cases hw : a.wr
    · rfl
    · simp only [if_true]
      exact putF_other _ _ (fun e => h (by rw [hw, e]; simp))
theorem addF_in (i : Int) {o : OpV} (ho : o.wr = true) : ∀ (l : List OpV) (F : Int → Option WV), (wv l).Nodup → o ∈ l → addF i F l o.val = some ⟨i, o.key, false⟩
  | a :: l, F, hn, hin => by
    rw [wv_cons] at hn
    rw [addF_cons]
    rcases List.mem_cons.1 hin with rfl | h
    · rw [ho] at hn
      simp only [if_true, List.singleton_append, List.nodup_cons] at hn
      rw [addF_out i l _ hn.1]
      unfold addOne
      rw [ho]
      simp only [if_true]
      exact putF_same _ _ _
    · exact addF_in i ho l _ (List.nodup_append.1 hn).2.1 h
theorem finF_out (i : Int) {x : Int} : ∀ (R : List OpV) (F : Int → Option WV), (∀ o ∈ R, o.val ≠ x) → finF i F R x = F x
  | [], _, _ => rfl
  | a :: R, F, h => by
    rw [finF_cons, finF_out i R _ (fun o ho => h o (List.mem_cons_of_mem _ ho))]
    exact putF_other _ _ (fun e => h a List.mem_cons_self e.symm)
theorem finF_in (i : Int) {x k : Int} : ∀ (R : List OpV) (F : Int → Option WV), (∀ o ∈ R, o.val = x → o.key = k) → (∃ o ∈ R, o.val = x) → finF i F R x = some ⟨i, k, true⟩
  | a :: R, F, h, hex => by
    rw [finF_cons]
    by_cases hr : ∃ o ∈ R, o.val = x
    · exact finF_in i R _ (fun o ho => h o (List.mem_cons_of_mem _ ho)) hr
    · have hn : ∀ o ∈ R, o.val ≠ x := fun o ho e => hr ⟨o, ho, e⟩
      obtain ⟨o, ho, e⟩ := hex
      rcases List.mem_cons.1 ho with rfl | h1
      · rw [finF_out i R _ hn, e, putF_same, h _ List.mem_cons_self e]
      · exact (hn o h1 e).elim
theorem wv_inj {l : List OpV} (hn : (wv l).Nodup) {o p : OpV} (ho : o ∈ l) (hp : p ∈ l) (wo : o.wr = true) (wp : p.wr = true) (e : o.val = p.val) : o.key = p.key := by
  have h1 := addF_in 0 wo l (fun _ => none) hn ho
  have h2 := addF_in 0 wp l (fun _ => none) hn hp
  rw [e, h2] at h1
  have := Option.some.inj h1
  exact (congrArg WV.key this).symm
theorem lastW_some (l : List OpV) {o : OpV} (wo : o.wr = true) : ∀ k, k ≤ l.length → o ∈ l.take k → (lastW (l.take k) o.key).isSome = true
  | 0, _, h => by simp at h
  | k + 1, hk, h => by
    have hlt : k < l.length := by omega
    rw [take_snoc l k hlt] at h ⊢
    rw [lastW_snoc]
    cases hw : l[k].wr with
    | false =>
      simp only [Bool.false_eq_true, if_false]
      rcases List.mem_append.1 h with h1 | h1
      · exact lastW_some l wo k (by omega) h1
      · simp at h1; rw [h1, hw] at wo; cases wo
    | true =>
      simp only [if_true]
      by_cases e : o.key = l[k].key
      · rw [e, putF_same]; rfl
      · rw [putF_other _ _ e]
        rcases List.mem_append.1 h with h1 | h1
        · exact lastW_some l wo k (by omega) h1
        · simp at h1; rw [h1] at e; exact (e rfl).elim
/-- What one transaction's turn lays at the value of one of its writes. -/
theorem turn_at (i : Int) (F : Int → Option WV) {l : List OpV} (hk : keysIn l) (hn : (wv l).Nodup) {o : OpV} (ho : o ∈ l) (wo : o.wr = true) :
    finF i (addF i F l) (refWrites l) o.val = some ⟨i, o.key, vOf l o.key == o.val⟩ := by
  have hR := refWrites_rise hk
  have hmem : ∀ p ∈ refWrites l, p ∈ l ∧ p.wr = true := fun p hp => refWrites_mem hp
  have huq : ∀ p ∈ refWrites l, ∀ q ∈ refWrites l, p.key = q.key → p = q := fun p hp q hq e => by
    have h1 := ((hR.2 p).1 hp).1
    have h2 := ((hR.2 q).1 hq).1
    rw [e, h2] at h1
    exact (Option.some.inj h1).symm
  have hex : ∃ p ∈ refWrites l, p.key = o.key := by
    have h1 := lastW_some l wo l.length (Nat.le_refl _) (by rw [List.take_length]; exact ho)
    rw [List.take_length] at h1
    obtain ⟨p, hp⟩ := Option.isSome_iff_exists.1 h1
    have h2 := lastW_key hp
    exact ⟨p, (hR.2 p).2 ⟨by rw [h2.1]; exact hp, h2.2.1⟩, h2.1⟩
  obtain ⟨p, hp, hpk⟩ := hex
  have hv : vOf l o.key = p.val := by
    unfold vOf
    cases hf : (refWrites l).find? (fun q => q.key == o.key) with
    | none => have := List.find?_eq_none.1 hf p hp; simp [hpk] at this
    | some q =>
      have h1 := List.find?_some hf
      have h2 := List.mem_of_find?_eq_some hf
      have : q = p := huq q h2 p hp (by simpa [hpk] using h1)
      rw [this]; rfl
  by_cases he : p.val = o.val
  · rw [finF_in (k := o.key) i _ _ (fun q hq e => wv_inj hn (hmem q hq).1 ho (hmem q hq).2 wo e) ⟨p, hp, he⟩, hv, he]
    simp
  · rw [finF_out i _ _ (fun q hq e => he ?_), addF_in i wo l F hn ho, hv]
    · simp [he]
    · have := wv_inj hn (hmem q hq).1 ho (hmem q hq).2 wo e
      rw [← huq q hq p hp (by rw [this, hpk])]; exact e
theorem wrTo_at {h : List TxnV} (hk : ∀ t ∈ h, keysIn t.l) : ∀ n, n ≤ h.length → (wvH (h.take n)).Nodup → ∀ i, ∀ hi : i < h.length, i < n → ∀ o ∈ h[i].l, o.wr = true → wrTo h n o.val = some ⟨i, o.key, vOf h[i].l o.key == o.val⟩
  | 0, _, _, i, _, hin, _, _, _ => by omega
  | n + 1, hn, hd, i, hi, hin, o, ho, wo => by
    have hlt : n < h.length := by omega
    rw [wvH_succ h n hlt] at hd
    have hd3 := List.nodup_append.1 hd
    rw [wrTo_succ, opsAt_eq hlt]
    by_cases e : i = n
    · subst e
      exact turn_at _ _ (hk _ (List.getElem_mem _)) hd3.2.1 ho wo
    · have hin2 : o.val ∈ wvH (h.take n) := by
        unfold wvH
        rw [List.mem_flatMap]
        refine ⟨h[i], ?_, wv_mem.2 ⟨o, ho, wo, rfl⟩⟩
        rw [List.mem_take_iff_getElem]
        exact ⟨i, by omega, rfl⟩
      have hout : ¬ o.val ∈ wv h[n].l := fun hh => hd3.2.2 _ hin2 _ hh rfl
      have hR := refWrites_rise (hk _ (List.getElem_mem hlt))
      rw [finF_out _ _ _ (fun q hq e2 => hout (by rw [← e2]; exact wv_mem.2 ⟨q, (refWrites_mem hq).1, (refWrites_mem hq).2, rfl⟩)), addF_out _ _ _ hout]
      exact wrTo_at hk n (by omega) hd3.1 i hi (by omega) o ho wo
end Go.Proofs.Ytfekcmhjdjifgaa

namespace Go.Proofs.Ytfekcmhjdjifgaa
set_option maxRecDepth 100000
open Go.RowKit

theorem checkR_cases (h : List TxnV) : (checkR h = 0 ∧ mayRef h = true) ∨ checkR h = 2 ∨ checkR h = 3 := by
  unfold checkR
  split
  · exact .inr (.inr rfl)
  · cases mayRef h
    · exact .inr (.inl rfl)
    · exact .inl ⟨rfl, rfl⟩
theorem may_parts {h : List TxnV} (hm : mayRef h = true) : okW h = true ∧ ∀ t ∈ h, keysIn t.l := by
  rw [← right_ref] at hm
  unfold rightB valuesB at hm
  simp only [Bool.and_eq_true] at hm
  exact ⟨hm.2.1.1, parts_keys hm.1⟩
end Go.Proofs.Ytfekcmhjdjifgaa

namespace Go.Proofs.Ytfekcmhjdjifgaa
set_option maxRecDepth 100000
open Go.RowKit

theorem apart_at {c : List TxnV} (h : c.Pairwise ApartT) {i j : Nat} (hi : i < c.length) (hj : j < c.length) (hne : j ≠ i) : c[j].v.ownBlock = none ∨ c[j].v.ownBlock ≠ c[i].v.ownBlock := by
  cases hb : c[j].v.ownBlock with
  | none => exact .inl rfl
  | some b =>
    refine .inr (fun e => ?_)
    rw [List.pairwise_iff_getElem] at h
    rcases Nat.lt_or_gt_of_ne hne with hlt | hlt
    · exact h j i hj hi hlt b hb e.symm
    · exact h i j hi hj hlt b e.symm hb
theorem CopyOf.below {w w' : World} {base : Nat} {v : Value} {c : List TxnV} (h : CopyOf w base v c) (hb : Below w.heap.size w w') : CopyOf w' base v c := by
  obtain ⟨b2, h1, h2, h3, h4, h5⟩ := h
  exact ⟨b2, ⟨h1.1, Nat.le_trans h1.2 hb.size⟩, h2.below hb, h3, fun t ht => (h4 t ht).below hb, h5⟩
theorem CopyOf.far {w w' : World} {base : Nat} {v : Value} {c : List TxnV} {row : Option Nat} (h : CopyOf w base v c) (hg : w.grownBy w' row) (hr : ∀ b, row = some b → b < base) : CopyOf w' base v c := by
  obtain ⟨b2, h1, h2, h3, h4, h5⟩ := h
  have far : ∀ (v : Value) (B : Nat), base ≤ B → (∀ b, v.ownBlock = some b → B ≤ b) → v.ownBlock = none ∨ v.ownBlock ≠ row := fun v B hB hv => by
    cases hb : v.ownBlock with
    | none => exact .inl rfl
    | some b =>
      refine .inr (fun e => ?_)
      have := hr b e.symm
      have := hv b hb
      omega
  exact ⟨b2, ⟨h1.1, Nat.le_trans h1.2 hg.size⟩, World.ownsRow.kept h2 hg (far _ base (Nat.le_refl _) (fun b hb => (World.ownsRow.lt h2 b hb).1)), h3, fun t ht => World.ownsRow.kept (h4 t ht) hg (far _ b2 h1.1 (fun b hb => (World.ownsRow.lt (h4 t ht) b hb).1)), h5⟩
theorem CopyOf.cells {w : World} {base g cap : Nat} {c : List TxnV} (h : CopyOf w base (.slice (some ⟨g, 0, none⟩) c.length cap) c) {i : Nat} (hi : i < c.length) :
    (w.cell? ⟨g, i * 4, none⟩ = some (.int .i64 c[i].s) ∧ w.frozen? ⟨g, i * 4, none⟩ = false) ∧ (w.cell? ⟨g, i * 4 + 2, none⟩ = some (.int .i64 c[i].c) ∧ w.frozen? ⟨g, i * 4 + 2, none⟩ = false) ∧ (w.cell? ⟨g, i * 4 + 3, none⟩ = some c[i].v ∧ w.frozen? ⟨g, i * 4 + 3, none⟩ = false) := by
  obtain ⟨b2, h1, h2, h3, h4, h5⟩ := h
  obtain ⟨q0, _, q2, q3⟩ := txV_at c i hi
  exact ⟨⟨(h2.at (by omega)).1.trans q0, (h2.at (by omega)).2⟩, ⟨(h2.at (by omega)).1.trans q2, (h2.at (by omega)).2⟩, ⟨(h2.at (by omega)).1.trans q3, (h2.at (by omega)).2⟩⟩
theorem CopyOf.own {w : World} {base g cap : Nat} {c : List TxnV} (h : CopyOf w base (.slice (some ⟨g, 0, none⟩) c.length cap) c) {i : Nat} (hi : i < c.length) : ∃ b2, (g < b2 ∧ b2 ≤ w.heap.size) ∧ Own w b2 c[i].v c[i].l := by
  obtain ⟨b2, h1, h2, h3, h4, h5⟩ := h
  exact ⟨b2, ⟨h3 g rfl, h1.2⟩, h4 _ (List.getElem_mem hi)⟩
theorem CopyOf.split {w : World} {base : Nat} {v : Value} {c : List TxnV} (h : CopyOf w base v c) (hn : 0 < c.length) : ∃ g cap, v = .slice (some ⟨g, 0, none⟩) c.length cap := by
  obtain ⟨b2, h1, h2, _⟩ := h
  rcases h2.split with ⟨_, rfl⟩ | ⟨g, cap, e, _⟩
  · simp at hn
  · exact ⟨g, cap, e⟩
theorem CopyOf.txns {w : World} {base : Nat} {v : Value} {c : List TxnV} (h : CopyOf w base v c) : Txns w v c := by
  obtain ⟨b2, h1, h2, h3, h4, h5⟩ := h
  exact ⟨h2.row, fun t ht => (h4 t ht).ops⟩
end Go.Proofs.Ytfekcmhjdjifgaa

namespace Go.Proofs.Ytfekcmhjdjifgaa
set_option maxRecDepth 100000
open Go.RowKit

/-- A transaction, its operations nowhere. -/
def zT (t : TxnV) : TxnV := ⟨t.s, t.b, t.c, .slice none 0 0, t.l⟩
theorem zT_of {c h : List TxnV} (e : c.map txE = h.map txE) : c.map zT = h.map zT := by
  have k : ∀ l : List TxnV, l.map zT = (l.map txE).map fun q => (⟨q.1, q.2.1, q.2.2.1, .slice none 0 0, q.2.2.2⟩ : TxnV) := fun l => by rw [List.map_map]; rfl
  rw [k, k, e]
theorem opsN_z (h : List TxnV) : opsN (h.map zT) = opsN h := by unfold opsN; rw [List.map_map]; rfl
theorem partsB_z (h : List TxnV) : partsB (h.map zT) = partsB h := by unfold partsB; rw [List.all_map]; rfl
theorem wvH_z (h : List TxnV) : wvH (h.map zT) = wvH h := by unfold wvH; rw [List.flatMap_map]; rfl
theorem opsAt_z (h : List TxnV) (k : Nat) : opsAt (h.map zT) k = opsAt h k := by unfold opsAt; rw [List.getElem?_map]; cases h[k]? <;> rfl
theorem wrTo_z (h : List TxnV) (k : Nat) : wrTo (h.map zT) k = wrTo h k := by
  unfold wrTo
  congr 1
  funext F j
  rw [opsAt_z]
theorem valuesB_z (h : List TxnV) : valuesB (h.map zT) = valuesB h := by
  unfold valuesB okW
  rw [wvH_z, List.all_map, List.length_map, wrTo_z]; rfl
theorem stampsB_z (h : List TxnV) : stampsB (h.map zT) = stampsB h := by
  have : stL (h.map zT) = stL h := by unfold stL; rw [List.flatMap_map]; rfl
  unfold stampsB; rw [this]
theorem endF_z (h : List TxnV) : endF (h.map zT) = endF h := by
  funext x
  unfold endF
  rw [List.filter_map, List.getLast?_map, Option.map_map]; rfl
theorem sesOk_z (h : List TxnV) (k : Nat) : sesOk (h.map zT) k = sesOk h k := by
  unfold sesOk
  rw [List.getElem?_map, ← List.map_take, endF_z]
  cases h[k]? <;> rfl
theorem sesB_z (h : List TxnV) : sesB (h.map zT) = sesB h := by
  unfold sesB
  rw [List.length_map]
  congr 1
  funext k
  exact sesOk_z h k
theorem checkI_z (h : List TxnV) : checkI (h.map zT) = checkI h := by
  unfold checkI rightB
  rw [List.length_map, opsN_z, partsB_z, valuesB_z, stampsB_z, sesB_z]
theorem checkI_txE {c h : List TxnV} (e : c.map txE = h.map txE) : checkI c = checkI h := by
  rw [← checkI_z c, ← checkI_z h, zT_of e]
end Go.Proofs.Ytfekcmhjdjifgaa

namespace Go.Proofs.Ytfekcmhjdjifgaa
set_option maxRecDepth 100000

/-- The numbers of a set below k, rising. -/
def lstTo (s k : Nat) : List Nat := (List.range k).filter fun i => s.testBit i
def lst (s : Nat) : List Nat := lstTo s 64
/-- The least number of a set, 64 where it is empty. -/
def fst (s : Nat) : Nat := (lst s).headD 64

theorem lstTo_len (s k : Nat) : (lstTo s k).length ≤ k := by
  unfold lstTo
  have := List.length_filter_le (fun i => s.testBit i) (List.range k)
  simpa using this
theorem mem_lst {s i : Nat} : i ∈ lst s ↔ i < 64 ∧ s.testBit i = true := by simp [lst, lstTo]
theorem mem_lst' {s i : Nat} (hs : IsSet s) : i ∈ lst s ↔ s.testBit i = true := by
  rw [mem_lst]
  constructor
  · exact fun h => h.2
  · intro h
    refine ⟨?_, h⟩
    by_cases h2 : i < 64
    · exact h2
    · rw [hs.high (by omega)] at h; cases h
theorem lst_nodup (s : Nat) : (lst s).Nodup := List.Pairwise.filter _ List.nodup_range
theorem lst_nil {s : Nat} (hs : IsSet s) (h : lst s = []) : s = 0 := by
  apply set_ext hs (by unfold IsSet; omega)
  intro i hi
  cases hb : s.testBit i
  · simp
  · have : i ∈ lst s := mem_lst.2 ⟨hi, hb⟩
    rw [h] at this; cases this
theorem lst_woS (s : Nat) (n : Nat) (hn : n < 64) : lst (woS s (n : Int)) = (lst s).filter (fun i => i != n) := by
  unfold lst lstTo
  rw [List.filter_filter]
  apply List.filter_congr
  intro i _
  rw [testBit_woS]
  have : (0 ≤ (n : Int) ∧ (n : Int) < 64) := by omega
  simp only [this, and_self, decide_true, Bool.true_and, Int.toNat_natCast, bne]
  rw [Bool.and_comm]
  congr 2
  rw [Bool.eq_iff_iff]; simp; exact ⟨fun h => h.symm, fun h => h.symm⟩
theorem lst_cons {s : Nat} (h : lst s ≠ []) : lst s = fst s :: lst (woS s (fst s : Int)) := by
  unfold fst
  match e : lst s with
  | [] => exact absurd e h
  | a :: t =>
    have ha : a < 64 := (mem_lst.1 (e ▸ List.mem_cons_self : a ∈ lst s)).1
    simp only [List.headD_cons]
    rw [lst_woS s a ha, e]
    have hn := e ▸ lst_nodup s
    rw [List.nodup_cons] at hn
    rw [List.filter_cons]
    simp
    symm
    rw [List.filter_eq_self]
    intro b hb
    simp
    rintro rfl
    exact hn.1 hb
theorem fst_mem {s : Nat} (h : lst s ≠ []) : fst s ∈ lst s := by
  rw [lst_cons h]; exact List.mem_cons_self
/-! ### The lowest bit, as the library finds it -/
/-! ### How many bits, as the library counts them -/
def f1 (b : Nat) : Nat := (b / 2 &&& 0x55) + (b &&& 0x55)
def f2 (b : Nat) : Nat := (b / 4 &&& 0x33) + (b &&& 0x33)
def f3 (b : Nat) : Nat := (b / 16 + b) &&& 0x0f
def mk (c : Nat) : Nat → Nat
  | 0 => 0
  | k + 1 => 256 * mk c k + c
/-! ### The library's steps, as the walk writes them -/
end Go.Proofs.Ytfekcmhjdjifgaa

namespace Go.Proofs.Ytfekcmhjdjifgaa
set_option maxRecDepth 100000
open Go.RowKit

theorem infoInt : (Try.prog.info? 3).map (fun i => (i.zero, i.size, i.bytes)) = some (some (.int .i64 0), 1, 8) := by kernel_rfl
theorem below_app {B : Nat} {W wr w1 : World} {o : Obj} {e : TypeId} {n size : Nat} {v : Value} {xs : List Value} (hb : Below B W wr) (hB : B ≤ W.heap.size) (hown : wr.ownsRow B e size v n xs)
    (hg : (wr.alloc o).grownBy w1 v.ownBlock) : Below B W w1 :=
  (hb.alloc (Nat.le_trans hB hb.size) o).grown hg (by have := hb.size; simp; omega) fun k hk => (hown.lt k hk).1

end Go.Proofs.Ytfekcmhjdjifgaa

namespace Go.Proofs.Ytfekcmhjdjifgaa
set_option maxRecDepth 100000
open Go.RowKit

/-- The keys of some operations. -/
def keyV (l : List OpV) : List Value := l.map fun o => .int .i64 o.key
theorem keyV_take (l : List OpV) (k : Nat) (hk : k < l.length) : keyV (l.take (k + 1)) = keyV (l.take k) ++ [.int .i64 l[k].key] := by
  unfold keyV; rw [List.take_succ_eq_append_getElem hk, List.map_append]; rfl
theorem okeys_own {w : World} {base base' : Nat} {v : Value} {e : TypeId} {l : List OpV} (h : w.ownsRow base e 1 v (keyV l).length (keyV l)) (hb : base' ≤ base) : w.ownsRow base' e 1 v l.length (keyV l) := by
  have hkk : (keyV l).length = l.length := by simp [keyV]
  rw [hkk] at h
  obtain ⟨h1, h2⟩ := h
  refine ⟨h1, ?_⟩
  rcases h2 with h2 | ⟨g, cap, cur, e1, e2, r⟩
  · exact .inl h2
  · exact .inr ⟨g, cap, cur, e1, Nat.le_trans hb e2, r⟩
set_option maxHeartbeats 4000000 in
theorem okeys_any (s b c : Int) (va : Value) (l : List OpV) (w : World) (ha : Ops w va l) (hok : ∀ o ∈ l, o.ok) (hlen : l.length ≤ 100000) :
    Calls Try.prog 29 #[.agg #[.int .i64 s, .int .i64 b, .int .i64 c, va]] w fun e w' => ∃ v out, e = .returned v ∧ w'.ownsRow w.heap.size 3 1 v out.length (keyV out) ∧ Rise (lastW l) true out ∧ out.length ≤ l.length ∧ Below w.heap.size w w' := by
  obtain ⟨i0, hi, hz0, hz1, hz2⟩ := info_parts infoInt
  obtain ⟨ao, cap, rfl, hal⟩ := ha.form
  have hb0 := box_below w (.cells #[.int .i64 s, .int .i64 b, .int .i64 c, .slice ao l.length cap] 46)
  have CW := Lib.hid (writes_any s b c _ l _ (ha.below hb0) hok hlen)
  clear ha hok
  go_enter Try.func29, Try.ntmps29
  go_wp2_with fail
  refine (CW.out).mono ?_
  rintro e w1 ⟨v1, out, rfl, hO, hR, hol, hb1⟩
  have hb2 := below_then hb0 hb1
  have HR := Lib.hid (And.intro hR hol)
  have hlim : out.length ≤ 100000 := by omega
  clear CW hb0 hb1 hR hol
  obtain ⟨B, hB⟩ : ∃ B, B = w1.heap.size := ⟨_, rfl⟩
  have hBw : w.heap.size ≤ B := by have := hb2.size; omega
  have hBl : B ≤ w1.heap.size := by omega
  have HB := Lib.hid hB
  clear hB
  have hT := hO.ops
  clear hO
  obtain ⟨a1, cap1, rfl, _⟩ := hT.form
  go_wp2_with fail
  go_loopw [3, 9] (fun v i wr => ∃ k : Nat, k ≤ out.length ∧ i = .int .i64 k ∧ wr.ownsRow B 3 1 v (keyV (out.take k)).length (keyV (out.take k)) ∧ Below B w1 wr)
    (fun _ i _ => out.length - (intOf i).toNat)
  case atStart => exact ⟨0, by omega, rfl, World.ownsRow_nil _ _ _ _, HB.out ▸ Below.refl _ _⟩
  case round =>
    obtain ⟨k, hk, rfl, hown, hb⟩ := hrel
    have hsz := hb.size
    by_cases hlt : k < out.length
    · have hki : (k : Int) < (out.length : Int) := by omega
      obtain ⟨g, o, hao, c0, c1, c2⟩ := (hT.below (HB.out ▸ hb)).at hlt
      cases hao
      have HM := Lib.hid (keyV_take out k hlt)
      have hkl : (keyV (out.take k)).length ≤ 100000 := by simp [keyV]; omega
      generalize out[k].wr = x at *
      generalize out[k].key = y at *
      generalize out[k].val = z at *
      have hbx := hb.alloc (by omega) (.cells #[.bool x, .int .i64 y, .int .i64 z] 56)
      have hownx := hown.alloc (.cells #[.bool x, .int .i64 y, .int .i64 z] 56)
      go_wp2_with (at_builtin; refine wpList_append_own _ rfl _ _ 53 rfl B 3 i0 (.int .i64 0) 1 8 Try.underlying53 hi hz0 hz1 hz2 rfl (by decide) _ _ _ rfl (hownx.alloc _) ⟨_, 0, none⟩ 1 1 [.int .i64 y] rfl rfl ?c1 ?c2 ?c3 ?c4 ?c5 ?_)
      case c1 =>
        have e : wr.heap.size + 1 = (wr.alloc (.cells #[.bool x, .int .i64 y, .int .i64 z] 56)).heap.size := by simp
        rw [e]
        exact cell_one_new _ _ _
      case c2 => intro u hu; simp at hu; subst hu; rfl
      case c3 => unfold maxLen; omega
      case c4 => omega
      case c5 => simp; omega
      · intro v' w2 hown' hgrow _
        have hb' := below_app hbx (by omega) hownx hgrow
        clear hown hownx hbx hb hgrow
        go_wp2_with fail
        go_roundw
        case rel =>
          refine ⟨k + 1, by omega, by go_num, ?_, hb'⟩
          rw [HM.out, List.length_append]
          exact hown'
        case measure => simp [intOf]; omega
    · have hkl : k = out.length := by omega
      subst hkl
      rw [List.take_length] at hown
      go_wp2_with fail
      go_ret
      exact ⟨_, out, rfl, okeys_own hown hBw, HR.out.1, HR.out.2, hb2.trans (hb.mono hBw)⟩
end Go.Proofs.Ytfekcmhjdjifgaa

namespace Go.Proofs.Ytfekcmhjdjifgaa
set_option maxRecDepth 100000
open Go.RowKit

/-- Of whom a value is read; the keys and whom one reads of, but for oneself. -/
def fromO (F : Int → Option WV) (x : Int) : Int := ((F x).map (·.i)).getD (-1)
def rdFr (F : Int → Option WV) (i : Int) (l : List OpV) : List (Int × Int) := (l.filter fun o => fromO F o.val != i).map fun o => (o.key, fromO F o.val)
def frV (l : List (Int × Int)) : List Value := l.flatMap fun p => [.int .i64 p.1, .int .i64 p.2]
theorem frV_app (l m : List (Int × Int)) : frV (l ++ m) = frV l ++ frV m := by simp [frV]
theorem rdFr_snoc (F : Int → Option WV) (i : Int) (l : List OpV) (k : Nat) (hk : k < l.length) : rdFr F i (l.take (k + 1)) = rdFr F i (l.take k) ++ (if fromO F l[k].val = i then [] else [(l[k].key, fromO F l[k].val)]) := by
  unfold rdFr
  rw [List.take_succ_eq_append_getElem hk, List.filter_append, List.map_append]
  by_cases h : fromO F l[k].val = i <;> simp [h]
theorem rdFr_len (F : Int → Option WV) (i : Int) (l : List OpV) : (rdFr F i l).length ≤ l.length := by
  unfold rdFr; rw [List.length_map]; exact List.length_filter_le _ _
theorem infoRd : (Try.prog.info? 51).map (fun i => (i.zero, i.size, i.bytes)) = some (some (.agg #[.int .i64 0, .int .i64 0]), 2, 16) := by kernel_rfl
theorem lit_two (w : World) (x y : Value) (t : TypeId) : ∀ j u, [x, y][j]? = some u → (w.alloc (.cells #[x, y] t)).cell? ((⟨w.heap.size, 0, none⟩ : Addr).add j) = some u := by
  have h := At.new w (.cells #[x, y] t)
  unfold At at h
  generalize w.alloc (.cells #[x, y] t) = w1 at *
  generalize w.heap.size = p at *
  intro j u hu
  rcases j with _ | _ | j
  · simp at hu; subst hu; simp [World.cell?, Addr.add, h]
  · simp at hu; subst hu; simp [World.cell?, Addr.add, h]
  · simp at hu
theorem own_base' {w : World} {base base' : Nat} {v : Value} {e : TypeId} {size n : Nat} {xs : List Value} (h : w.ownsRow base e size v n xs) (hb : base' ≤ base) : w.ownsRow base' e size v n xs := by
  obtain ⟨h1, h2⟩ := h
  refine ⟨h1, ?_⟩
  rcases h2 with h2 | ⟨g, cap, cur, e1, e2, r⟩
  · exact .inl h2
  · exact .inr ⟨g, cap, cur, e1, Nat.le_trans hb e2, r⟩
set_option maxHeartbeats 4000000 in
theorem oreads_any (i s b c : Int) (va : Value) (l : List OpV) (F : Int → Option WV) (bm n cc : Nat) (w : World) (ha : Ops w va l) (hok : ∀ o ∈ l, o.ok) (hlen : l.length ≤ 100000) (hM : MapI eW Try.prog 3 w bm n F cc) :
    Calls Try.prog 30 #[.int .i64 i, .agg #[.int .i64 s, .int .i64 b, .int .i64 c, va], .map (some bm)] w fun e w' => ∃ v out, e = .returned v ∧ w'.ownsRow w.heap.size 51 2 v (rdFr F i out).length (frV (rdFr F i out)) ∧ Rise (firstO l) false out ∧ out.length ≤ l.length ∧ Below w.heap.size w w' := by
  obtain ⟨i0, hi, hz0, hz1, hz2⟩ := info_parts infoRd
  obtain ⟨ao, cap, rfl, hal⟩ := ha.form
  have hb0 := box_below w (.cells #[.int .i64 s, .int .i64 b, .int .i64 c, .slice ao l.length cap] 46)
  have CW := Lib.hid (reads_any s b c _ l _ (ha.below hb0) hok hlen)
  have HOK := Lib.hid hok
  have HMM := Lib.hid (fun wx (hx : Below w.heap.size w wx) => hM.below hx)
  clear ha hok hM
  go_enter Try.func30, Try.ntmps30
  go_wp2_with fail
  refine (CW.out).mono ?_
  rintro e w1 ⟨v1, out, rfl, hO, hR, hol, hb1⟩
  have hb2 := below_then hb0 hb1
  have HR := Lib.hid (And.intro hR hol)
  have HV := Lib.hid (fun o (ho : o ∈ out) => HOK.out o (firstO_key (((hR.2 o).1 ho).1)).2)
  have HM := Lib.hid ((HMM.out _ hb2))
  have hlim : out.length ≤ 100000 := by omega
  clear CW hb0 hb1 hR hol HOK HMM
  obtain ⟨B, hB⟩ : ∃ B, B = w1.heap.size := ⟨_, rfl⟩
  have hBw : w.heap.size ≤ B := by have := hb2.size; omega
  have hBl : B ≤ w1.heap.size := by omega
  have HB := Lib.hid hB
  clear hB
  have hT := hO.ops
  clear hO
  obtain ⟨a1, cap1, rfl, _⟩ := hT.form
  go_wp2_with fail
  go_loopw [7, 15] (fun v j wr => ∃ k : Nat, k ≤ out.length ∧ j = .int .i64 k ∧ wr.ownsRow B 51 2 v (rdFr F i (out.take k)).length (frV (rdFr F i (out.take k))) ∧ Below B w1 wr)
    (fun _ j _ => out.length - (intOf j).toNat)
  case atStart => exact ⟨0, by omega, rfl, World.ownsRow_nil _ _ _ _, HB.out ▸ Below.refl _ _⟩
  case round =>
    obtain ⟨k, hk, rfl, hown, hb⟩ := hrel
    have hsz := hb.size
    by_cases hlt : k < out.length
    · have hki : (k : Int) < (out.length : Int) := by omega
      obtain ⟨g, o, hao, c0, c1, c2⟩ := (hT.below (HB.out ▸ hb)).at hlt
      cases hao
      have HS := Lib.hid (rdFr_snoc F i out k hlt)
      have hkl : (rdFr F i (out.take k)).length ≤ 100000 := Nat.le_trans (rdFr_len _ _ _) (by rw [List.length_take]; omega)
      have hkv := inI_of (HV.out out[k] (List.getElem_mem hlt)).2
      have hM2 := (HM.out.below (HB.out ▸ hb)).alloc (.cells #[.bool out[k].wr, .int .i64 out[k].key, .int .i64 out[k].val] 56)
      generalize out[k].wr = x at *
      generalize out[k].key = y at *
      generalize out[k].val = z at *
      have hbx := hb.alloc (by omega) (.cells #[.bool x, .int .i64 y, .int .i64 z] 56)
      have hownx := hown.alloc (.cells #[.bool x, .int .i64 y, .int .i64 z] 56)
      cases hv : F z with
      | none =>
        have hf : fromO F z = -1 := by unfold fromO; rw [hv]; rfl
        rw [hf] at HS
        have hby := hbx.alloc (by have := hbx.size; omega) (.cells #[.int .i64 (-1), .int .i64 0, .bool false] 79)
        have howny := hownx.alloc (.cells #[.int .i64 (-1), .int .i64 0, .bool false] 79)
        by_cases hfi : (-1) = i
        · rw [if_pos hfi, List.append_nil] at HS
          subst hfi
          go_wp2_with (at_lookup; refine wpList_lookI_ok _ rfl _ _ 62 rfl 3 79 keyI mapIW wZ (zeroW _) _ _ _ _ rfl hM2 _ rfl hkv ?_; rw [hv]; simp only [Option.getD_none, Option.isSome_none, eW, wZ])
          go_roundw
          case rel => exact ⟨k + 1, by omega, by go_num, by rw [HS.out]; exact howny, hby⟩
          case measure => simp [intOf]; omega
        · rw [if_neg hfi] at HS
          go_wp2_with (first | (at_lookup; refine wpList_lookI_ok _ rfl _ _ 62 rfl 3 79 keyI mapIW wZ (zeroW _) _ _ _ _ rfl hM2 _ rfl hkv ?_; rw [hv]; simp only [Option.getD_none, Option.isSome_none, eW, wZ]) | (at_builtin; refine wpList_append_own _ rfl _ _ 49 rfl B 51 i0 (.agg #[.int .i64 0, .int .i64 0]) 2 16 Try.underlying49 hi hz0 hz1 hz2 rfl (by decide) _ _ _ rfl (howny.alloc _) ⟨_, 0, none⟩ 1 1 [.int .i64 y, .int .i64 (-1)] rfl rfl ?c1 ?c2 ?c3 ?c4 ?c5 ?_))
          case c1 =>
            have e : wr.heap.size + 1 + 1 = ((wr.alloc (.cells #[.bool x, .int .i64 y, .int .i64 z] 56)).alloc (.cells #[.int .i64 (-1), .int .i64 0, .bool false] 79)).heap.size := by simp
            rw [e]
            exact lit_two _ _ _ _
          case c2 => intro u hu; simp at hu; rcases hu with rfl | rfl <;> rfl
          case c3 => unfold maxLen; omega
          case c4 => omega
          case c5 => simp; omega
          · intro v' w2 hown' hgrow _
            have hb' := below_app hby (by omega) howny hgrow
            clear hown hownx howny hbx hby hb hgrow
            go_wp2_with fail
            go_roundw
            case rel =>
              refine ⟨k + 1, by omega, by go_num, ?_, hb'⟩
              rw [HS.out, frV_app, List.length_append]
              exact hown'
            case measure => simp [intOf]; omega
      | some u =>
        have hf : fromO F z = u.i := by unfold fromO; rw [hv]; rfl
        rw [hf] at HS
        obtain ⟨ui, uk, ul⟩ := u
        simp only at HS
        have hby := hbx.alloc (by have := hbx.size; omega) (.cells #[.int .i64 ui, .int .i64 uk, .bool ul] 79)
        have howny := hownx.alloc (.cells #[.int .i64 ui, .int .i64 uk, .bool ul] 79)
        by_cases hfi : ui = i
        · rw [if_pos hfi, List.append_nil] at HS
          subst hfi
          go_wp2_with (at_lookup; refine wpList_lookI_ok _ rfl _ _ 62 rfl 3 79 keyI mapIW wZ (zeroW _) _ _ _ _ rfl hM2 _ rfl hkv ?_; rw [hv]; simp only [Option.getD_some, Option.isSome_some, eW])
          go_roundw
          case rel => exact ⟨k + 1, by omega, by go_num, by rw [HS.out]; exact howny, hby⟩
          case measure => simp [intOf]; omega
        · rw [if_neg hfi] at HS
          go_wp2_with (first | (at_lookup; refine wpList_lookI_ok _ rfl _ _ 62 rfl 3 79 keyI mapIW wZ (zeroW _) _ _ _ _ rfl hM2 _ rfl hkv ?_; rw [hv]; simp only [Option.getD_some, Option.isSome_some, eW]) | (at_builtin; refine wpList_append_own _ rfl _ _ 49 rfl B 51 i0 (.agg #[.int .i64 0, .int .i64 0]) 2 16 Try.underlying49 hi hz0 hz1 hz2 rfl (by decide) _ _ _ rfl (howny.alloc _) ⟨_, 0, none⟩ 1 1 [.int .i64 y, .int .i64 ui] rfl rfl ?c1 ?c2 ?c3 ?c4 ?c5 ?_))
          case c2 => exact ⟨rfl, rfl⟩
          case c3 => unfold maxLen; omega
          case c4 => omega
          case c5 => omega
          · intro v' w2 hown' hgrow _
            have hb' := below_app hby (by omega) howny hgrow
            clear hown hownx howny hbx hby hb hgrow
            go_wp2_with fail
            go_roundw
            case rel =>
              refine ⟨k + 1, by omega, by go_num, ?_, hb'⟩
              rw [HS.out, frV_app, List.length_append]
              exact hown'
            case measure => simp [intOf]; omega
    · have hkl : k = out.length := by omega
      subst hkl
      rw [List.take_length] at hown
      go_wp2_with fail
      go_ret
      exact ⟨_, out, rfl, own_base' hown hBw, HR.out.1, HR.out.2, hb2.trans (hb.mono hBw)⟩
end Go.Proofs.Ytfekcmhjdjifgaa

namespace Go.Proofs.Ytfekcmhjdjifgaa
set_option maxRecDepth 100000
open Go.RowKit

/-- A read of what its writer overwrites, or of what oneself writes. -/
def badFr (F : Int → Option WV) (i : Int) (o : OpV) : Bool := match F o.val with | none => false | some u => decide (u.i = i) || !u.last
theorem anyf_take {f : OpV → Bool} {l : List OpV} {k : Nat} (hk : k < l.length) (h : (l.take k).any f = false) : (l.take (k + 1)).any f = f l[k] := by
  rw [List.take_succ_eq_append_getElem hk, List.any_append, h]; simp
theorem anyf_hit {f : OpV → Bool} {l : List OpV} {k : Nat} (hk : k < l.length) (h : f l[k] = true) : l.any f = true := List.any_eq_true.2 ⟨_, List.getElem_mem hk, h⟩
set_option maxHeartbeats 4000000 in
theorem osound_any (i s b c : Int) (va : Value) (l : List OpV) (F : Int → Option WV) (bm n cc : Nat) (w : World) (ha : Ops w va l) (hok : ∀ o ∈ l, o.ok) (hlen : l.length ≤ 100000) (hM : MapI eW Try.prog 3 w bm n F cc) :
    Calls Try.prog 31 #[.int .i64 i, .agg #[.int .i64 s, .int .i64 b, .int .i64 c, va], .map (some bm)] w fun e w' => ∃ out, e = .returned (.bool (!out.any (badFr F i) && steadyL l)) ∧ Rise (firstO l) false out ∧ out.length ≤ l.length ∧ Below w.heap.size w w' := by
  obtain ⟨ao, cap, rfl, hal⟩ := ha.form
  have hb0 := box_below w (.cells #[.int .i64 s, .int .i64 b, .int .i64 c, .slice ao l.length cap] 46)
  have CW := Lib.hid (reads_any s b c _ l _ (ha.below hb0) hok hlen)
  have HOK := Lib.hid hok
  have HA := Lib.hid (fun wx (hx : Below w.heap.size w wx) => ha.below hx)
  have HMM := Lib.hid (fun wx (hx : Below w.heap.size w wx) => hM.below hx)
  have hx0 := txnBlock w (.int .i64 s) (.int .i64 b) (.int .i64 c) (.slice ao l.length cap) 46
  have hA0 := At.new w (.cells #[.int .i64 s, .int .i64 b, .int .i64 c, .slice ao l.length cap] 46)
  clear ha hok hM hx0
  go_enter Try.func31, Try.ntmps31
  go_wp2_with fail
  refine (CW.out).mono ?_
  rintro e w1 ⟨v1, out, rfl, hO, hR, hol, hb1⟩
  have hb2 := below_then hb0 hb1
  have hA1 := hA0.below hb1
  have HR := Lib.hid (And.intro hR hol)
  have HV := Lib.hid (fun o (ho : o ∈ out) => HOK.out o (firstO_key (((hR.2 o).1 ho).1)).2)
  have HM := Lib.hid ((HMM.out _ hb2))
  have hlim : out.length ≤ 100000 := by omega
  clear CW hb0 hb1 hR hol HMM hA0
  have hT := hO.ops
  clear hO
  obtain ⟨a1, cap1, rfl, _⟩ := hT.form
  go_wp2_with fail
  go_loopw [14] (fun j wr => ∃ k : Nat, k ≤ out.length ∧ j = .int .i64 k ∧ (out.take k).any (badFr F i) = false ∧ Below w1.heap.size w1 wr)
    (fun j _ => out.length - (intOf j).toNat)
  case atStart => exact ⟨0, by omega, rfl, rfl, Below.refl _ _⟩
  case round =>
    obtain ⟨k, hk, rfl, hno, hb⟩ := hrel
    have HNO := Lib.hid hno
    clear hno
    have hsz := hb.size
    by_cases hlt : k < out.length
    · have hki : (k : Int) < (out.length : Int) := by omega
      obtain ⟨g, o, hao, c0, c1, c2⟩ := (hT.below hb).at hlt
      cases hao
      have HS := Lib.hid (anyf_take hlt HNO.out)
      have HH := Lib.hid (fun h => anyf_hit (f := badFr F i) hlt h)
      have HBD : Hid (badFr F i out[k] = match F out[k].val with | none => false | some u => decide (u.i = i) || !u.last) := Lib.hid rfl
      have hkv := inI_of (HV.out out[k] (List.getElem_mem hlt)).2
      have hM2 := (HM.out.below hb).alloc (.cells #[.bool out[k].wr, .int .i64 out[k].key, .int .i64 out[k].val] 56)
      generalize badFr F i out[k] = bd at *
      generalize out[k].wr = x at *
      generalize out[k].key = y at *
      generalize out[k].val = z at *
      have hbx := hb.alloc hb.size (.cells #[.bool x, .int .i64 y, .int .i64 z] 56)
      cases hv : F z with
      | none =>
        have HF : Hid (bd = false) := Lib.hid (by rw [HBD.out, hv])
        have hby := hbx.alloc hbx.size (.cells #[.int .i64 0, .int .i64 0, .bool false] 79)
        clear HBD
        go_wp2_with (at_lookup; refine wpList_lookI_ok _ rfl _ _ 62 rfl 3 79 keyI mapIW wZ (zeroW _) _ _ _ _ rfl hM2 _ rfl hkv ?_; rw [hv]; simp only [Option.getD_none, Option.isSome_none, eW, wZ])
        go_roundw
        case rel => exact ⟨k + 1, by omega, by go_num, by rw [HS.out, HF.out], hby⟩
        case measure => simp [intOf]; omega
      | some u =>
        obtain ⟨ui, uk, ul⟩ := u
        have HF : Hid (bd = (decide (ui = i) || !ul)) := Lib.hid (by rw [HBD.out, hv])
        have hby := hbx.alloc hbx.size (.cells #[.int .i64 ui, .int .i64 uk, .bool ul] 79)
        clear HBD
        by_cases hfi : ui = i
        · have HB2 : Hid (bd = true) := Lib.hid (by rw [HF.out, decide_eq_true hfi]; rfl)
          subst hfi
          go_wp2_with (at_lookup; refine wpList_lookI_ok _ rfl _ _ 62 rfl 3 79 keyI mapIW wZ (zeroW _) _ _ _ _ rfl hM2 _ rfl hkv ?_; rw [hv]; simp only [Option.getD_some, Option.isSome_some, eW])
          go_ret
          exact ⟨out, by rw [HH.out HB2.out]; rfl, HR.out.1, HR.out.2, hb2.trans (hby.mono hb2.size)⟩
        · cases ul with
          | false =>
            have HB2 : Hid (bd = true) := Lib.hid (by rw [HF.out]; simp)
            go_wp2_with (at_lookup; refine wpList_lookI_ok _ rfl _ _ 62 rfl 3 79 keyI mapIW wZ (zeroW _) _ _ _ _ rfl hM2 _ rfl hkv ?_; rw [hv]; simp only [Option.getD_some, Option.isSome_some, eW])
            go_ret
            exact ⟨out, by rw [HH.out HB2.out]; rfl, HR.out.1, HR.out.2, hb2.trans (hby.mono hb2.size)⟩
          | true =>
            have HB2 : Hid (bd = false) := Lib.hid (by rw [HF.out, decide_eq_false hfi]; rfl)
            go_wp2_with (at_lookup; refine wpList_lookI_ok _ rfl _ _ 62 rfl 3 79 keyI mapIW wZ (zeroW _) _ _ _ _ rfl hM2 _ rfl hkv ?_; rw [hv]; simp only [Option.getD_some, Option.isSome_some, eW])
            go_roundw
            case rel => exact ⟨k + 1, by omega, by go_num, by rw [HS.out, HB2.out], hby⟩
            case measure => simp [intOf]; omega
    · have hkl : k = out.length := by omega
      subst hkl
      have HNA : Hid (out.any (badFr F i) = false) := Lib.hid (by have h := HNO.out; rwa [List.take_length] at h)
      obtain ⟨q0, q1, q2, q3⟩ := (hA1.below hb).cells4
      have hb3 := hb2.trans (hb.mono hb2.size)
      have CS := Lib.hid (steady_any s b c _ l wr (HA.out _ hb3) HOK.out hlen)
      go_wp2_with fail
      refine (CS.out).mono ?_
      rintro e w6 ⟨rfl, hb6⟩
      have hb7 := hb3.trans (hb6.mono hb3.size)
      go_wp2_with fail
      go_ret
      exact ⟨out, by rw [HNA.out]; rfl, HR.out.1, HR.out.2, hb7⟩
end Go.Proofs.Ytfekcmhjdjifgaa

namespace Go.Proofs.Ytfekcmhjdjifgaa
set_option maxRecDepth 100000
open Go.RowKit

/-- A slice of what is read of others. -/
def Frs (w : World) (v : Value) (l : List (Int × Int)) : Prop := Row w v l.length 2 (frV l)
theorem Frs.below {w w' : World} {v : Value} {l : List (Int × Int)} (h : Frs w v l) (hb : Below w.heap.size w w') : Frs w' v l := Row.below h hb
theorem frV_at : ∀ (l : List (Int × Int)) (k : Nat) (hk : k < l.length), (frV l)[k * 2]? = some (.int .i64 l[k].1) ∧ (frV l)[k * 2 + 1]? = some (.int .i64 l[k].2)
  | [], k, hk => by simp at hk
  | p :: l, 0, _ => by simp [frV]
  | p :: l, k + 1, hk => by
    obtain ⟨h1, h2⟩ := frV_at l k (by simpa using hk)
    have e : (k + 1) * 2 = k * 2 + 1 + 1 := by omega
    have e2 : frV (p :: l) = .int .i64 p.1 :: .int .i64 p.2 :: frV l := rfl
    rw [e, e2]
    exact ⟨by simpa using h1, by simpa using h2⟩
theorem Frs.form {w : World} {v : Value} {l : List (Int × Int)} (h : Frs w v l) : ∃ ao cap, v = .slice ao l.length cap ∧ l.length ≤ 9223372036854775807 := by
  obtain ⟨_, ao, cap, rfl, hm, _, _⟩ := h
  exact ⟨ao, cap, rfl, Nat.le_trans hm.1 hm.2⟩
theorem Frs.at {w : World} {ao : Option Addr} {n cap : Nat} {l : List (Int × Int)} (h : Frs w (.slice ao n cap) l) {k : Nat} (hk : k < l.length) :
    ∃ b off, ao = some ⟨b, off, none⟩ ∧ w.cell? ⟨b, off + k * 2, none⟩ = some (.int .i64 l[k].1) ∧ w.cell? ⟨b, off + k * 2 + 1, none⟩ = some (.int .i64 l[k].2) := by
  obtain ⟨_, ao', cap', he, hm, _, hc⟩ := h
  obtain ⟨rfl, _, _⟩ : ao = ao' ∧ n = l.length ∧ cap = cap' := by simpa using he
  obtain ⟨b, off, rfl, hcell⟩ := hc (by omega)
  obtain ⟨h0, h1⟩ := frV_at l k hk
  exact ⟨b, off, rfl, by rw [hcell _ (by omega), h0], by rw [Nat.add_assoc, hcell _ (by omega), h1]⟩
set_option maxHeartbeats 4000000 in
theorem offrom1_any (y f a : Int) (q : Nat) (w : World) (hq : w.cell? ⟨q, 0, none⟩ = some (.int .i64 a)) :
    Calls Try.prog 38 #[.agg #[.int .i64 y, .int .i64 f], .pointer (some ⟨q, 0, none⟩)] w fun e w' => e = .returned (.bool (decide (f = a))) ∧ Below w.heap.size w w' := by
  have hq' := (box_below w (.cells #[.int .i64 y, .int .i64 f] 51)).cell (p := ⟨q, 0, none⟩) (block_lt hq)
  rw [hq] at hq'
  go_enter Try.func38, Try.ntmps38
  go_wp2_with fail
  go_ret
  exact ⟨rfl, (Below.refl _ _).alloc (Nat.le_refl _) _⟩
theorem frs_take {f : Int × Int → Bool} {l : List (Int × Int)} {k : Nat} (hk : k < l.length) (h : (l.take k).any f = false) : (l.take (k + 1)).any f = f l[k] := by
  rw [List.take_succ_eq_append_getElem hk, List.any_append, h]; simp
set_option maxHeartbeats 4000000 in
theorem ofindex_any (va : Value) (l : List (Int × Int)) (a : Int) (q : Nat) (w : World) (hT : Frs w va l) (hq : w.cell? ⟨q, 0, none⟩ = some (.int .i64 a)) :
    Calls Try.prog 62 #[va, .func (.func 38) #[] #[.pointer (some ⟨q, 0, none⟩)]] w fun e w' => ∃ r : Int, e = .returned (.int .i64 r) ∧ decide (0 ≤ r) = l.any (fun p => decide (p.2 = a)) ∧ Below w.heap.size w w' := by
  obtain ⟨ao, cap, rfl, hal⟩ := hT.form
  have HQ := Lib.hid (fun wx (hx : Below w.heap.size w wx) => (hx.cell (p := ⟨q, 0, none⟩) (block_lt hq)).trans hq)
  clear hq
  go_enter Try.func62, Try.ntmps62
  go_wp2_with fail
  go_loopw [8] (fun i wr => ∃ k : Nat, k ≤ l.length ∧ i = .int .i64 k ∧ (l.take k).any (fun p => decide (p.2 = a)) = false ∧ Below w.heap.size w wr) (fun i _ => l.length - (intOf i).toNat)
  case atStart => exact ⟨0, by omega, rfl, rfl, Below.refl _ _⟩
  case round =>
    obtain ⟨k, hk, rfl, hno, hb⟩ := hrel
    have HNO := Lib.hid hno
    clear hno
    by_cases hlt : k < l.length
    · have hki : (k : Int) < (l.length : Int) := by omega
      obtain ⟨g, o, hao, c0, c1⟩ := (hT.below hb).at hlt
      cases hao
      have HS := Lib.hid (frs_take hlt HNO.out)
      have HH : Hid (decide (l[k].2 = a) = true → l.any (fun p => decide (p.2 = a)) = true) := Lib.hid (fun h => List.any_eq_true.2 ⟨_, List.getElem_mem hlt, h⟩)
      have CF := Lib.hid (offrom1_any l[k].1 l[k].2 a q wr (HQ.out _ hb))
      generalize l[k] = z at *
      obtain ⟨y, f⟩ := z
      simp only at c0 c1 HS HH CF
      by_cases hf : f = a
      · have HD : Hid (l.any (fun p => decide (p.2 = a)) = true) := Lib.hid (HH.out (decide_eq_true hf))
        rw [decide_eq_true hf] at CF
        clear hf HH HS
        go_wp2_with (go_at_call 38; refine (CF.out).mono ?_; rintro e w6 ⟨rfl, hb6⟩)
        have hbb := hb.trans (hb6.mono hb.size)
        go_ret
        exact ⟨_, rfl, by rw [HD.out]; exact decide_eq_true (by omega), hbb⟩
      · have HD : Hid ((l.take (k + 1)).any (fun p => decide (p.2 = a)) = false) := Lib.hid (by rw [HS.out]; exact decide_eq_false hf)
        rw [decide_eq_false hf] at CF
        clear hf HH HS
        go_wp2_with (go_at_call 38; refine (CF.out).mono ?_; rintro e w6 ⟨rfl, hb6⟩)
        have hbb := hb.trans (hb6.mono hb.size)
        go_roundw
        case rel => exact ⟨k + 1, by omega, by go_num, HD.out, hbb⟩
        case measure => simp [intOf]; omega
    · have hkl : k = l.length := by omega
      subst hkl
      have HD : Hid (l.any (fun p => decide (p.2 = a)) = false) := Lib.hid (by have h := HNO.out; rwa [List.take_length] at h)
      go_wp2_with fail
      go_ret
      exact ⟨_, rfl, by rw [HD.out]; rfl, hb⟩
end Go.Proofs.Ytfekcmhjdjifgaa

namespace Go.Proofs.Ytfekcmhjdjifgaa
set_option maxRecDepth 100000
open Go.RowKit

set_option maxHeartbeats 4000000 in
theorem ofcontains_any (va : Value) (l : List (Int × Int)) (a : Int) (q : Nat) (w : World) (hT : Frs w va l) (hq : w.cell? ⟨q, 0, none⟩ = some (.int .i64 a)) :
    Calls Try.prog 37 #[va, .func (.func 38) #[] #[.pointer (some ⟨q, 0, none⟩)]] w fun e w' => e = .returned (.bool (l.any (fun p => decide (p.2 = a)))) ∧ Below w.heap.size w w' := by
  have CI := Lib.hid (ofindex_any va l a q w hT hq)
  obtain ⟨ao, cap, rfl, hal⟩ := hT.form
  clear hT hq
  generalize l.any (fun p => decide (p.2 = a)) = B at *
  go_enter Try.func37, Try.ntmps37
  go_wp2_with fail
  refine (CI.out).mono ?_
  rintro e w6 ⟨r, rfl, hr, hb6⟩
  go_wp2_with fail
  go_ret
  exact ⟨by subst hr; rfl, hb6⟩
/-- Slices of what is read of others in a slice. -/
def FRws (w : World) (v : Value) (K : List (Value × List (Int × Int))) : Prop := Row w v K.length 1 (K.map (·.1)) ∧ ∀ p ∈ K, Frs w p.1 p.2
theorem FRws.below {w w' : World} {v : Value} {K : List (Value × List (Int × Int))} (h : FRws w v K) (hb : Below w.heap.size w w') : FRws w' v K := ⟨Row.below h.1 hb, fun p hp => (h.2 p hp).below hb⟩
theorem FRws.form {w : World} {v : Value} {K : List (Value × List (Int × Int))} (h : FRws w v K) : ∃ ao cap, v = .slice ao K.length cap := by
  obtain ⟨⟨_, ao, cap, rfl, _⟩, _⟩ := h
  exact ⟨ao, cap, rfl⟩
theorem FRws.at {w : World} {ao : Option Addr} {n cap : Nat} {K : List (Value × List (Int × Int))} (h : FRws w (.slice ao n cap) K) {k : Nat} (hk : k < K.length) :
    ∃ b off, ao = some ⟨b, off, none⟩ ∧ w.cell? ⟨b, off + k, none⟩ = some K[k].1 ∧ Frs w K[k].1 K[k].2 := by
  obtain ⟨⟨_, ao', cap', he, hm, _, hc⟩, hi⟩ := h
  obtain ⟨rfl, _, _⟩ : ao = ao' ∧ n = K.length ∧ cap = cap' := by simpa using he
  obtain ⟨b, off, rfl, hcell⟩ := hc (by omega)
  exact ⟨b, off, rfl, by rw [hcell k (by omega)]; simp [List.getElem?_eq_getElem hk], hi _ (List.getElem_mem hk)⟩
set_option maxHeartbeats 4000000 in
theorem offrom_any (vr : Value) (K : List (Value × List (Int × Int))) (a b : Nat) (p ob : Nat) (w : World) (hp : w.cell? ⟨p, 0, none⟩ = some (.pointer (some ⟨ob, 0, none⟩))) (hr : w.cell? ⟨ob, 195, none⟩ = some vr) (hT : FRws w vr K) (hb : b < K.length) :
    Calls Try.prog 36 #[.int .i64 a, .int .i64 b, .pointer (some ⟨p, 0, none⟩)] w fun e w' => e = .returned (.bool (K[b].2.any (fun r => decide (r.2 = (a : Int))))) ∧ Below w.heap.size w w' := by
  obtain ⟨ao, cap, rfl⟩ := hT.form
  have hbi : (b : Int) < (K.length : Int) := by omega
  have hb0 := box_below w (.cells #[.int .i64 a] 3)
  have hp0 := (hb0.cell (p := ⟨p, 0, none⟩) (block_lt hp)).trans hp
  have hr0 := (hb0.cell (p := ⟨ob, 195, none⟩) (block_lt hr)).trans hr
  have hq0 : (w.alloc (.cells #[.int .i64 a] 3)).cell? ⟨w.heap.size, 0, none⟩ = some (.int .i64 a) := by rw [cell_of_row _ _ 0 _ _ _ (heap_alloc_new w _)]; rfl
  obtain ⟨g, o, hao, c0, hF⟩ := (hT.below hb0).at hb
  cases hao
  have CC := Lib.hid (ofcontains_any _ _ (a : Int) w.heap.size _ hF hq0)
  obtain ⟨aq, capq, hqv, hql⟩ := hF.form
  rw [hqv] at c0 CC
  have hmf : ∀ (fn : Fn) (first cap : Array Value) (w : World), (Instr.makeFunc fn first cap).run Try.prog w = .ok (.func fn first cap) w := fun _ _ _ _ => rfl
  generalize K[b].2.any (fun r => decide (r.2 = (a : Int))) = B at *
  generalize K[b].2.length = m at *
  clear hT hF hqv hp hr
  go_enter Try.func36, Try.ntmps36
  go_wp2_with fail
  refine (CC.out).mono ?_
  rintro e w6 ⟨rfl, hb6⟩
  have hbb := below_then hb0 hb6
  go_wp2_with fail
  go_ret
  exact ⟨rfl, hbb⟩
end Go.Proofs.Ytfekcmhjdjifgaa

namespace Go.Proofs.Ytfekcmhjdjifgaa
set_option maxRecDepth 100000
open Go.RowKit

/-- The set of the numbers below 64 that a test lets by. -/
def mkS (p : Nat → Bool) : Nat := ((List.range 64).filter p).foldl (fun s i => s ||| 2 ^ i) 0
theorem testBit_fold (l : List Nat) : ∀ (s i : Nat), (l.foldl (fun s i => s ||| 2 ^ i) s).testBit i = (s.testBit i || l.contains i) := by
  induction l with
  | nil => intro s i; simp
  | cons a l ih =>
    intro s i
    rw [List.foldl_cons, ih, Nat.testBit_or, Nat.testBit_two_pow, List.contains_cons, Bool.or_assoc]
    congr 2
    rw [Bool.eq_iff_iff, decide_eq_true_iff, beq_iff_eq]
    exact ⟨fun h => h.symm, fun h => h.symm⟩
theorem testBit_mkS (p : Nat → Bool) (i : Nat) : (mkS p).testBit i = (decide (i < 64) && p i) := by
  unfold mkS
  rw [testBit_fold, Nat.zero_testBit, Bool.false_or, Bool.eq_iff_iff]
  simp
theorem isSet_mkS (p : Nat → Bool) : IsSet (mkS p) := by
  apply isSet_of_bits
  intro i hi
  rw [testBit_mkS]
  have : ¬ i < 64 := by omega
  simp [this]
theorem mkS_eq {s : Nat} {p : Nat → Bool} (hs : IsSet s) (h : ∀ i, i < 64 → s.testBit i = p i) : s = mkS p := by
  apply set_ext hs (isSet_mkS p)
  intro i hi
  rw [testBit_mkS, h i hi]; simp [hi]
theorem mkS_false : mkS (fun _ => false) = 0 := (mkS_eq (by unfold IsSet; omega) fun i _ => by simp).symm
/-- A relation: does a stand to b? -/
abbrev Mat := Nat → Nat → Bool
/-- The array of a relation's rows. -/
def rowsA (R : Mat) : Array Value := ((List.range 64).map fun i => Value.int .u64 ((mkS (R i) : Nat) : Int)).toArray
theorem rowsA_size (R : Mat) : (rowsA R).size = 64 := by simp [rowsA]
theorem rowsA_at (R : Mat) {i : Nat} (hi : i < 64) : (rowsA R)[i]? = some (.int .u64 ((mkS (R i) : Nat) : Int)) := by
  simp [rowsA, hi]
/-- A relation with one row anew. -/
def rowSet (R : Mat) (a : Nat) (p : Nat → Bool) : Mat := fun i => if i = a then p else R i
theorem rowsA_set (R : Mat) (a s : Nat) (p : Nat → Bool) (hs : s = mkS p) : (rowsA R).setIfInBounds a (.int .u64 (s : Int)) = rowsA (rowSet R a p) := by
  subst hs
  apply Array.ext_getElem?
  intro i
  by_cases hi : i < 64
  · rw [rowsA_at _ hi, Array.getElem?_setIfInBounds]
    unfold rowSet
    by_cases e : a = i
    · subst e; simp [rowsA_size, hi]
    · rw [if_neg e, rowsA_at R hi, if_neg (fun h => e h.symm)]
  · rw [Array.getElem?_eq_none (by rw [Array.size_setIfInBounds, rowsA_size]; omega), Array.getElem?_eq_none (by rw [rowsA_size]; omega)]
/-- The block that holds a relation. -/
def RelAt (w : World) (g : Nat) (t : TypeId) (R : Mat) : Prop := w.heap[g]? = some (.cells (rowsA R) t (0, 0))
theorem RelAt.cell {w : World} {g : Nat} {t : TypeId} {R : Mat} (h : RelAt w g t R) {i : Nat} (hi : i < 64) : w.cell? ⟨g, i, none⟩ = some (.int .u64 ((mkS (R i) : Nat) : Int)) := by
  rw [cell_of_row w g i _ _ _ h, rowsA_at R hi]
theorem RelAt.free {w : World} {g : Nat} {t : TypeId} {R : Mat} (h : RelAt w g t R) (i : Nat) : w.frozen? ⟨g, i, none⟩ = false := frozen_of_row w g i _ _ h
theorem RelAt.lt {w : World} {g : Nat} {t : TypeId} {R : Mat} (h : RelAt w g t R) : g < w.heap.size := by
  by_cases h0 : g < w.heap.size
  · exact h0
  · unfold RelAt at h; rw [Array.getElem?_eq_none (Nat.le_of_not_lt h0)] at h; cases h
theorem RelAt.below {w w' : World} {g B : Nat} {t : TypeId} {R : Mat} (h : RelAt w g t R) (hb : Below B w w') (hB : g < B) : RelAt w' g t R := by
  unfold RelAt at *; rw [hb.block g hB, h]
theorem RelAt.store {w : World} {g : Nat} {t : TypeId} {R : Mat} (h : RelAt w g t R) (a s : Nat) (p : Nat → Bool) (hs : s = mkS p) :
    RelAt (w.setCell ⟨g, a, none⟩ (.int .u64 (s : Int))) g t (rowSet R a p) := by
  unfold RelAt at *
  rw [heap_setCell_same w g a _ t _ h, rowsA_set R a s p hs]
theorem RelAt.other {w : World} {g : Nat} {t : TypeId} {R : Mat} (h : RelAt w g t R) {k : Addr} (hk : g ≠ k.block) (v : Value) : RelAt (w.setCell k v) g t R := by
  unfold RelAt at *; rw [heap_setCell_other w k g v hk, h]
theorem RelAt.alloc {w : World} {g : Nat} {t : TypeId} {R : Mat} (h : RelAt w g t R) (o : Obj) : RelAt (w.alloc o) g t R := by
  have hl := RelAt.lt h
  unfold RelAt at *; rw [Below.heap_alloc w o g hl, h]
theorem RelAt.new (w : World) (t : TypeId) (R : Mat) : RelAt (w.alloc (.cells (rowsA R) t)) w.heap.size t R := heap_alloc_new w _
/-- The relation that has nothing. -/
def noR : Mat := fun _ _ => false
theorem rowsA_none : rowsA noR = Array.replicate 64 (.int .u64 0) := by
  apply Array.ext_getElem?
  intro i
  by_cases hi : i < 64
  · rw [rowsA_at _ hi, Array.getElem?_replicate, if_pos hi]
    have : mkS (noR i) = 0 := mkS_false
    rw [this]; rfl
  · rw [Array.getElem?_eq_none (by rw [rowsA_size]; omega), Array.getElem?_eq_none (by simp; omega)]
theorem RelAt.made (w : World) (t : TypeId) (R : Mat) {cs : Array Value} {g : Nat} (hg : g = w.heap.size) (hc : cs = rowsA R) : RelAt (w.alloc (.cells cs t)) g t R := by
  subst hg hc; exact RelAt.new w t R
end Go.Proofs.Ytfekcmhjdjifgaa

namespace Go.Proofs.Ytfekcmhjdjifgaa
set_option maxRecDepth 100000
open Go.RowKit

def mayB (n : Int) : Bool := decide (0 ≤ n ∧ n < 64)
set_option maxHeartbeats 400000 in
theorem rmayn_any (n : Int) (w : World) :
    Calls Try.prog 41 #[.int .i64 n] w fun e w' => e = .returned (.bool (mayB n)) ∧ w = w' := by
  have H : Hid ((decide (0 ≤ n) && decide (n < 64)) = mayB n) := Lib.hid (by unfold mayB; simp)
  by_cases h0 : 0 ≤ n
  · have H1 : Hid (decide (n < 64) = mayB n) := Lib.hid (by rw [← H.out]; simp [h0])
    go_enter Try.func41, Try.ntmps41
    go_wp2
    go_ret
    exact ⟨ret_b H1.out, rfl⟩
  · have H1 : Hid (false = mayB n) := Lib.hid (by rw [← H.out]; simp [h0])
    go_enter Try.func41, Try.ntmps41
    go_wp2
    go_ret
    exact ⟨ret_b H1.out, rfl⟩
theorem may_yes (n : Int) (w : World) (h : 0 ≤ n ∧ n < 64) : Calls Try.prog 41 #[.int .i64 n] w fun e w' => e = .returned (.bool true) ∧ w = w' := by
  have := rmayn_any n w
  rwa [show mayB n = true from by unfold mayB; simp [h]] at this
theorem may_no (n : Int) (w : World) (h : ¬ (0 ≤ n ∧ n < 64)) : Calls Try.prog 41 #[.int .i64 n] w fun e w' => e = .returned (.bool false) ∧ w = w' := by
  have := rmayn_any n w
  rwa [show mayB n = false from by unfold mayB; simp [h]] at this

/-- Does a stand to b, of any numbers? -/
def hasR (R : Mat) (a b : Int) : Bool := mayB a && hasB (mkS (R a.toNat)) b
set_option maxHeartbeats 400000 in
theorem rhasR_any (R : Mat) (a b : Int) (w : World) :
    Calls Try.prog 10 #[.agg (rowsA R), .int .i64 a, .int .i64 b] w fun e w' => e = .returned (.bool (hasR R a b)) ∧ Below w.heap.size w w' := by
  by_cases ha : 0 ≤ a ∧ a < 64
  · obtain ⟨i, rfl⟩ := Int.eq_ofNat_of_zero_le ha.1
    have hi : i < 64 := by omega
    have CM := Lib.hid (fun wx => may_yes (i : Int) wx ha)
    have HR : Hid (hasB (mkS (R i)) b = hasR R (i : Int) b) := Lib.hid (by unfold hasR mayB; simp [ha])
    have hc := (RelAt.new w 32 R).cell hi
    have hset := isSet_mkS (R i)
    clear ha
    generalize mkS (R i) = s at *
    go_enter Try.func10, Try.ntmps10
    go_wp2_with (first
      | (go_at_call 41; refine (CM.out _).mono ?_; rintro e w' ⟨rfl, rfl⟩)
      | (go_at_call 12; refine (has_any s b _ hset).mono ?_; rintro e w' ⟨rfl, rfl⟩))
    go_ret
    exact ⟨ret_b HR.out, (Below.refl _ _).alloc (Nat.le_refl _) _⟩
  · have CM := Lib.hid (fun wx => may_no a wx ha)
    have HR : Hid (false = hasR R a b) := Lib.hid (by unfold hasR mayB; simp [ha])
    clear ha
    go_enter Try.func10, Try.ntmps10
    go_wp2_with (go_at_call 41; refine (CM.out _).mono ?_; rintro e w' ⟨rfl, rfl⟩)
    go_ret
    exact ⟨ret_b HR.out, (Below.refl _ _).alloc (Nat.le_refl _) _⟩

theorem infoRel : (Try.prog.info? 32).map (·.size) = some 64 := by kernel_rfl
theorem infoRel' (R : Mat) : (Try.prog.info? 32).map (·.size) = some (rowsA R).size := by rw [rowsA_size]; exact infoRel
theorem rows_one (R : Mat) : (rowsA R).all (·.oneCell') = true := by
  rw [Array.all_eq_true_iff_forall_mem]
  intro v hv
  have : v ∈ (rowsA R).toList := by simpa using hv
  simp only [rowsA, List.toList_toArray, List.mem_map] at this
  obtain ⟨i, _, rfl⟩ := this
  rfl
theorem RelAt.setRow {w : World} {g : Nat} {t : TypeId} {R : Mat} (h : RelAt w g t R) (S : Mat) : RelAt (w.setRow g (rowsA S)) g t S := setRow_heap w g _ _ t _ h
/-- A whole relation read out of its block, and written into one. -/
theorem wpList_load_rel {ops : Array Oper} {rest : List Oper} {o : Oper} {a : Act} {w : World} {Q : Exit → Act → World → Prop} {g : Nat} {R : Mat} (h : RelAt w g 32 R) (hgd : o.guard = none) (x : Operand) (ho : o.op = .load 32 x)
    (hx : a.eval x = .pointer (some ⟨g, 0, none⟩)) (hn : wpList Try.prog ops Q rest (a.put o.dst (.agg (rowsA R))) w) : wpList Try.prog ops Q (o :: rest) a w :=
  wpList_load_row hgd 32 x ho g hx _ (rowsA R) _ _ h Try.underlying32 rfl (infoRel' _) hn
theorem wpList_store_rel {ops : Array Oper} {rest : List Oper} {o : Oper} {a : Act} {w : World} {Q : Exit → Act → World → Prop} {g : Nat} {S : Mat} (h : RelAt w g 32 S) (R : Mat) (hgd : o.guard = none) (x y : Operand) (ho : o.op = .store 32 x y)
    (hx : a.eval x = .pointer (some ⟨g, 0, none⟩)) (hy : a.eval y = .agg (rowsA R)) (hn : wpList Try.prog ops Q rest (a.put o.dst undef) (w.setRow g (rowsA R))) : wpList Try.prog ops Q (o :: rest) a w :=
  wpList_store_row hgd 32 x y ho g (rowsA R) hx hy _ _ h (infoRel' _) (by rw [rowsA_size, rowsA_size]) (rows_one _) hn
end Go.Proofs.Ytfekcmhjdjifgaa

namespace Go.Proofs.Ytfekcmhjdjifgaa
set_option maxRecDepth 100000

/-- One comes from i to j, in one step or more, by numbers below 64. -/
inductive Path (R : Mat) : Nat → Nat → Prop
  | one {i j : Nat} : R i j = true → Path R i j
  | more {i m j : Nat} : R i m = true → m < 64 → Path R m j → Path R i j
theorem Path.trans {R : Mat} {i m j : Nat} (h : Path R i m) (hm : m < 64) (k : Path R m j) : Path R i j := by
  induction h with
  | one h => exact .more h hm k
  | more h h2 _ ih => exact .more h h2 (ih hm k)
theorem Path.mono {R S : Mat} {i j : Nat} (h : Path R i j) (hRS : ∀ a b, R a b = true → S a b = true) : Path S i j := by
  induction h with
  | one h => exact .one (hRS _ _ h)
  | more h h2 _ ih => exact .more (hRS _ _ h) h2 ih
end Go.Proofs.Ytfekcmhjdjifgaa

namespace Go.Proofs.Ytfekcmhjdjifgaa
set_option maxRecDepth 100000
open Go.RowKit

theorem hasB_mkS (p : Nat → Bool) (n : Nat) (hn : n < 64) : hasB (mkS p) (n : Int) = p n := by
  unfold hasB
  have h : 0 ≤ (n : Int) ∧ (n : Int) < 64 := by omega
  rw [Int.toNat_natCast, testBit_mkS]
  simp [h, hn]
end Go.Proofs.Ytfekcmhjdjifgaa

namespace Go.Proofs.Ytfekcmhjdjifgaa
set_option maxRecDepth 100000
open Go.RowKit

theorem withS_mkS (q : Nat → Bool) (a : Nat) (ha : a < 64) : withS (mkS q) (a : Int) = mkS fun j => q j || decide (j = a) := by
  apply mkS_eq (isSet_withS (isSet_mkS q))
  intro i hi
  rw [testBit_withS, testBit_mkS]
  have h : 0 ≤ (a : Int) ∧ (a : Int) < 64 := by omega
  simp only [hi, h, decide_true, Bool.true_and, and_self, Int.toNat_natCast]
  congr 1
  rw [Bool.eq_iff_iff]; simp; exact ⟨fun h => h.symm, fun h => h.symm⟩
end Go.Proofs.Ytfekcmhjdjifgaa

namespace Go.Proofs.Ytfekcmhjdjifgaa
set_option maxRecDepth 100000
open Go.RowKit

/-- With one pair more, if both may be. -/
def addM (R : Mat) (a b : Int) : Mat := if mayB a = true ∧ mayB b = true then rowSet R a.toNat (fun j => R a.toNat j || decide (j = b.toNat)) else R
set_option maxHeartbeats 1000000 in
theorem add_yes (R : Mat) (g : Nat) (a b : Nat) (w : World) (h : RelAt w g 32 R) (ha : a < 64) (hb : b < 64) :
    Calls Try.prog 61 #[.pointer (some ⟨g, 0, none⟩), .int .i64 (a : Int), .int .i64 (b : Int)] w fun e w' => e = .returned (.bool true) ∧ RelAt w' g 32 (rowSet R a (fun j => R a j || decide (j = b))) ∧ w.grownBy w' (some g) := by
  have hma : mayB (a : Int) = true := by unfold mayB; simp; omega
  have hmb : mayB (b : Int) = true := by unfold mayB; simp; omega
  have hc := h.cell ha
  have hf := h.free a
  have hM := Lib.hid (withS_mkS (R a) b hb)
  have hset := isSet_mkS (R a)
  have hlt := h.lt
  have HN := Lib.hid (h.store a _ (fun j => R a j || decide (j = b)) hM.out)
  have CW : ∀ wx, Calls Try.prog 60 #[.int .u64 ((mkS (R a) : Nat) : Int), .int .i64 (b : Int)] wx fun e w' => e = .returned (.int .u64 ((withS (mkS (R a)) (b : Int) : Nat) : Int)) ∧ w' = wx :=
    fun wx => (with_any _ _ wx hset).mono fun _ _ h => ⟨h.1, h.2.symm⟩
  have HG : Hid (w.grownBy (w.setCell ⟨g, a, none⟩ (.int .u64 ((withS (mkS (R a)) (b : Int) : Nat) : Int))) (some g)) :=
    Lib.hid ⟨rfl, rfl, rfl, by simp, fun k _ hk => Below.heap_setCell w ⟨g, a, none⟩ _ k (fun e => hk (by rw [e]))⟩
  have CWH := Lib.hid CW
  clear CW h
  generalize mkS (R a) = x at *
  generalize withS x (b : Int) = z at *
  have hai : (a : Int) < 64 := by omega
  go_enter Try.func61, Try.ntmps61
  go_wp2_with (go_at_call 41; refine (rmayn_any _ _).mono ?_; rintro e w' ⟨rfl, rfl⟩)
  go_still_tail 11, (by kernel_rfl)
  still_call (CWH.out _)
  repeat still_step
  refine wpStill_nil ?_
  go_wp2
  go_ret
  exact ⟨rfl, HN.out, ⟨HG.out.os, HG.out.tape, HG.out.output, HG.out.size, HG.out.block⟩⟩
theorem add_no (R : Mat) (g : Nat) (a b : Int) (w : World) (h : RelAt w g 32 R) (hab : ¬ (mayB a = true ∧ mayB b = true)) :
    Calls Try.prog 61 #[.pointer (some ⟨g, 0, none⟩), .int .i64 a, .int .i64 b] w fun e w' => e = .returned (.bool false) ∧ RelAt w' g 32 R ∧ w.grownBy w' (some g) := by
  have HR := Lib.hid h
  clear h
  cases ha : mayB a
  · clear hab
    go_enter Try.func61, Try.ntmps61
    go_wp2_with (go_at_call 41; refine (rmayn_any _ _).mono ?_; rintro e w' ⟨rfl, rfl⟩)
    go_ret
    exact ⟨rfl, HR.out, World.grownBy.refl _ _⟩
  · have hb : mayB b = false := by cases hb : mayB b <;> simp_all
    clear hab
    go_enter Try.func61, Try.ntmps61
    go_wp2_with (go_at_call 41; refine (rmayn_any _ _).mono ?_; rintro e w' ⟨rfl, rfl⟩)
    go_ret
    exact ⟨rfl, HR.out, World.grownBy.refl _ _⟩
theorem mayB_iff (n : Int) : mayB n = true ↔ 0 ≤ n ∧ n < 64 := by unfold mayB; simp
theorem add_any (R : Mat) (g : Nat) (a b : Int) (w : World) (h : RelAt w g 32 R) :
    Calls Try.prog 61 #[.pointer (some ⟨g, 0, none⟩), .int .i64 a, .int .i64 b] w fun e w' => e = .returned (.bool (mayB a && mayB b)) ∧ RelAt w' g 32 (addM R a b) ∧ w.grownBy w' (some g) := by
  by_cases hab : mayB a = true ∧ mayB b = true
  · have h1 := (mayB_iff a).1 hab.1
    have h2 := (mayB_iff b).1 hab.2
    have e1 : (mayB a && mayB b) = true := by rw [hab.1, hab.2]; rfl
    have e2 : addM R a b = rowSet R a.toNat (fun j => R a.toNat j || decide (j = b.toNat)) := if_pos hab
    rw [e1, e2]
    obtain ⟨i, rfl⟩ := Int.eq_ofNat_of_zero_le h1.1
    obtain ⟨j, rfl⟩ := Int.eq_ofNat_of_zero_le h2.1
    simp only [Int.toNat_natCast]
    exact add_yes R g i j w h (by omega) (by omega)
  · have e1 : (mayB a && mayB b) = false := by cases ha : mayB a <;> cases hb : mayB b <;> simp_all
    have e2 : addM R a b = R := if_neg hab
    rw [e1, e2]
    exact add_no R g a b w h hab
end Go.Proofs.Ytfekcmhjdjifgaa

namespace Go.Proofs.Ytfekcmhjdjifgaa
set_option maxRecDepth 100000
open Go.RowKit

/-- The first k numbers of a row; the first a rows. -/
def prsRow (S : Nat → Nat → Bool) (a : Nat) (R : Mat) : Nat → Mat
  | 0 => R
  | b + 1 => if S a b then addM (prsRow S a R b) a b else prsRow S a R b
def prsTo (S : Nat → Nat → Bool) (n : Nat) : Nat → Mat
  | 0 => noR
  | a + 1 => prsRow S a (prsTo S n a) n
theorem prsRow_hit {S : Nat → Nat → Bool} {a b : Nat} (R : Mat) (h : S a b = true) : prsRow S a R (b + 1) = addM (prsRow S a R b) a b := if_pos h
theorem prsRow_miss {S : Nat → Nat → Bool} {a b : Nat} (R : Mat) (h : S a b = false) : prsRow S a R (b + 1) = prsRow S a R b := if_neg (by simp [h])
theorem results_rel1 {fn : Func} {p : Tmp} (h : fn.results = #[.cell p 32]) (tmps : Array Value) (w : World) (g : Nat) (R : Mat)
    (hp : tmps.getD p undef = .pointer (some ⟨g, 0, none⟩)) (hg : RelAt w g 32 R) : (results fn tmps).run Try.prog w = .ok (.agg (rowsA R)) w := by
  have hp' : tmps[p]?.getD undef = .pointer (some ⟨g, 0, none⟩) := by simpa using hp
  simp [results, h, hp', asAddr, run_loadVar_row w g _ 32 (rowsA R) _ _ hg Try.underlying32 rfl (infoRel' _)]
set_option maxHeartbeats 4000000 in
theorem pairs_any (S : Nat → Nat → Bool) (n : Nat) (hn : n ≤ 100) (f : FuncId) (cap : Array Value) (w : World) (hcf : ∀ (args : Array Value) (wx : World), Sem.run Try.prog (callFunc f args) wx = .ok (.enter f args) wx)
    (HF : ∀ (a b : Nat) (wx : World), a < n → b < n → Below w.heap.size w wx → Calls Try.prog f (#[.int .i64 a, .int .i64 b] ++ cap) wx fun e w' => e = .returned (.bool (S a b)) ∧ Below wx.heap.size wx w') :
    Calls Try.prog 33 #[.int .i64 n, .func (.func f) #[] cap] w fun e w' => e = .returned (.agg (rowsA (prsTo S n n))) ∧ Below w.heap.size w w' := by
  have HF' := Lib.hid HF
  clear HF
  go_enter Try.func33, Try.ntmps33
  go_wp2
  go_loopw [9] (fun i wr => ∃ k : Nat, k ≤ n ∧ i = .int .i64 k ∧ RelAt wr (w.heap.size + 1) 32 (prsTo S n k) ∧ RelAt wr w.heap.size 32 noR ∧ Below w.heap.size w wr)
    (fun i _ => n - (intOf i).toNat)
  case atStart =>
    refine ⟨0, by omega, rfl, ?_, ?_, ?_⟩
    · exact RelAt.made _ _ noR (by simp) (by rw [rowsA_none]; rfl)
    · exact (RelAt.made w _ noR rfl (by rw [rowsA_none]; rfl)).alloc _
    · exact ((Below.refl w.heap.size w).alloc (Nat.le_refl _) _).alloc (by simp) _
  case round =>
    obtain ⟨k, hk, rfl, h1, h0, hb⟩ := hrel
    by_cases hlt : k < n
    · have hki : (k : Int) < (n : Int) := by omega
      have HN : Hid (prsTo S n (k + 1) = prsRow S k (prsTo S n k) n) := Lib.hid rfl
      generalize prsTo S n k = R at *
      go_wp2_with fail
      go_loopw [13] (fun i wx => ∃ j : Nat, j ≤ n ∧ i = .int .i64 j ∧ RelAt wx (w.heap.size + 1) 32 (prsRow S k R j) ∧ RelAt wx w.heap.size 32 noR ∧ Below w.heap.size w wx)
        (fun i _ => n - (intOf i).toNat)
      case atStart => exact ⟨0, by omega, rfl, h1, h0, hb⟩
      case round =>
        clear h1 h0 hb
        obtain ⟨j, hj, rfl, h1, h0, hb⟩ := hrel
        by_cases hltj : j < n
        · have hkj : (j : Int) < (n : Int) := by omega
          have CF := Lib.hid (HF'.out k j wr hlt hltj hb)
          cases hs : S k j
          · rw [hs] at CF
            have HM := Lib.hid (prsRow_miss R hs)
            clear hs
            go_wp2_with fail
            refine (CF.out).mono ?_
            rintro e w6 ⟨rfl, hb6⟩
            have h16 := h1.below hb6 h1.lt
            have h06 := h0.below hb6 h0.lt
            have hbb := hb.trans (hb6.mono hb.size)
            clear h1 h0 hb hb6 CF
            go_wp2_with fail
            go_roundw
            case rel => exact ⟨j + 1, by omega, by go_num, by rw [HM.out]; exact h16, h06, hbb⟩
            case measure => simp [intOf]; omega
          · rw [hs] at CF
            have HM := Lib.hid (prsRow_hit R hs)
            clear hs
            go_wp2_with fail
            refine (CF.out).mono ?_
            rintro e w6 ⟨rfl, hb6⟩
            have h16 := h1.below hb6 h1.lt
            have h06 := h0.below hb6 h0.lt
            have hbb := hb.trans (hb6.mono hb.size)
            have CA := Lib.hid (add_any _ _ (k : Int) (j : Int) _ h16)
            clear h1 h0 hb hb6 CF h16
            go_wp2_with fail
            refine (CA.out).mono ?_
            rintro e w7 ⟨rfl, h17, hg7⟩
            have h07 : RelAt w7 w.heap.size 32 noR := by
              have := hg7.block w.heap.size h06.lt (by simp)
              unfold RelAt at *
              rw [this]
              exact h06
            have hb7 : Below w.heap.size w w7 := hbb.grown hg7 hbb.size (by simp)
            clear CA h06 hbb hg7
            go_wp2_with fail
            go_roundw
            case rel => exact ⟨j + 1, by omega, by go_num, by rw [HM.out]; exact h17, h07, hb7⟩
            case measure => simp [intOf]; omega
        · have hjn : j = n := by omega
          subst hjn
          go_wp2_with fail
          go_roundw
          case rel => exact ⟨k + 1, by omega, by go_num, by rw [HN.out]; exact h1, h0, hb⟩
          case measure => simp [intOf]; omega
    · have hkn : k = n := by omega
      subst hkn
      go_wp2_with (first
        | (with_reducible refine wpList_load_rel h1 rfl _ rfl rfl ?_)
        | (with_reducible refine wpList_store_rel h0 (prsTo S k k) rfl _ _ rfl rfl rfl ?_))
      have h3 := h0.setRow (prsTo S k k)
      exact bodyPost_ret (results_rel1 rfl _ _ _ _ rfl h3) rfl ⟨rfl, below_setRow hb (by omega) _⟩
end Go.Proofs.Ytfekcmhjdjifgaa

namespace Go.Proofs.Ytfekcmhjdjifgaa
set_option maxRecDepth 100000
open Go.RowKit

/-- Slices of ints in a slice: each one's value and what it holds. -/
def Rws (w : World) (v : Value) (K : List (Value × List Int)) : Prop := Row w v K.length 1 (K.map (·.1)) ∧ ∀ p ∈ K, Ints w p.1 p.2
theorem Rws.below {w w' : World} {v : Value} {K : List (Value × List Int)} (h : Rws w v K) (hb : Below w.heap.size w w') : Rws w' v K := ⟨Row.below h.1 hb, fun p hp => (h.2 p hp).below hb⟩
theorem Rws.form {w : World} {v : Value} {K : List (Value × List Int)} (h : Rws w v K) : ∃ ao cap, v = .slice ao K.length cap := by
  obtain ⟨⟨_, ao, cap, rfl, _⟩, _⟩ := h
  exact ⟨ao, cap, rfl⟩
theorem Rws.at {w : World} {ao : Option Addr} {n cap : Nat} {K : List (Value × List Int)} (h : Rws w (.slice ao n cap) K) {k : Nat} (hk : k < K.length) :
    ∃ b off, ao = some ⟨b, off, none⟩ ∧ w.cell? ⟨b, off + k, none⟩ = some K[k].1 ∧ Ints w K[k].1 K[k].2 := by
  obtain ⟨⟨_, ao', cap', he, hm, _, hc⟩, hi⟩ := h
  obtain ⟨rfl, _, _⟩ : ao = ao' ∧ n = K.length ∧ cap = cap' := by simpa using he
  obtain ⟨b, off, rfl, hcell⟩ := hc (by omega)
  exact ⟨b, off, rfl, by rw [hcell k (by omega)]; simp [List.getElem?_eq_getElem hk], hi _ (List.getElem_mem hk)⟩
def eS (s : Nat) : Value := .int .u64 (s : Int)
/-- Who writes to each key: a row's first ones; the first rows. -/
def wrsRow (i : Nat) (F : Int → Option Nat) (xs : List Int) : Int → Option Nat := xs.foldl (fun F x => putF F x (withS ((F x).getD 0) i)) F
def wrsTo (K : List (Value × List Int)) : Nat → Int → Option Nat
  | 0 => fun _ => none
  | k + 1 => wrsRow k (wrsTo K k) ((K[k]?.map (·.2)).getD [])
theorem wrsRow_snoc (i : Nat) (F : Int → Option Nat) (xs : List Int) (k : Nat) (hk : k < xs.length) : wrsRow i F (xs.take (k + 1)) = putF (wrsRow i F (xs.take k)) xs[k] (withS ((wrsRow i F (xs.take k) xs[k]).getD 0) i) := by
  unfold wrsRow; rw [List.take_succ_eq_append_getElem hk, List.foldl_append]; rfl
theorem wrsTo_succ {K : List (Value × List Int)} {k : Nat} (hk : k < K.length) : wrsTo K (k + 1) = wrsRow k (wrsTo K k) K[k].2 := by
  show wrsRow k (wrsTo K k) _ = _
  rw [List.getElem?_eq_getElem hk]; rfl
/-- Each key's is a set. -/
def AllSet (F : Int → Option Nat) : Prop := ∀ x, IsSet ((F x).getD 0)
theorem AllSet.put {F : Int → Option Nat} (h : AllSet F) (x : Int) {s : Nat} (hs : IsSet s) : AllSet (putF F x s) := fun y => by
  by_cases e : y = x
  · rw [e, putF_same]; exact hs
  · rw [putF_other F s e]; exact h y
theorem mapIS : Try.prog.underlying 33 = some (.map 3 30) := Try.underlying33
theorem zeroS (w : World) : (zeroValue 30).run Try.prog w = .ok (eS 0) w := by kernel_rfl
set_option maxHeartbeats 8000000 in
theorem owriters_any (v : Value) (K : List (Value × List Int)) (w : World) (hK : Rws w v K) (hlen : K.length ≤ 100) (hrow : ∀ p ∈ K, p.2.length ≤ 100000) (hint : ∀ p ∈ K, ∀ x ∈ p.2, InI x) :
    Calls Try.prog 32 #[v] w fun e w' => ∃ b n c, e = .returned (.map (some b)) ∧ w.heap.size ≤ b ∧ MapI eS Try.prog 3 w' b n (wrsTo K K.length) c ∧ AllSet (wrsTo K K.length) ∧ Below w.heap.size w w' := by
  obtain ⟨ao, cap, rfl⟩ := hK.form
  have HR := Lib.hid hrow
  have HI := Lib.hid hint
  clear hrow hint
  have hm0 := MapI.made eS Try.prog 3 w
  have hb1 := (Below.refl w.heap.size w).alloc (Nat.le_refl _) (.map #[] 0)
  have hmm := @run_makeMap Try.prog
  go_enter Try.func32, Try.ntmps32
  go_wp2_with fail
  go_loopw [11] (fun i wr => ∃ k n c : Nat, k ≤ K.length ∧ i = .int .i64 k ∧ n ≤ 100000 * k ∧ AllSet (wrsTo K k) ∧ MapI eS Try.prog 3 wr w.heap.size n (wrsTo K k) c ∧ Below w.heap.size w wr) (fun i _ => K.length - (intOf i).toNat)
  case atStart => exact ⟨0, 0, 0, by omega, rfl, by omega, fun _ => (show IsSet 0 from by unfold IsSet; omega), hm0, hb1⟩
  case round =>
    obtain ⟨k, n, c, hk, rfl, hnn, hA, hM, hb⟩ := hrel
    clear hm0 hb1
    by_cases hlt : k < K.length
    · have hki : (k : Int) < (K.length : Int) := by omega
      have hKr := hK.below hb
      obtain ⟨g, o, hao, c0, hin⟩ := hKr.at hlt
      cases hao
      have HS := Lib.hid (wrsTo_succ hlt)
      have hrl := HR.out K[k] (List.getElem_mem hlt)
      have HIK := Lib.hid (HI.out K[k] (List.getElem_mem hlt))
      have HIN := Lib.hid (fun wx (hx : Below w.heap.size w wx) => (hK.2 K[k] (List.getElem_mem hlt)).below hx)
      generalize K[k] = q at *
      obtain ⟨qv, xs⟩ := q
      simp only at c0 hin HS hrl HIK HIN
      obtain ⟨ax, cx, rfl, hxl⟩ := hin.form
      generalize wrsTo K k = F at *
      clear hKr hin
      go_wp2_with fail
      go_loopw [18] (fun i wx => ∃ j m d : Nat, j ≤ xs.length ∧ i = .int .i64 j ∧ m ≤ 100000 * k + j ∧ AllSet (wrsRow k F (xs.take j)) ∧ MapI eS Try.prog 3 wx w.heap.size m (wrsRow k F (xs.take j)) d ∧ Below w.heap.size w wx) (fun i _ => xs.length - (intOf i).toNat)
      case atStart => exact ⟨0, n, c, by omega, rfl, by omega, hA, hM, hb⟩
      case round =>
        obtain ⟨j, m, d, hj, rfl, hmm2, hA2, hM2, hb2⟩ := hrel
        clear hA hM
        by_cases hltj : j < xs.length
        · have hkj : (j : Int) < (xs.length : Int) := by omega
          obtain ⟨g2, o2, hao2, e0⟩ := (HIN.out _ hb2).at hltj
          cases hao2
          have HSJ := Lib.hid (wrsRow_snoc k F xs j hltj)
          have hkv := HIK.out xs[j] (List.getElem_mem hltj)
          have hset := hA2 xs[j]
          have HAN := Lib.hid (hA2.put xs[j] (isSet_withS (n := (k : Int)) hset))
          generalize xs[j] = x at *
          generalize wrsRow k F (xs.take j) = G at *
          have CW := Lib.hid (fun wx => with_any ((G x).getD 0) (k : Int) wx hset)
          clear hset hA2
          go_wp2_with (first
            | (at_lookup; refine wpList_lookI _ rfl _ _ 33 rfl 3 30 keyI mapIS 0 (zeroS _) _ _ _ _ rfl hM2 _ rfl hkv ?_; simp only [eS])
            | (go_at_call 60; refine (CW.out _).mono ?_; rintro e w' ⟨rfl, rfl⟩)
            | (at_mapUpdate; refine wpList_putI _ rfl _ _ _ 33 rfl 3 30 keyI mapIS _ _ _ _ rfl hM2 (by unfold maxLen; omega) _ rfl hkv (withS ((G x).getD 0) (k : Int)) rfl ?_; intro w5 hM5 hg5; go_frame))
          have hb5 := hb2.grown hg5 hb2.size (fun q hq => by cases hq; exact Nat.le_refl _)
          clear hM2 hb2 hg5
          go_wp2_with fail
          go_roundw
          case rel => exact ⟨j + 1, m + 1, _, by omega, by go_num, by omega, by rw [HSJ.out]; exact HAN.out, by rw [HSJ.out]; exact hM5, hb5⟩
          case measure => simp [intOf]; omega
        · have hj2 : j = xs.length := by omega
          subst hj2
          rw [List.take_length] at hA2 hM2
          go_wp2_with fail
          go_roundw
          case rel => exact ⟨k + 1, m, d, by omega, by go_num, by omega, by rw [HS.out]; exact hA2, by rw [HS.out]; exact hM2, hb2⟩
          case measure => simp [intOf]; omega
    · have hkl : k = K.length := by omega
      subst hkl
      go_wp2_with fail
      go_ret
      exact ⟨_, _, _, rfl, Nat.le_refl _, hM, hA, hb⟩
end Go.Proofs.Ytfekcmhjdjifgaa

namespace Go.Proofs.Ytfekcmhjdjifgaa
set_option maxRecDepth 100000
open Go.RowKit

/-- The cells of the block, one by one. -/
def ordF (n : Int) (S T F : Mat) (vm vk vr : Value) (sd : Bool) (i : Nat) : Value :=
  if i = 0 then .int .i64 n else if i < 65 then .int .u64 ((mkS (S (i - 1)) : Nat) : Int) else if i < 129 then .int .u64 ((mkS (T (i - 65)) : Nat) : Int) else if i < 193 then .int .u64 ((mkS (F (i - 129)) : Nat) : Int) else
  if i = 193 then vm else if i = 194 then vk else if i = 195 then vr else .bool sd
/-- The block that holds what follows of a history. -/
def OrdAt (w : World) (B : Nat) (n : Int) (S T F : Mat) (vm vk vr : Value) (sd : Bool) : Prop := ∀ i, i < 197 → w.cell? ⟨B, i, none⟩ = some (ordF n S T F vm vk vr sd i) ∧ w.frozen? ⟨B, i, none⟩ = false
section
variable {w : World} {B : Nat} {n : Int} {S T F : Mat} {vm vk vr : Value} {sd : Bool}
theorem OrdAt.lt (h : OrdAt w B n S T F vm vk vr sd) : B < w.heap.size := block_lt (h 0 (by omega)).1
theorem OrdAt.below {w' : World} {B' : Nat} (h : OrdAt w B n S T F vm vk vr sd) (hb : Below B' w w') (hB : B < B') : OrdAt w' B n S T F vm vk vr sd := fun i hi => by
  rw [hb.cell (p := ⟨B, i, none⟩) hB, hb.frozen (p := ⟨B, i, none⟩) hB]; exact h i hi
theorem OrdAt.alloc (h : OrdAt w B n S T F vm vk vr sd) (o : Obj) : OrdAt (w.alloc o) B n S T F vm vk vr sd := h.below ((Below.refl w.heap.size w).alloc (Nat.le_refl _) o) h.lt
theorem OrdAt.drew (h : OrdAt w B n S T F vm vk vr sd) : OrdAt w.drew B n S T F vm vk vr sd := h.below ((Below.refl w.heap.size w).drew) h.lt
theorem OrdAt.grown {w' : World} {row : Option Nat} (h : OrdAt w B n S T F vm vk vr sd) (hg : w.grownBy w' row) (hne : some B ≠ row) : OrdAt w' B n S T F vm vk vr sd := fun i hi => by
  obtain ⟨h1, h2⟩ := h i hi
  have hb := hg.block B h.lt hne
  have e1 : w'.cell? ⟨B, i, none⟩ = w.cell? ⟨B, i, none⟩ := by simp only [World.cell?]; rw [hb]
  have e2 : w'.frozen? ⟨B, i, none⟩ = w.frozen? ⟨B, i, none⟩ := by simp only [World.frozen?]; rw [hb]
  rw [e1, e2]; exact ⟨h1, h2⟩
theorem OrdAt.cN (h : OrdAt w B n S T F vm vk vr sd) : w.cell? ⟨B, 0, none⟩ = some (.int .i64 n) := (h 0 (by omega)).1
theorem OrdAt.cM (h : OrdAt w B n S T F vm vk vr sd) : w.cell? ⟨B, 193, none⟩ = some vm := (h 193 (by omega)).1
theorem OrdAt.cK (h : OrdAt w B n S T F vm vk vr sd) : w.cell? ⟨B, 194, none⟩ = some vk := (h 194 (by omega)).1
theorem OrdAt.cR (h : OrdAt w B n S T F vm vk vr sd) : w.cell? ⟨B, 195, none⟩ = some vr := (h 195 (by omega)).1
theorem OrdAt.cS (h : OrdAt w B n S T F vm vk vr sd) : w.cell? ⟨B, 196, none⟩ = some (.bool sd) := (h 196 (by omega)).1
theorem OrdAt.free (h : OrdAt w B n S T F vm vk vr sd) {i : Nat} (hi : i < 197) : w.frozen? ⟨B, i, none⟩ = false := (h i hi).2
theorem OrdAt.put (h : OrdAt w B n S T F vm vk vr sd) (k : Nat) (hk : k < 197) (v : Value) {n' : Int} {S' T' F' : Mat} {vm' vk' vr' : Value} {sd' : Bool} (h1 : ordF n' S' T' F' vm' vk' vr' sd' k = v)
    (h2 : ∀ i, i < 197 → i ≠ k → ordF n' S' T' F' vm' vk' vr' sd' i = ordF n S T F vm vk vr sd i) : OrdAt (w.setCell ⟨B, k, none⟩ v) B n' S' T' F' vm' vk' vr' sd' := fun i hi => by
  refine ⟨?_, by rw [World.frozen?_setCell]; exact (h i hi).2⟩
  by_cases e : i = k
  · subst e
    rw [World.cell?_setCell_same _ _ _ (h i hi).1, h1]
  · have hne : (⟨B, k, none⟩ : Addr) ≠ ⟨B, i, none⟩ := by
      intro q
      injection q with _ q2
      exact e q2.symm
    rw [World.cell?_setCell_other _ _ _ _ hne, h2 i hi e]
    exact (h i hi).1
theorem OrdAt.setM (h : OrdAt w B n S T F vm vk vr sd) (v : Value) : OrdAt (w.setCell ⟨B, 193, none⟩ v) B n S T F v vk vr sd := h.put 193 (by omega) v rfl (fun i _ e => by unfold ordF; simp [e])
theorem OrdAt.setK (h : OrdAt w B n S T F vm vk vr sd) (v : Value) : OrdAt (w.setCell ⟨B, 194, none⟩ v) B n S T F vm v vr sd := h.put 194 (by omega) v rfl (fun i _ e => by unfold ordF; simp [e])
theorem OrdAt.setR (h : OrdAt w B n S T F vm vk vr sd) (v : Value) : OrdAt (w.setCell ⟨B, 195, none⟩ v) B n S T F vm vk v sd := h.put 195 (by omega) v rfl (fun i _ e => by unfold ordF; simp [e])
theorem OrdAt.setS (h : OrdAt w B n S T F vm vk vr sd) (v : Bool) : OrdAt (w.setCell ⟨B, 196, none⟩ (.bool v)) B n S T F vm vk vr v := h.put 196 (by omega) (.bool v) rfl (fun i hi e => by
  unfold ordF
  by_cases e1 : i < 193
  · by_cases a0 : i = 0
    · simp only [a0, if_true]
    · by_cases a1 : i < 65
      · simp only [a0, a1, if_true, if_false]
      · by_cases a2 : i < 129
        · simp only [a0, a1, a2, if_true, if_false]
        · simp only [a0, a1, a2, e1, if_true, if_false]
  · have e3 : i = 193 ∨ i = 194 ∨ i = 195 := by omega
    rcases e3 with rfl | rfl | rfl <;> rfl)
theorem OrdAt.other (h : OrdAt w B n S T F vm vk vr sd) {k : Addr} (hk : B ≠ k.block) (v : Value) : OrdAt (w.setCell k v) B n S T F vm vk vr sd := fun i hi => by
  rw [World.frozen?_setCell, World.cell?_setCell_other _ _ _ _ (fun e => hk (by rw [e]))]; exact h i hi
theorem OrdAt.put64 (h : OrdAt w B n S T F vm vk vr sd) (o : Nat) (ho : o + 64 ≤ 197) (R : Mat) {S' T' F' : Mat} (h1 : ∀ j, j < 64 → ordF n S' T' F' vm vk vr sd (o + j) = .int .u64 ((mkS (R j) : Nat) : Int))
    (h2 : ∀ i, i < 197 → (i < o ∨ o + 64 ≤ i) → ordF n S' T' F' vm vk vr sd i = ordF n S T F vm vk vr sd i) : OrdAt (w.setCells B o (rowsA R).toList) B n S' T' F' vm vk vr sd := fun i hi => by
  have hl : (rowsA R).toList.length = 64 := by simp [rowsA_size]
  refine ⟨?_, by rw [World.frozen?_setCells]; exact (h i hi).2⟩
  by_cases e : i < o ∨ o + 64 ≤ i
  · rw [World.cell?_setCells_out B (rowsA R).toList o w ⟨B, i, none⟩ (fun _ _ => by simp only [hl]; exact e), h2 i hi e]
    exact (h i hi).1
  · obtain ⟨j, rfl⟩ : ∃ j, i = o + j := ⟨i - o, by omega⟩
    have hj : j < 64 := by omega
    rw [World.cell?_setCells_in B (rowsA R).toList o w (fun q hq => by rw [(h (o + q) (by omega)).1]; rfl) j (by omega), h1 j hj]
    have := rowsA_at R hj
    rw [← Array.getElem?_toList, List.getElem?_eq_getElem (by omega)] at this
    exact this
theorem OrdAt.setS1 (h : OrdAt w B n S T F vm vk vr sd) (R : Mat) : OrdAt (w.setCells B 1 (rowsA R).toList) B n R T F vm vk vr sd := h.put64 1 (by omega) R (fun j hj => by unfold ordF; rw [if_neg (by omega), if_pos (by omega)]; simp) (fun i _ e => by
  unfold ordF
  by_cases e0 : i = 0
  · simp only [e0, if_true]
  · have e1 : ¬ i < 65 := by omega
    simp only [e0, e1, if_false])
theorem OrdAt.setT1 (h : OrdAt w B n S T F vm vk vr sd) (R : Mat) : OrdAt (w.setCells B 65 (rowsA R).toList) B n S R F vm vk vr sd := h.put64 65 (by omega) R (fun j hj => by unfold ordF; rw [if_neg (by omega), if_neg (by omega), if_pos (by omega)]; simp) (fun i _ e => by
  unfold ordF
  by_cases e0 : i = 0
  · simp only [e0, if_true]
  · by_cases e1 : i < 65
    · simp only [e0, e1, if_true, if_false]
    · have e2 : ¬ i < 129 := by omega
      simp only [e0, e1, e2, if_false])
theorem OrdAt.setF1 (h : OrdAt w B n S T F vm vk vr sd) (R : Mat) : OrdAt (w.setCells B 129 (rowsA R).toList) B n S T R vm vk vr sd := h.put64 129 (by omega) R (fun j hj => by unfold ordF; rw [if_neg (by omega), if_neg (by omega), if_neg (by omega), if_pos (by omega)]; simp) (fun i _ e => by
  unfold ordF
  by_cases e0 : i = 0
  · simp only [e0, if_true]
  · by_cases e1 : i < 65
    · simp only [e0, e1, if_true, if_false]
    · by_cases e2 : i < 129
      · simp only [e0, e1, e2, if_true, if_false]
      · have e3 : ¬ i < 193 := by omega
        simp only [e0, e1, e2, e3, if_false])
theorem OrdAt.range (h : OrdAt w B n S T F vm vk vr sd) (o : Nat) (ho : o + 64 ≤ 197) (R : Mat) (h1 : ∀ j, j < 64 → ordF n S T F vm vk vr sd (o + j) = .int .u64 ((mkS (R j) : Nat) : Int)) : w.rangeAt B o (rowsA R).toList := fun j v hv => by
  have hl : (rowsA R).toList.length = 64 := by simp [rowsA_size]
  have hj : j < 64 := by have := (List.getElem?_eq_some_iff.1 hv).1; omega
  rw [Array.getElem?_toList, rowsA_at R hj] at hv
  rw [(h (o + j) (by omega)).1, h1 j hj]; exact hv
theorem OrdAt.rS (h : OrdAt w B n S T F vm vk vr sd) : w.rangeAt B 1 (rowsA S).toList := h.range 1 (by omega) S (fun j hj => by unfold ordF; rw [if_neg (by omega), if_pos (by omega)]; simp)
theorem OrdAt.rT (h : OrdAt w B n S T F vm vk vr sd) : w.rangeAt B 65 (rowsA T).toList := h.range 65 (by omega) T (fun j hj => by unfold ordF; rw [if_neg (by omega), if_neg (by omega), if_pos (by omega)]; simp)
theorem OrdAt.rF (h : OrdAt w B n S T F vm vk vr sd) : w.rangeAt B 129 (rowsA F).toList := h.range 129 (by omega) F (fun j hj => by unfold ordF; rw [if_neg (by omega), if_neg (by omega), if_neg (by omega), if_pos (by omega)]; simp)
theorem OrdAt.there (h : OrdAt w B n S T F vm vk vr sd) (o : Nat) (ho : o + 64 ≤ 197) : w.there B o 64 := fun j hj => by
  obtain ⟨h1, h2⟩ := h (o + j) (by omega)
  exact ⟨by rw [h1]; rfl, h2⟩
end
theorem zeroOrd (n : Int) : (Try.zeroCells37.setIfInBounds 0 (.int .i64 n)).setIfInBounds 196 (.bool true) = ((List.range 197).map (ordF n noR noR noR (.map none) (.slice none 0 0) (.slice none 0 0) true)).toArray := by kernel_rfl
theorem OrdAt.made (w : World) (n : Int) (t : TypeId) {B : Nat} {cs : Array Value} (hB : B = w.heap.size) (hc : cs = (Try.zeroCells37.setIfInBounds 0 (.int .i64 n)).setIfInBounds 196 (.bool true)) : OrdAt (w.alloc (.cells cs t)) B n noR noR noR (.map none) (.slice none 0 0) (.slice none 0 0) true := by
  subst hB hc
  rw [zeroOrd]
  have hh := heap_alloc_new w (.cells ((List.range 197).map (ordF n noR noR noR (.map none) (.slice none 0 0) (.slice none 0 0) true)).toArray t)
  intro i hi
  refine ⟨?_, frozen_of_row _ _ _ _ _ hh⟩
  rw [cell_of_row _ _ _ _ _ _ hh]
  simp [hi]
end Go.Proofs.Ytfekcmhjdjifgaa

namespace Go.Proofs.Ytfekcmhjdjifgaa
set_option maxRecDepth 100000
open Go.RowKit

/-- Two rows over memory of unlike types are apart. -/
theorem owns_apart {w : World} {b1 b2 : Nat} {e1 e2 : TypeId} {s1 s2 : Nat} {v1 v2 : Value} {n1 n2 : Nat} {x1 x2 : List Value} (h1 : w.ownsRow b1 e1 s1 v1 n1 x1) (h2 : w.ownsRow b2 e2 s2 v2 n2 x2) (he : e1 ≠ e2) : v1.ownBlock = none ∨ v1.ownBlock ≠ v2.ownBlock := by
  obtain ⟨_, h1⟩ := h1
  obtain ⟨_, h2⟩ := h2
  rcases h1 with ⟨rfl, _⟩ | ⟨g1, c1, cur1, rfl, _, hh1, _⟩
  · exact .inl rfl
  · right
    rcases h2 with ⟨rfl, _⟩ | ⟨g2, c2, cur2, rfl, _, hh2, _⟩
    · simp [Value.ownBlock]
    · intro e
      simp [Value.ownBlock] at e
      subst e
      rw [hh1] at hh2
      injection hh2 with hh2
      injection hh2 with _ hh2
      exact he hh2
theorem owns_cell_any {w : World} {base : Nat} {e : TypeId} {size : Nat} {v : Value} {n : Nat} {xs : List Value} (h : w.ownsRow base e size v n xs) {a : Addr} (hg : a.block < base) (x : Value) : (w.setCell a x).ownsRow base e size v n xs := by
  refine h.kept (row := some a.block) ⟨rfl, rfl, rfl, by simp, fun k hk hne => ?_⟩ ?_
  · exact heap_setCell_other w a k x (fun e3 => hne (by rw [e3]))
  · rcases h.2 with ⟨rfl, _⟩ | ⟨g, cap, cur, rfl, hb, _⟩
    · exact .inl rfl
    · right
      simp [Value.ownBlock]; omega
theorem owns_cells {base : Nat} {e : TypeId} {size : Nat} {v : Value} {n : Nat} {xs : List Value} {g : Nat} (hg : g < base) : ∀ (vs : List Value) (o : Nat) (w : World), w.ownsRow base e size v n xs → (w.setCells g o vs).ownsRow base e size v n xs
  | [], _, _, h => h
  | x :: r, o, w, h => by rw [World.setCells]; exact owns_cells hg r (o + 1) _ (owns_cell_any h hg x)
abbrev KRow := Value × List Int
abbrev RRow := Value × List (Int × Int)
/-- The rows of keys, and of reads, that the call has made. -/
structure OfR (b : Nat) (w : World) (vk vr : Value) (K : List KRow) (R : List RRow) : Prop where
  kr : w.ownsRow b 53 1 vk K.length (K.map (·.1))
  ke : ∀ p ∈ K, w.ownsRow b 3 1 p.1 p.2.length (p.2.map (Value.int .i64))
  rr : w.ownsRow b 49 1 vr R.length (R.map (·.1))
  re : ∀ p ∈ R, w.ownsRow b 51 2 p.1 p.2.length (frV p.2)
section
variable {b : Nat} {w : World} {vk vr : Value} {K : List KRow} {R : List RRow}
theorem OfR.nil (b : Nat) (w : World) : OfR b w (.slice none 0 0) (.slice none 0 0) [] [] := ⟨World.ownsRow_nil _ _ _ _, fun p hp => (by cases hp), World.ownsRow_nil _ _ _ _, fun p hp => (by cases hp)⟩
theorem OfR.below {w' : World} (h : OfR b w vk vr K R) (hb : Below w.heap.size w w') : OfR b w' vk vr K R := ⟨owns_below h.kr hb, fun p hp => owns_below (h.ke p hp) hb, owns_below h.rr hb, fun p hp => owns_below (h.re p hp) hb⟩
theorem OfR.cell (h : OfR b w vk vr K R) {a : Addr} (ha : a.block < b) (x : Value) : OfR b (w.setCell a x) vk vr K R := ⟨owns_cell_any h.kr ha x, fun p hp => owns_cell_any (h.ke p hp) ha x, owns_cell_any h.rr ha x, fun p hp => owns_cell_any (h.re p hp) ha x⟩
theorem OfR.cells (h : OfR b w vk vr K R) {g : Nat} (hg : g < b) (o : Nat) (vs : List Value) : OfR b (w.setCells g o vs) vk vr K R := ⟨owns_cells hg vs o w h.kr, fun p hp => owns_cells hg vs o w (h.ke p hp), owns_cells hg vs o w h.rr, fun p hp => owns_cells hg vs o w (h.re p hp)⟩
theorem OfR.addK {w2 : World} {o : Obj} {v v' : Value} {l : List Int} (h : OfR b w vk vr K R) (hv : w.ownsRow b 3 1 v l.length (l.map (Value.int .i64))) (hown : w2.ownsRow b 53 1 v' (K.length + 1) (K.map (·.1) ++ [v]))
    (hg : (w.alloc o).grownBy w2 vk.ownBlock) : OfR b w2 v' vr (K ++ [(v, l)]) R := by
  refine ⟨by simpa using hown, fun p hp => ?_, (h.rr.alloc o).kept hg (owns_apart h.rr h.kr (by decide)), fun p hp => ((h.re p hp).alloc o).kept hg (owns_apart (h.re p hp) h.kr (by decide))⟩
  rcases List.mem_append.1 hp with hp | hp
  · exact ((h.ke p hp).alloc o).kept hg (owns_apart (h.ke p hp) h.kr (by decide))
  · obtain rfl := List.mem_singleton.1 hp
    exact (hv.alloc o).kept hg (owns_apart hv h.kr (by decide))
theorem OfR.addR {w2 : World} {o : Obj} {v v' : Value} {l : List (Int × Int)} (h : OfR b w vk vr K R) (hv : w.ownsRow b 51 2 v l.length (frV l)) (hown : w2.ownsRow b 49 1 v' (R.length + 1) (R.map (·.1) ++ [v]))
    (hg : (w.alloc o).grownBy w2 vr.ownBlock) : OfR b w2 vk v' K (R ++ [(v, l)]) := by
  refine ⟨(h.kr.alloc o).kept hg (owns_apart h.kr h.rr (by decide)), fun p hp => ((h.ke p hp).alloc o).kept hg (owns_apart (h.ke p hp) h.rr (by decide)), by simpa using hown, fun p hp => ?_⟩
  rcases List.mem_append.1 hp with hp | hp
  · exact ((h.re p hp).alloc o).kept hg (owns_apart (h.re p hp) h.rr (by decide))
  · obtain rfl := List.mem_singleton.1 hp
    exact (hv.alloc o).kept hg (owns_apart hv h.rr (by decide))
theorem OfR.rws (h : OfR b w vk vr K R) : Rws w vk K := ⟨Row.of_owns h.kr, fun p hp => Ints.of_owns (h.ke p hp)⟩
theorem OfR.frws (h : OfR b w vk vr K R) : FRws w vr R := ⟨Row.of_owns h.rr, fun p hp => Row.of_owns (h.re p hp)⟩
end
/-- What each transaction writes to, what it reads of others, and whether it reads what it may. -/
def keysOf (l : List OpV) : List Int := (refWrites l).map OpV.key
def readsOf (h : List TxnV) (i : Nat) : List (Int × Int) := rdFr (wrTo h h.length) (i : Int) (refReads (opsAt h i))
def soundOf (h : List TxnV) (i : Nat) : Bool := !(refReads (opsAt h i)).any (badFr (wrTo h h.length) (i : Int)) && steadyL (opsAt h i)
def keysTo (h : List TxnV) (k : Nat) : List (List Int) := (List.range k).map fun i => keysOf (opsAt h i)
def readsTo (h : List TxnV) (k : Nat) : List (List (Int × Int)) := (List.range k).map (readsOf h)
def soundTo (h : List TxnV) (k : Nat) : Bool := (List.range k).all (soundOf h)
theorem keysTo_succ (h : List TxnV) (k : Nat) : keysTo h (k + 1) = keysTo h k ++ [keysOf (opsAt h k)] := by simp [keysTo, List.range_succ]
theorem readsTo_succ (h : List TxnV) (k : Nat) : readsTo h (k + 1) = readsTo h k ++ [readsOf h k] := by simp [readsTo, List.range_succ]
theorem soundTo_succ (h : List TxnV) (k : Nat) : soundTo h (k + 1) = (soundTo h k && soundOf h k) := by simp [soundTo, List.range_succ]
/-- Of a history that may be. -/
theorem check_zero {h : List TxnV} (hc : checkI h = 0) : h.length ≤ 64 ∧ opsN h ≤ 1024 ∧ okW h = true ∧ ∀ t ∈ h, keysIn t.l := by
  unfold checkI at hc
  by_cases hb : 64 < h.length ∨ 1024 < opsN h
  · rw [if_pos hb] at hc; omega
  · rw [if_neg hb] at hc
    cases hr : rightB h
    · rw [hr] at hc; simp at hc
    · unfold rightB valuesB at hr
      simp only [Bool.and_eq_true] at hr
      exact ⟨by omega, by omega, hr.2.1.1, parts_keys hr.1⟩
end Go.Proofs.Ytfekcmhjdjifgaa

namespace Go.Proofs.Ytfekcmhjdjifgaa
set_option maxRecDepth 100000
open Go.RowKit

/-- Of whom a value is read, and what is read of others, as the reference says it. -/
def fromR (h : List TxnV) (o : OpV) : Int := if o.val = 0 then -1 else wrI o.key o.val h
def rdR (h : List TxnV) (i : Int) (l : List OpV) : List (Int × Int) := (l.filter fun o => fromR h o != i).map fun o => (o.key, fromR h o)
theorem rdR_snoc (h : List TxnV) (i : Int) (l : List OpV) (k : Nat) (hk : k < l.length) : rdR h i (l.take (k + 1)) = rdR h i (l.take k) ++ (if fromR h l[k] = i then [] else [(l[k].key, fromR h l[k])]) := by
  unfold rdR
  rw [List.take_succ_eq_append_getElem hk, List.filter_append, List.map_append]
  by_cases e : fromR h l[k] = i <;> simp [e]
theorem rdR_len (h : List TxnV) (i : Int) (l : List OpV) : (rdR h i l).length ≤ l.length := by
  unfold rdR; rw [List.length_map]; exact List.length_filter_le _ _
theorem refReads_len (l : List OpV) : (refReads l).length ≤ 64 := upTo_len (rdK l) 64
theorem infoRR : (Try.prog.info? 52).map (fun i => (i.zero, i.size, i.bytes)) = some (some (.agg #[.int .i64 0, .int .i64 0]), 2, 16) := by kernel_rfl
set_option maxHeartbeats 8000000 in
theorem rreads8_any (va : Value) (h : List TxnV) (i : Nat) (hi : i < h.length) (w : World) (hT : Txns w va h) :
    Calls Try.prog 20 #[va, .int .i64 i] w fun e w' => ∃ v, e = .returned v ∧ w'.ownsRow w.heap.size 52 2 v (rdR h i (refReads h[i].l)).length (frV (rdR h i (refReads h[i].l))) ∧ Below w.heap.size w w' := by
  obtain ⟨i0, hi0, hz0, hz1, hz2⟩ := info_parts infoRR
  obtain ⟨ao, cap, rfl, hal⟩ := hT.form
  have hb0 := box_below w (.cells #[] 52)
  have hO0 : World.ownsRow (w.alloc (.cells #[] 52)) w.heap.size 52 2 (.slice (some ⟨w.heap.size, 0, none⟩) 0 0) 0 [] := World.ownsRow_lit (base := w.heap.size) (size := 2) w #[] 0 (Nat.le_refl _) (by decide) rfl
  obtain ⟨g, o, hao, c0, c1, c2, c3⟩ := (hT.below hb0).at hi
  cases hao
  have hii : (i : Int) < (h.length : Int) := by omega
  have CR := Lib.hid (rreads_any h[i].v h[i].l _ ((hT.below hb0).ops hi))
  have HT := Lib.hid (fun wx (hx : Below w.heap.size w wx) => hT.below hx)
  have HL := Lib.hid (refReads_len h[i].l)
  clear hT c0 c1 c2
  generalize h[i].v = vi at *
  generalize refReads h[i].l = L at *
  go_enter Try.func20, Try.ntmps20
  go_wp2_with fail
  refine (CR.out).mono ?_
  rintro e w1 ⟨v1, rfl, hO1, hb1⟩
  have hb2 := below_then hb0 hb1
  have hO2 := owns_below hO0 hb1
  have hL := hO1.ops
  obtain ⟨a1, cap1, rfl, _⟩ := hL.form
  have hL1 : Own w1 w.heap.size _ L := own_base' hO1 (by simp)
  clear CR hO0 hO1 hb0 hb1 c3
  go_wp2_with fail
  go_loopw [5, 7] (fun v j wr => ∃ k : Nat, k ≤ L.length ∧ j = .int .i64 k ∧ wr.ownsRow w.heap.size 52 2 v (rdR h i (L.take k)).length (frV (rdR h i (L.take k))) ∧ Below w.heap.size w wr ∧ Own wr w.heap.size (.slice a1 L.length cap1) L)
    (fun _ j _ => L.length - (intOf j).toNat)
  case atStart => exact ⟨0, by omega, rfl, hO2, hb2, hL1⟩
  case round =>
    obtain ⟨k, hk, rfl, hown, hb, hLo⟩ := hrel
    by_cases hlt : k < L.length
    · have hki : (k : Int) < (L.length : Int) := by omega
      obtain ⟨g1, o1, hao, d0, d1, d2⟩ := hLo.ops.at hlt
      cases hao
      have HS := Lib.hid (rdR_snoc h i L k hlt)
      have hkl : (rdR h i (L.take k)).length ≤ 64 := Nat.le_trans (rdR_len _ _ _) (by rw [List.length_take]; have := HL.out; omega)
      have HF := Lib.hid (show fromR h L[k] = if L[k].val = 0 then -1 else wrI L[k].key L[k].val h from rfl)
      generalize fromR h L[k] = f at *
      generalize hkey : L[k].key = y at *
      generalize L[k].val = z at *
      have hsz := hb.size
      by_cases hz : z = 0
      · have hf := HF.out
        rw [if_pos hz] at hf
        subst hz
        subst hf
        clear HF
        by_cases hfi : (-1) = (i : Int)
        · omega
        · rw [if_neg hfi] at HS
          go_wp2_with (first | (at_builtin; refine wpList_append_own _ rfl _ _ 47 rfl w.heap.size 52 i0 (.agg #[.int .i64 0, .int .i64 0]) 2 16 Try.underlying47 hi0 hz0 hz1 hz2 rfl (by decide) _ _ _ rfl (World.ownsRow.alloc hown _) ⟨_, 0, none⟩ 1 1 [.int .i64 y, .int .i64 (-1)] rfl rfl ?c1 ?c2 ?c3 ?c4 ?c5 ?_) | go_in)
          case c1 => exact lit_two _ _ _ _
          case c2 => intro u hu; simp at hu; rcases hu with rfl | rfl <;> rfl
          case c3 => unfold maxLen; omega
          case c4 => omega
          case c5 => simp; omega
          intro v' w5 hown' hgrow _
          have hb' := below_app hb (Nat.le_refl _) hown hgrow
          have hL' : Own w5 w.heap.size (.slice (some ⟨g1, o1, none⟩) L.length cap1) L := World.ownsRow.kept (World.ownsRow.alloc hLo _) hgrow (owns_apart hLo hown (by decide))
          clear hgrow
          go_wp2_with fail
          go_roundw
          case rel =>
            refine ⟨k + 1, by omega, by go_num, ?_, hb', hL'⟩
            rw [HS.out, frV_app, List.length_append]
            exact hown'
          case measure => simp [intOf]; omega
      · have hf := HF.out
        rw [if_neg hz] at hf
        clear HF
        have CW := Lib.hid (fun wx (hx : Below w.heap.size w wx) => writer_any _ h y z wx (HT.out _ hx))
        rw [← hf] at CW
        clear hf
        have hlo := block_lt d1
        simp only at hlo
        go_wp2_with fail
        have kk := Below.refl wr.heap.size wr
        go_region_held3 (fun w' => w'.cell? ⟨g1, o1 + k * 3 + 1, none⟩ = some (.int .i64 y) ∧ w'.cell? ⟨g1, o1 + k * 3 + 2, none⟩ = some (.int .i64 z))
          (go_keep)
          (first
            | (go_at_call 49; refine (CW.out _ (below_then hb (by first | exact kk | exact kk.drew | exact below_drewN kk _))).mono ?_; rintro e wx ⟨rfl, hbx⟩; have kk : Below wr.heap.size wr wx := (by first | exact below_then kk hbx | exact below_then kk ⟨hbx.os, hbx.tape, hbx.output, hbx.size, hbx.block⟩); have d1 := (kk.cell (p := ⟨g1, o1 + k * 3 + 1, none⟩) hlo).trans d1; have d2 := (kk.cell (p := ⟨g1, o1 + k * 3 + 2, none⟩) hlo).trans d2))
        have hb4 := below_then hb kk
        have hown4 := owns_below hown kk
        have hL4 := Own.below hLo kk
        have hsz4 := hb4.size
        clear CW hbx hb hown hLo
        by_cases hfi : f = (i : Int)
        · rw [if_pos hfi, List.append_nil] at HS
          subst hfi
          go_wp2_with fail
          go_roundw
          case rel => exact ⟨k + 1, by omega, by go_num, by rw [HS.out]; exact hown4, hb4, hL4⟩
          case measure => simp [intOf]; omega
        · rw [if_neg hfi] at HS
          go_wp2_with (first | (at_builtin; refine wpList_append_own _ rfl _ _ 47 rfl w.heap.size 52 i0 (.agg #[.int .i64 0, .int .i64 0]) 2 16 Try.underlying47 hi0 hz0 hz1 hz2 rfl (by decide) _ _ _ rfl (World.ownsRow.alloc hown4 _) ⟨_, 0, none⟩ 1 1 [.int .i64 y, .int .i64 f] rfl rfl ?c1 ?c2 ?c3 ?c4 ?c5 ?_) | go_in)
          case c1 => exact lit_two _ _ _ _
          case c2 => intro u hu; simp at hu; rcases hu with rfl | rfl <;> rfl
          case c3 => unfold maxLen; omega
          case c4 => omega
          case c5 => simp; omega
          intro v' w5 hown' hgrow _
          have hb' := below_app hb4 (Nat.le_refl _) hown4 hgrow
          have hL' : Own w5 w.heap.size (.slice (some ⟨g1, o1, none⟩) L.length cap1) L := World.ownsRow.kept (World.ownsRow.alloc hL4 _) hgrow (owns_apart hL4 hown4 (by decide))
          clear hgrow
          go_wp2_with fail
          go_roundw
          case rel =>
            refine ⟨k + 1, by omega, by go_num, ?_, hb', hL'⟩
            rw [HS.out, frV_app, List.length_append]
            exact hown'
          case measure => simp [intOf]; omega
    · have hk2 : k = L.length := by omega
      subst hk2
      rw [List.take_length] at hown
      go_wp2_with fail
      go_ret
      exact ⟨_, rfl, hown, hb⟩
end Go.Proofs.Ytfekcmhjdjifgaa

namespace Go.Proofs.Ytfekcmhjdjifgaa
set_option maxRecDepth 100000
open Go.RowKit

/-- Does k read of i, as the reference says it? -/
def froR (h : List TxnV) (i k : Nat) : Bool := (rdR h k (refReads (opsAt h k))).any fun r => decide (r.2 = (i : Int))
set_option maxHeartbeats 8000000 in
theorem rfrom8_any (va : Value) (h : List TxnV) (i k : Nat) (hk : k < h.length) (w : World) (hT : Txns w va h) :
    Calls Try.prog 15 #[va, .int .i64 i, .int .i64 k] w fun e w' => e = .returned (.bool (froR h i k)) ∧ Below w.heap.size w w' := by
  have CR := Lib.hid (rreads8_any va h k hk w hT)
  have HF : Hid (froR h i k = (rdR h k (refReads h[k].l)).any fun r => decide (r.2 = (i : Int))) := Lib.hid (by
    unfold froR opsAt
    rw [List.getElem?_eq_getElem hk]; rfl)
  obtain ⟨ao, cap, rfl, hal⟩ := hT.form
  clear hT
  generalize rdR h k (refReads h[k].l) = L at *
  generalize froR h i k = q at *
  go_enter Try.func15, Try.ntmps15
  go_wp2_with fail
  refine (CR.out).mono ?_
  rintro e w1 ⟨v, rfl, hO, hb⟩
  have hL : Frs w1 v L := Row.of_owns hO
  obtain ⟨a1, cap1, rfl, hll⟩ := hL.form
  clear CR hO
  go_wp2_with fail
  go_loopw [8] (fun j wr => ∃ n : Nat, n ≤ L.length ∧ j = .int .i64 n ∧ (L.take n).any (fun r => decide (r.2 = (i : Int))) = false ∧ Below w.heap.size w wr ∧ Below w1.heap.size w1 wr)
    (fun j _ => L.length - (intOf j).toNat)
  case atStart => exact ⟨0, by omega, rfl, rfl, hb, Below.refl _ _⟩
  case round =>
    obtain ⟨n, hn, rfl, hno, hbw, hb1⟩ := hrel
    by_cases hlt : n < L.length
    · have hni : (n : Int) < (L.length : Int) := by omega
      obtain ⟨g1, o1, hao, d0, d1⟩ := (hL.below hb1).at hlt
      cases hao
      have HN := Lib.hid (show (L.take (n + 1)).any (fun r => decide (r.2 = (i : Int))) = decide (L[n].2 = (i : Int)) by
        rw [List.take_succ_eq_append_getElem hlt, List.any_append, hno]; simp)
      have HH := Lib.hid (show decide (L[n].2 = (i : Int)) = true → (L.any fun r => decide (r.2 = (i : Int))) = true from fun h => List.any_eq_true.2 ⟨_, List.getElem_mem hlt, h⟩)
      generalize L[n].2 = f at *
      by_cases hf : f = (i : Int)
      · have HQ : Hid (true = q) := Lib.hid (by rw [HF.out]; exact (HH.out (decide_eq_true hf)).symm)
        subst hf
        clear HN HH HF
        go_wp2_with fail
        go_ret
        exact ⟨ret_b HQ.out, hbw⟩
      · have hno2 : Hid ((L.take (n + 1)).any (fun r => decide (r.2 = (i : Int))) = false) := Lib.hid (by rw [HN.out]; exact decide_eq_false hf)
        clear HN HH
        go_wp2_with fail
        go_roundw
        case rel => exact ⟨n + 1, by omega, by go_num, hno2.out, hbw, hb1⟩
        case measure => simp [intOf]; omega
    · have hn2 : n = L.length := by omega
      subst hn2
      rw [List.take_length] at hno
      have HQ : Hid (false = q) := Lib.hid (by rw [HF.out]; exact hno.symm)
      clear HF
      go_wp2_with fail
      go_ret
      exact ⟨ret_b HQ.out, hbw⟩
end Go.Proofs.Ytfekcmhjdjifgaa

namespace Go.Proofs.Ytfekcmhjdjifgaa
set_option maxRecDepth 100000
open Go.RowKit

/-- A row of transactions that a call made: the row, and each one's operations, apart. -/
def OwnH (w : World) (b0 : Nat) (v : Value) (c : List TxnV) : Prop := OwnT w b0 v c ∧ (∀ t ∈ c, Own w b0 t.v t.l) ∧ c.Pairwise ApartT
section
variable {w w' : World} {b0 base : Nat} {v v' u : Value} {c : List TxnV}
theorem OwnH.below (h : OwnH w b0 v c) (hb : Below w.heap.size w w') : OwnH w' b0 v c := ⟨h.1.below hb, fun t ht => (h.2.1 t ht).below hb, h.2.2⟩
theorem OwnH.nil (w : World) (b0 : Nat) : OwnH w b0 (.slice none 0 0) [] := ⟨⟨rfl, .inl ⟨rfl, rfl⟩⟩, by simp, List.Pairwise.nil⟩
theorem OwnH.txns (h : OwnH w b0 v c) : Txns w v c := ⟨h.1.row, fun t ht => (h.2.1 t ht).ops⟩
theorem ownH_apart {b1 : Nat} {l : List OpV} (h : OwnT w b0 v c) (k : Own w b1 u l) : u.ownBlock = none ∨ u.ownBlock ≠ v.ownBlock := owns_apart k h (by decide)
theorem OwnH.add {s b d : Int} {l : List OpV} (h : OwnH w b0 v c) (hu : Own w base u l) (hlt : ∀ t ∈ c, ∀ g, t.v.ownBlock = some g → g < base) (hb : b0 ≤ base) (hO : OwnT w' b0 v' (c ++ [⟨s, b, d, u, l⟩])) (hg : w.grownBy w' v.ownBlock) : OwnH w' b0 v' (c ++ [⟨s, b, d, u, l⟩]) := by
  refine ⟨hO, fun t ht => ?_, ?_⟩
  · rcases List.mem_append.1 ht with ht | ht
    · exact World.ownsRow.kept (h.2.1 t ht) hg (ownH_apart h.1 (h.2.1 t ht))
    · obtain rfl := List.mem_singleton.1 ht
      exact World.ownsRow.kept (hu.base hb) hg (ownH_apart h.1 hu)
  · rw [List.pairwise_append]
    refine ⟨h.2.2, List.pairwise_singleton _ _, fun t ht x hx => ?_⟩
    obtain rfl := List.mem_singleton.1 hx
    intro g h1 h2
    have q1 := hlt t ht g h1
    have q2 := (World.ownsRow.lt hu g h2).1
    omega
theorem OwnH.lt (h : OwnH w b0 v c) : ∀ t ∈ c, ∀ g, t.v.ownBlock = some g → g < w.heap.size := fun t ht g hg => (World.ownsRow.lt (h.2.1 t ht) g hg).2
end
/-- What is left of such a row from number k on. -/
def OwnN (w : World) (gv b0 k : Nat) (D : List TxnV) : Prop := ∀ j (hj : j < D.length), k ≤ j → (∀ i, i < 4 → w.cell? ⟨gv, j * 4 + i, none⟩ = (txV D)[j * 4 + i]? ∧ w.frozen? ⟨gv, j * 4 + i, none⟩ = false) ∧ Own w b0 D[j].v D[j].l
section
variable {w w' : World} {gv b0 k : Nat} {D : List TxnV}
theorem OwnN.first {cap : Nat} (h : OwnH w b0 (.slice (some ⟨gv, 0, none⟩) D.length cap) D) : OwnN w gv b0 0 D := fun j hj _ => ⟨fun i hi => h.1.at (by omega), h.2.1 _ (List.getElem_mem hj)⟩
theorem OwnN.below (h : OwnN w gv b0 k D) (hb : Below w.heap.size w w') : OwnN w' gv b0 k D := fun j hj hk => ⟨fun i hi => by
  obtain ⟨q0, _⟩ := txV_at D j hj
  have hl := block_lt (((h j hj hk).1 0 (by omega)).1.trans q0)
  rw [hb.cell (p := ⟨gv, j * 4 + i, none⟩) hl, hb.frozen (p := ⟨gv, j * 4 + i, none⟩) hl]; exact (h j hj hk).1 i hi, (h j hj hk).2.below hb⟩
theorem OwnN.step {g2 o : Nat} {x y : Value} (h : OwnN w gv b0 k D) (hk : k < D.length) (hp : D.Pairwise ApartT) (hv : D[k].v.ownBlock = some g2) (hne : ∀ t ∈ D, t.v.ownBlock ≠ some gv) :
    OwnN ((w.setCell ⟨gv, k * 4, none⟩ x).setCell ⟨g2, o, none⟩ y) gv b0 (k + 1) D := by
  intro j hj hkj
  obtain ⟨h1, h2⟩ := h j hj (by omega)
  have e : g2 ≠ gv := fun e => hne D[k] (List.getElem_mem hk) (by rw [hv, e])
  refine ⟨fun i hi => ?_, ?_⟩
  · rw [World.frozen?_setCell, World.frozen?_setCell, World.cell?_setCell_other _ _ _ _ (fun q => by injection q with q1 q2; exact e q1), World.cell?_setCell_other _ _ _ _ (fun q => by injection q with q1 q2; omega)]
    exact h1 i hi
  · have k1 := World.ownsRow.kept h2 (grown_setC w ⟨gv, k * 4, none⟩ x) (.inr (hne _ (List.getElem_mem hj)))
    have hb := apart_at hp hk hj (by omega)
    rw [hv] at hb
    exact World.ownsRow.kept k1 (grown_setC _ ⟨g2, o, none⟩ y) hb
theorem OwnN.cells (h : OwnN w gv b0 k D) (hk : k < D.length) : (w.cell? ⟨gv, k * 4, none⟩ = some (.int .i64 D[k].s) ∧ w.frozen? ⟨gv, k * 4, none⟩ = false) ∧ w.cell? ⟨gv, k * 4 + 1, none⟩ = some (.int .i64 D[k].b) ∧ w.cell? ⟨gv, k * 4 + 2, none⟩ = some (.int .i64 D[k].c) ∧ w.cell? ⟨gv, k * 4 + 3, none⟩ = some D[k].v := by
  obtain ⟨q0, q1, q2, q3⟩ := txV_at D k hk
  obtain ⟨h1, _⟩ := h k hk (Nat.le_refl _)
  exact ⟨⟨(h1 0 (by omega)).1.trans q0, (h1 0 (by omega)).2⟩, (h1 1 (by omega)).1.trans q1, (h1 2 (by omega)).1.trans q2, (h1 3 (by omega)).1.trans q3⟩
end
theorem Own.head {w : World} {base : Nat} {v : Value} {x : OpV} {r : List OpV} (h : Own w base v (x :: r)) : ∃ g cap, v = .slice (some ⟨g, 0, none⟩) (r.length + 1) cap ∧ w.cell? ⟨g, 1, none⟩ = some (.int .i64 x.key) ∧ w.frozen? ⟨g, 1, none⟩ = false ∧ base ≤ g ∧ g < w.heap.size := by
  have hr := Row.of_owns h
  have hl := World.ownsRow.lt h
  obtain ⟨h1, h2⟩ := h
  rcases h2 with ⟨_, e⟩ | ⟨g, cap, cur, e1, e2, hb, _⟩
  · cases e
  subst e1
  obtain ⟨_, ao, cap', e, _, _, hc⟩ := hr
  cases e
  obtain ⟨b, off, e, hcell⟩ := hc (by simp)
  cases e
  refine ⟨g, cap, rfl, ?_, by simp [World.frozen?, hb], (hl g rfl).1, (hl g rfl).2⟩
  have := hcell 1 (by simp; omega)
  simpa [opV] using this
theorem txE_mem {c h : List TxnV} (e : c.map txE = h.map txE) {t : TxnV} (ht : t ∈ c) : ∃ u ∈ h, txE u = txE t := by
  have : txE t ∈ h.map txE := by rw [← e]; exact List.mem_map.2 ⟨t, ht, rfl⟩
  obtain ⟨u, hu, h2⟩ := List.mem_map.1 this
  exact ⟨u, hu, h2⟩
theorem txE_at {c h : List TxnV} (e : c.map txE = h.map txE) {k : Nat} (hc : k < c.length) (hh : k < h.length) : c[k].s = h[k].s ∧ c[k].b = h[k].b ∧ c[k].c = h[k].c ∧ c[k].l = h[k].l := by
  have := congrArg (·[k]?) e
  simp only [List.getElem?_map, List.getElem?_eq_getElem hc, List.getElem?_eq_getElem hh, Option.map_some] at this
  have := Option.some.inj this
  unfold txE at this
  simp only [Prod.mk.injEq] at this
  exact this
theorem ok_txE {c h : List TxnV} (e : c.map txE = h.map txE) (hok : ∀ t ∈ h, t.ok) : ∀ t ∈ c, t.ok := fun t ht => by
  obtain ⟨u, hu, h2⟩ := txE_mem e ht
  have h3 := hok u hu
  unfold txE at h2
  simp only [Prod.mk.injEq] at h2
  obtain ⟨q1, q2, q3, q4⟩ := h2
  unfold TxnV.ok at *
  rw [← q1, ← q2, ← q3, ← q4]; exact h3
theorem short_txE {c h : List TxnV} (e : c.map txE = h.map txE) (hs : Short h) : Short c := fun t ht => by
  obtain ⟨u, hu, h2⟩ := txE_mem e ht
  have h3 := hs u hu
  unfold txE at h2
  simp only [Prod.mk.injEq] at h2
  rw [← h2.2.2.2]; exact h3
theorem wrI_txE {c h : List TxnV} (e : c.map txE = h.map txE) (key x : Int) : wrI key x c = wrI key x h := by
  have k : ∀ l : List TxnV, l.findIdx? (fun t => t.l.any (isWr key x)) = (l.map txE).findIdx? (fun q => q.2.2.2.any (isWr key x)) := fun l => by rw [List.findIdx?_map]; rfl
  unfold wrI
  rw [k c, k h, e]
theorem opsAt_txE {c h : List TxnV} (e : c.map txE = h.map txE) (k : Nat) : opsAt c k = opsAt h k := by rw [← opsAt_z c, ← opsAt_z h, zT_of e]
theorem froR_txE {c h : List TxnV} (e : c.map txE = h.map txE) (i k : Nat) : froR c i k = froR h i k := by
  have hf : ∀ o, fromR c o = fromR h o := fun o => by unfold fromR; rw [wrI_txE e]
  unfold froR rdR
  rw [opsAt_txE e]
  simp only [hf]
end Go.Proofs.Ytfekcmhjdjifgaa

namespace Go.Proofs.Ytfekcmhjdjifgaa
set_option maxRecDepth 100000
open Go.RowKit

set_option maxHeartbeats 4000000 in
theorem oftime_any (va : Value) (h : List TxnV) (p a b : Nat) (w : World) (hp : w.cell? ⟨p, 0, none⟩ = some va) (hT : Txns w va h) (ha : a < h.length) (hb : b < h.length) :
    Calls Try.prog 35 #[.int .i64 a, .int .i64 b, .pointer (some ⟨p, 0, none⟩)] w fun e w' => e = .returned (.bool (decide (h[a].c < h[b].b))) ∧ Below w.heap.size w w' := by
  obtain ⟨ao, cap, rfl, hal⟩ := hT.form
  obtain ⟨g, o, hao, c0, c1, c2, c3⟩ := hT.at ha
  cases hao
  obtain ⟨g', o', hao, d0, d1, d2, d3⟩ := hT.at hb
  cases hao
  have hai : (a : Int) < (h.length : Int) := by omega
  have hbi : (b : Int) < (h.length : Int) := by omega
  generalize h[a].c = x at *
  generalize h[b].b = y at *
  clear c0 c1 c3 d0 d2 d3 hT
  go_enter Try.func35, Try.ntmps35
  go_wp2_with fail
  go_quiet (fail)
  go_wp2_with fail
  go_ret
  exact ⟨rfl, below_drewN (Below.refl _ _) _⟩
set_option maxHeartbeats 4000000 in
theorem ofsession_any (va : Value) (h : List TxnV) (p a b : Nat) (w : World) (hp : w.cell? ⟨p, 0, none⟩ = some va) (hT : Txns w va h) (ha : a < h.length) (hb : b < h.length) :
    Calls Try.prog 34 #[.int .i64 a, .int .i64 b, .pointer (some ⟨p, 0, none⟩)] w fun e w' => e = .returned (.bool (decide (a < b) && decide (h[a].s = h[b].s))) ∧ Below w.heap.size w w' := by
  obtain ⟨ao, cap, rfl, hal⟩ := hT.form
  obtain ⟨g, o, hao, c0, c1, c2, c3⟩ := hT.at ha
  cases hao
  obtain ⟨g', o', hao, d0, d1, d2, d3⟩ := hT.at hb
  cases hao
  have hai : (a : Int) < (h.length : Int) := by omega
  have hbi : (b : Int) < (h.length : Int) := by omega
  generalize h[a].s = x at *
  generalize h[b].s = y at *
  clear c1 c2 c3 d1 d2 d3 hT
  by_cases hab : a < b
  · have H : Hid ((decide (a < b) && decide (x = y)) = decide (x = y)) := Lib.hid (by rw [decide_eq_true hab]; rfl)
    have habi : (a : Int) < (b : Int) := by omega
    rw [H.out]
    clear hab H
    go_enter Try.func34, Try.ntmps34
    go_wp2_with fail
    go_quiet (fail)
    go_wp2_with fail
    go_ret
    exact ⟨rfl, below_drewN (Below.refl _ _) _⟩
  · have H : Hid ((decide (a < b) && decide (x = y)) = false) := Lib.hid (by rw [decide_eq_false hab]; rfl)
    have habi : ¬ (a : Int) < (b : Int) := by omega
    have hd : decide ((a : Int) < (b : Int)) = false := decide_eq_false habi
    have hle : (b : Int) ≤ (a : Int) := by omega
    have hdn : decide (a < b) = false := decide_eq_false hab
    rw [H.out]
    clear H
    go_enter Try.func34, Try.ntmps34
    go_wp2_with fail
    go_quiet (fail)
    go_wp2_with fail
    go_ret
    exact ⟨rfl, below_drewN (Below.refl _ _) _⟩
end Go.Proofs.Ytfekcmhjdjifgaa
