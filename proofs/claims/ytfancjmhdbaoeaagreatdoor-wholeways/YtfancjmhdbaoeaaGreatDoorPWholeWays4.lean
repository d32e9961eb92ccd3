/- Walks and plain facts that the proof of the statement WholeWays uses, joined: HisM HisN HisO OpQ TxnI TxnJ TxnK HisP OrdR OrdS OrdX HisQ HisR OrdV OrdZ OrdAC LeaD RelS RelT. Conditions: each theorem's own. -/
import Derived.Laws.StructEq
import Derived.Deep.RegionHeld3
import Derived.Deep.CutRange
import Derived.Deep.AppendLies
import Derived.Test.YtfancjmhdbaoeaaGreatDoorPWholeWays0
import Derived.Test.YtfancjmhdbaoeaaGreatDoorPWholeWays1
import Derived.Test.YtfancjmhdbaoeaaGreatDoorPWholeWays3
namespace Go.Proofs.YtfancjmhdbaoeaaGreatDoor
set_option maxRecDepth 100000
open Go.RowKit

set_option maxHeartbeats 4000000 in
theorem rcheck_any (va : Value) (h : List TxnV) (w : World) (hT : Txns w va h) (hsh : Short h) :
    Calls Tryz.prog 17 #[va] w fun e w' => e = .returned (.int .i64 (checkR h)) ∧ Below w.heap.size w w' := by
  obtain ⟨ao, cap, rfl, hal⟩ := hT.form
  by_cases hbig : 64 < h.length
  · have hbig' : (64 : Int) < (h.length : Int) := by omega
    have H : Hid ((3 : Int) = checkR h) := Lib.hid (by unfold checkR; rw [if_pos (.inl hbig)])
    go_enter Tryz.func17, Tryz.ntmps17
    go_wp2_with fail
    go_ret
    exact ⟨ret_int H.out, Below.refl _ _⟩
  have hbf : decide ((64 : Int) < (h.length : Int)) = false := by simp; omega
  have hle := opsN_short h hsh
  have CO := Lib.hid (count_any _ h w hT (by omega))
  have HT := Lib.hid (fun wx (hx : Below w.heap.size w wx) => hT.below hx)
  clear hT hsh
  go_enter Tryz.func17, Tryz.ntmps17
  go_wp2_with fail
  refine (CO.out).mono ?_
  rintro e w1 ⟨rfl, hb1⟩
  clear CO
  by_cases hov : 1024 < opsN h
  · have hov' : (1024 : Int) < (opsN h : Int) := by omega
    have H : Hid ((3 : Int) = checkR h) := Lib.hid (by unfold checkR; rw [if_pos (.inr hov)])
    go_wp2_with fail
    go_ret
    exact ⟨ret_int H.out, hb1⟩
  have hov' : decide ((1024 : Int) < (opsN h : Int)) = false := by simp; omega
  have HCK : Hid (checkR h = if mayRef h then 0 else 2) := Lib.hid (by unfold checkR; rw [if_neg (by omega)])
  have CM := Lib.hid (rmay_any _ h w1 (HT.out _ hb1) (by omega))
  generalize mayRef h = q at *
  go_wp2_with fail
  refine (CM.out).mono ?_
  rintro e w2 ⟨rfl, hb2⟩
  have hb3 := below_then hb1 hb2
  clear CM
  cases q
  · have H : Hid ((2 : Int) = checkR h) := Lib.hid (by rw [HCK.out]; rfl)
    go_wp2_with fail
    go_ret
    exact ⟨ret_int H.out, hb3⟩
  · have H : Hid ((0 : Int) = checkR h) := Lib.hid (by rw [HCK.out]; rfl)
    go_wp2_with fail
    go_ret
    exact ⟨ret_int H.out, hb3⟩
theorem Row.take {w : World} {ao : Option Addr} {n size cap : Nat} {cs : List Value} (h : Row w (.slice ao n cap) n size cs) {k : Nat} (hk : k ≤ n) : Row w (.slice ao k cap) k size (cs.take (k * size)) := by
  obtain ⟨hl, ao', cap', he, hm, hno, hc⟩ := h
  obtain ⟨rfl, rfl⟩ : ao = ao' ∧ cap = cap' := by simpa using he
  have hks : k * size ≤ n * size := Nat.mul_le_mul_right _ hk
  refine ⟨by rw [List.length_take]; omega, ao, cap, rfl, ⟨by omega, hm.2⟩, fun h0 => ⟨by have := hno h0; omega, (hno h0).2⟩, fun h0 => ?_⟩
  obtain ⟨b, off, hb, hcell⟩ := hc (by omega)
  exact ⟨b, off, hb, fun i hi => by rw [hcell i (by omega), List.getElem?_take, if_pos hi]⟩
theorem txV_take : ∀ (h : List TxnV) (k : Nat), txV (h.take k) = (txV h).take (k * 4)
  | [], _ => by simp [txV]
  | t :: h, 0 => by simp [txV]
  | t :: h, k + 1 => by
    have := txV_take h k
    have e : (k + 1) * 4 = k * 4 + 1 + 1 + 1 + 1 := by omega
    unfold txV at this ⊢
    rw [e, List.take_succ_cons, List.flatMap_cons, List.flatMap_cons, this]
    simp
theorem Txns.take {w : World} {ao : Option Addr} {n cap : Nat} {h : List TxnV} (hT : Txns w (.slice ao n cap) h) {k : Nat} (hk : k ≤ h.length) : Txns w (.slice ao k cap) (h.take k) := by
  obtain ⟨hR, hO⟩ := hT
  have hn : n = h.length := by obtain ⟨_, ao', cap', he, _⟩ := hR; simp at he; exact he.2.1
  subst hn
  have hl : (h.take k).length = k := by rw [List.length_take]; omega
  refine ⟨?_, fun t ht => hO t (List.mem_of_mem_take ht)⟩
  rw [hl, txV_take]; exact hR.take hk
end Go.Proofs.YtfancjmhdbaoeaaGreatDoor

namespace Go.Proofs.YtfancjmhdbaoeaaGreatDoor
set_option maxRecDepth 100000
open Go.RowKit

instance : DecidableEq OpV := fun a b => by
  obtain ⟨a1, a2, a3⟩ := a
  obtain ⟨b1, b2, b3⟩ := b
  exact if h : a1 = b1 ∧ a2 = b2 ∧ a3 = b3 then .isTrue (by obtain ⟨rfl, rfl, rfl⟩ := h; rfl) else .isFalse (fun e => by cases e; exact h ⟨rfl, rfl, rfl⟩)
end Go.Proofs.YtfancjmhdbaoeaaGreatDoor

namespace Go.Proofs.YtfancjmhdbaoeaaGreatDoor
set_option maxRecDepth 100000
open Go.RowKit

/-- The place of the last write so far. -/
def LastAt (l : List OpV) (k j : Nat) (i : Int) : Prop := (i = -1 ∧ lastW (l.take j) k = none) ∨ ∃ p : Nat, ∃ h : p < l.length, i = p ∧ lastW (l.take j) k = some l[p]
theorem LastAt.yes {l : List OpV} {k j : Nat} (h : j < l.length) (h1 : l[j].key = k) (h2 : l[j].wr = true) : LastAt l k (j + 1) j :=
  .inr ⟨j, h, rfl, by rw [take_snoc l j h, lastW_snoc, if_pos h2, h1, putF_same]⟩
theorem LastAt.no {l : List OpV} {k j : Nat} {i : Int} (hL : LastAt l k j i) (h : j < l.length) (h1 : ¬ (l[j].key = k ∧ l[j].wr = true)) : LastAt l k (j + 1) i := by
  have e : lastW (l.take (j + 1)) k = lastW (l.take j) k := by
    rw [take_snoc l j h, lastW_snoc]
    cases hw : l[j].wr
    · rfl
    · simp only [if_true]; rw [putF_other]; exact fun e => h1 ⟨e.symm, hw⟩
  unfold LastAt at *
  rw [e]; exact hL
end Go.Proofs.YtfancjmhdbaoeaaGreatDoor

namespace Go.Proofs.YtfancjmhdbaoeaaGreatDoor
set_option maxRecDepth 100000
open Go.RowKit

/-- What a transaction leaves at a key. -/
def vOf (l : List OpV) (k : Int) : Int := (((refWrites l).find? fun o => o.key == k).map (·.val)).getD 0
theorem wv_cons (a : OpV) (l : List OpV) : wv (a :: l) = (if a.wr then [a.val] else []) ++ wv l := by
  unfold wv; cases h : a.wr <;> simp [h]
theorem addF_cons (i : Int) (F : Int → Option WV) (a : OpV) (l : List OpV) : addF i F (a :: l) = addF i (addOne i F a) l := rfl
theorem finF_cons (i : Int) (F : Int → Option WV) (a : OpV) (l : List OpV) : finF i F (a :: l) = finF i (putF F a.val ⟨i, a.key, true⟩) l := rfl
theorem addF_out (i : Int) {x : Int} : ∀ (l : List OpV) (F : Int → Option WV), ¬ x ∈ wv l → addF i F l x = F x
  | [], _, _ => rfl
  | a :: l, F, h => by
    rw [wv_cons] at h
    rw [addF_cons, addF_out i l _ (fun hh => h (List.mem_append_right _ hh))]
    unfold addOne
    cases hw : a.wr
    · rfl
    · simp only [if_true]
      exact putF_other _ _ (fun e => h (by rw [hw, e]; simp))
theorem addF_in (i : Int) {o : OpV} (ho : o.wr = true) : ∀ (l : List OpV) (F : Int → Option WV), (wv l).Nodup → o ∈ l → addF i F l o.val = some ⟨i, o.key, false⟩
  | a :: l, F, hn, hin => by
    rw [wv_cons] at hn
    rw [addF_cons]
    rcases List.mem_cons.1 hin with rfl | h
    · rw [ho] at hn
      simp only [if_true, List.singleton_append, List.nodup_cons] at hn
      rw [addF_out i l _ hn.1]
      unfold addOne
      rw [ho]
      simp only [if_true]
      exact putF_same _ _ _
    · exact addF_in i ho l _ (List.nodup_append.1 hn).2.1 h
theorem finF_out (i : Int) {x : Int} : ∀ (R : List OpV) (F : Int → Option WV), (∀ o ∈ R, o.val ≠ x) → finF i F R x = F x
  | [], _, _ => rfl
  | a :: R, F, h => by
    rw [finF_cons, finF_out i R _ (fun o ho => h o (List.mem_cons_of_mem _ ho))]
    exact putF_other _ _ (fun e => h a List.mem_cons_self e.symm)
theorem finF_in (i : Int) {x k : Int} : ∀ (R : List OpV) (F : Int → Option WV), (∀ o ∈ R, o.val = x → o.key = k) → (∃ o ∈ R, o.val = x) → finF i F R x = some ⟨i, k, true⟩
  | a :: R, F, h, hex => by
    rw [finF_cons]
    by_cases hr : ∃ o ∈ R, o.val = x
    · exact finF_in i R _ (fun o ho => h o (List.mem_cons_of_mem _ ho)) hr
    · have hn : ∀ o ∈ R, o.val ≠ x := fun o ho e => hr ⟨o, ho, e⟩
      obtain ⟨o, ho, e⟩ := hex
      rcases List.mem_cons.1 ho with rfl | h1
      · rw [finF_out i R _ hn, e, putF_same, h _ List.mem_cons_self e]
      · exact (hn o h1 e).elim
theorem wv_inj {l : List OpV} (hn : (wv l).Nodup) {o p : OpV} (ho : o ∈ l) (hp : p ∈ l) (wo : o.wr = true) (wp : p.wr = true) (e : o.val = p.val) : o.key = p.key := by
  have h1 := addF_in 0 wo l (fun _ => none) hn ho
  have h2 := addF_in 0 wp l (fun _ => none) hn hp
  rw [e, h2] at h1
  have := Option.some.inj h1
  exact (congrArg WV.key this).symm
theorem lastW_some (l : List OpV) {o : OpV} (wo : o.wr = true) : ∀ k, k ≤ l.length → o ∈ l.take k → (lastW (l.take k) o.key).isSome = true
  | 0, _, h => by simp at h
  | k + 1, hk, h => by
    have hlt : k < l.length := by omega
    rw [take_snoc l k hlt] at h ⊢
    rw [lastW_snoc]
    cases hw : l[k].wr with
    | false =>
      simp only [Bool.false_eq_true, if_false]
      rcases List.mem_append.1 h with h1 | h1
      · exact lastW_some l wo k (by omega) h1
      · simp at h1; rw [h1, hw] at wo; cases wo
    | true =>
      simp only [if_true]
      by_cases e : o.key = l[k].key
      · rw [e, putF_same]; rfl
      · rw [putF_other _ _ e]
        rcases List.mem_append.1 h with h1 | h1
        · exact lastW_some l wo k (by omega) h1
        · simp at h1; rw [h1] at e; exact (e rfl).elim
/-- What one transaction's turn lays at the value of one of its writes. -/
theorem turn_at (i : Int) (F : Int → Option WV) {l : List OpV} (hk : keysIn l) (hn : (wv l).Nodup) {o : OpV} (ho : o ∈ l) (wo : o.wr = true) :
    finF i (addF i F l) (refWrites l) o.val = some ⟨i, o.key, vOf l o.key == o.val⟩ := by
  have hR := refWrites_rise hk
  have hmem : ∀ p ∈ refWrites l, p ∈ l ∧ p.wr = true := fun p hp => refWrites_mem hp
  have huq : ∀ p ∈ refWrites l, ∀ q ∈ refWrites l, p.key = q.key → p = q := fun p hp q hq e => by
    have h1 := ((hR.2 p).1 hp).1
    have h2 := ((hR.2 q).1 hq).1
    rw [e, h2] at h1
    exact (Option.some.inj h1).symm
  have hex : ∃ p ∈ refWrites l, p.key = o.key := by
    have h1 := lastW_some l wo l.length (Nat.le_refl _) (by rw [List.take_length]; exact ho)
    rw [List.take_length] at h1
    obtain ⟨p, hp⟩ := Option.isSome_iff_exists.1 h1
    have h2 := lastW_key hp
    exact ⟨p, (hR.2 p).2 ⟨by rw [h2.1]; exact hp, h2.2.1⟩, h2.1⟩
  obtain ⟨p, hp, hpk⟩ := hex
  have hv : vOf l o.key = p.val := by
    unfold vOf
    cases hf : (refWrites l).find? (fun q => q.key == o.key) with
    | none => have := List.find?_eq_none.1 hf p hp; simp [hpk] at this
    | some q =>
      have h1 := List.find?_some hf
      have h2 := List.mem_of_find?_eq_some hf
      have : q = p := huq q h2 p hp (by simpa [hpk] using h1)
      rw [this]; rfl
  by_cases he : p.val = o.val
  · rw [finF_in (k := o.key) i _ _ (fun q hq e => wv_inj hn (hmem q hq).1 ho (hmem q hq).2 wo e) ⟨p, hp, he⟩, hv, he]
    simp
  · rw [finF_out i _ _ (fun q hq e => he ?_), addF_in i wo l F hn ho, hv]
    · simp [he]
    · have := wv_inj hn (hmem q hq).1 ho (hmem q hq).2 wo e
      rw [← huq q hq p hp (by rw [this, hpk])]; exact e
theorem wrTo_at {h : List TxnV} (hk : ∀ t ∈ h, keysIn t.l) : ∀ n, n ≤ h.length → (wvH (h.take n)).Nodup → ∀ i, ∀ hi : i < h.length, i < n → ∀ o ∈ h[i].l, o.wr = true → wrTo h n o.val = some ⟨i, o.key, vOf h[i].l o.key == o.val⟩
  | 0, _, _, i, _, hin, _, _, _ => by omega
  | n + 1, hn, hd, i, hi, hin, o, ho, wo => by
    have hlt : n < h.length := by omega
    rw [wvH_succ h n hlt] at hd
    have hd3 := List.nodup_append.1 hd
    rw [wrTo_succ, opsAt_eq hlt]
    by_cases e : i = n
    · subst e
      exact turn_at _ _ (hk _ (List.getElem_mem _)) hd3.2.1 ho wo
    · have hin2 : o.val ∈ wvH (h.take n) := by
        unfold wvH
        rw [List.mem_flatMap]
        refine ⟨h[i], ?_, wv_mem.2 ⟨o, ho, wo, rfl⟩⟩
        rw [List.mem_take_iff_getElem]
        exact ⟨i, by omega, rfl⟩
      have hout : ¬ o.val ∈ wv h[n].l := fun hh => hd3.2.2 _ hin2 _ hh rfl
      have hR := refWrites_rise (hk _ (List.getElem_mem hlt))
      rw [finF_out _ _ _ (fun q hq e2 => hout (by rw [← e2]; exact wv_mem.2 ⟨q, (refWrites_mem hq).1, (refWrites_mem hq).2, rfl⟩)), addF_out _ _ _ hout]
      exact wrTo_at hk n (by omega) hd3.1 i hi (by omega) o ho wo
end Go.Proofs.YtfancjmhdbaoeaaGreatDoor

namespace Go.Proofs.YtfancjmhdbaoeaaGreatDoor
set_option maxRecDepth 100000
open Go.RowKit

/-- Of whom a value is read, and what is read of others, as the reference says it. -/
def fromR (h : List TxnV) (o : OpV) : Int := if o.val = 0 then -1 else wrI o.key o.val h
def rdR (h : List TxnV) (i : Int) (l : List OpV) : List (Int × Int) := (l.filter fun o => fromR h o != i).map fun o => (o.key, fromR h o)
end Go.Proofs.YtfancjmhdbaoeaaGreatDoor

namespace Go.Proofs.YtfancjmhdbaoeaaGreatDoor
set_option maxRecDepth 100000
open Go.RowKit

/-- Does k read of i, as the reference says it? -/
def froR (h : List TxnV) (i k : Nat) : Bool := (rdR h k (refReads (opsAt h k))).any fun r => decide (r.2 = (i : Int))
end Go.Proofs.YtfancjmhdbaoeaaGreatDoor

namespace Go.Proofs.YtfancjmhdbaoeaaGreatDoor
set_option maxRecDepth 100000
open Go.RowKit

/-- Does transaction i write to a key; do two write to one key, as the reference says it? -/
def wrsR (h : List TxnV) (i : Nat) (key : Int) : Bool := vOf (opsAt h i) key != 0
def rivR (h : List TxnV) (i k : Nat) : Bool := (List.range 64).any fun n => wrsR h i (n : Int) && wrsR h k (n : Int)
end Go.Proofs.YtfancjmhdbaoeaaGreatDoor

namespace Go.Proofs.YtfancjmhdbaoeaaGreatDoor
set_option maxRecDepth 100000
open Go.RowKit

theorem may_parts {h : List TxnV} (hm : mayRef h = true) : okW h = true ∧ ∀ t ∈ h, keysIn t.l := by
  rw [← right_ref] at hm
  unfold rightB valuesB at hm
  simp only [Bool.and_eq_true] at hm
  exact ⟨hm.2.1.1, parts_keys hm.1⟩
end Go.Proofs.YtfancjmhdbaoeaaGreatDoor

namespace Go.Proofs.YtfancjmhdbaoeaaGreatDoor
set_option maxRecDepth 100000
open Go.RowKit

theorem wrI_at {key x : Int} {h : List TxnV} (hn : ¬ wrI key x h < 0) : ∃ i, ∃ hi : i < h.length, wrI key x h = i ∧ ∃ o ∈ h[i].l, isWr key x o = true := by
  unfold wrI at hn ⊢
  cases hf : h.findIdx? (fun t => t.l.any (isWr key x)) with
  | none => rw [hf] at hn; exact absurd (by decide) hn
  | some i =>
    rw [List.findIdx?_eq_some_iff_getElem] at hf
    obtain ⟨hi, h1, _⟩ := hf
    obtain ⟨o, ho, hw⟩ := List.any_eq_true.1 h1
    exact ⟨i, hi, rfl, o, ho, hw⟩
theorem isWr_iff {key x : Int} {o : OpV} : isWr key x o = true ↔ o.wr = true ∧ o.key = key ∧ o.val = x := by unfold isWr; simp
theorem may_rows {h : List TxnV} (hm : mayRef h = true) : ∀ k, ∀ hk : k < h.length, rowR h k h[k] = true := fun k hk => by
  have := List.all_eq_true.1 hm k (List.mem_range.2 hk)
  rwa [List.getElem?_eq_getElem hk] at this
theorem rowR_iff {h : List TxnV} {k : Nat} {t : TxnV} : rowR h k t = true ↔ mayT t.s t.b t.c t.l = true ∧ (h.take k).all (fun a => apartB a t) = true ∧ ∀ o ∈ t.l, opR h o = true := by
  unfold rowR
  rw [Bool.and_eq_true, Bool.and_eq_true, List.all_eq_true (p := opR h)]
theorem may_wr {h : List TxnV} (hm : mayRef h = true) {i : Nat} (hi : i < h.length) {o : OpV} (ho : o ∈ h[i].l) (wo : o.wr = true) : wrTo h h.length o.val = some ⟨i, o.key, vOf h[i].l o.key == o.val⟩ := by
  obtain ⟨hw, hk⟩ := may_parts hm
  exact wrTo_at hk h.length (Nat.le_refl _) (by rw [List.take_length]; unfold okW at hw; simpa using hw) i hi hi o ho wo
/-- What is told of a value that is read: who wrote it, to that key; of 0 nothing. -/
theorem reads_F {h : List TxnV} (hm : mayRef h = true) {k : Nat} (hk : k < h.length) {o : OpV} (ho : o ∈ h[k].l) (wo : o.wr = false) :
    (o.val = 0 ∧ wrTo h h.length 0 = none) ∨ (o.val ≠ 0 ∧ ∃ u, wrTo h h.length o.val = some u ∧ u.key = o.key ∧ wrI o.key o.val h = u.i) := by
  by_cases h0 : o.val = 0
  · refine .inl ⟨h0, ?_⟩
    cases hF : wrTo h h.length 0 with
    | none => rfl
    | some u =>
      obtain ⟨p, hp, hpv, _⟩ := real_wr h h.length (Nat.le_refl _) 0 u hF
      obtain ⟨t, ht, hpt, hpw⟩ := wrs_mem.1 hp
      obtain ⟨i, hi, rfl⟩ := List.getElem_of_mem ht
      have h1 := (rowR_iff.1 (may_rows hm i hi)).1
      unfold mayT at h1
      simp only [Bool.and_eq_true] at h1
      have h2 := (mayO_iff p).1 (List.all_eq_true.1 h1.2 p hpt)
      exact absurd hpv (h2.2.2 hpw)
  · refine .inr ⟨h0, ?_⟩
    have h1 := (rowR_iff.1 (may_rows hm k hk)).2.2 o ho
    unfold opR at h1
    rw [wo] at h1
    have h2 : ¬ wrI o.key o.val h < 0 := by simpa [h0] using h1
    obtain ⟨i, hi, he, p, hp, hpw⟩ := wrI_at h2
    obtain ⟨q1, q2, q3⟩ := isWr_iff.1 hpw
    have h3 := may_wr hm hi hp q1
    rw [q3, q2] at h3
    exact ⟨_, h3, rfl, he⟩
end Go.Proofs.YtfancjmhdbaoeaaGreatDoor

namespace Go.Proofs.YtfancjmhdbaoeaaGreatDoor
set_option maxRecDepth 100000
open Go.RowKit

theorem may_of {h : List TxnV} (hc : checkI h = 0) : mayRef h = true := by
  rw [← right_ref]
  unfold checkI at hc
  split at hc
  · cases hc
  · cases hr : rightB h with
    | true => rfl
    | false => rw [hr] at hc; cases hc
theorem from_same {h : List TxnV} (hc : checkI h = 0) {k : Nat} (hk : k < h.length) {o : OpV} (ho : o ∈ h[k].l) (wo : o.wr = false) : fromO (wrTo h h.length) o.val = fromR h o := by
  unfold fromO fromR
  rcases reads_F (may_of hc) hk ho wo with ⟨h0, hn⟩ | ⟨h0, u, hu, _, hw⟩
  · rw [if_pos h0, h0, hn]; rfl
  · rw [if_neg h0, hu, hw]; rfl
theorem rd_congr {h : List TxnV} {F : Int → Option WV} {i : Int} : ∀ (l : List OpV), (∀ o ∈ l, fromO F o.val = fromR h o) → rdFr F i l = rdR h i l
  | [], _ => rfl
  | a :: l, hl => by
    have ih := rd_congr (i := i) l (fun o ho => hl o (List.mem_cons_of_mem _ ho))
    have ha := hl a List.mem_cons_self
    unfold rdFr rdR at *
    rw [List.filter_cons, List.filter_cons, ha]
    split
    · rw [List.map_cons, List.map_cons, ih, ha]
    · exact ih
theorem refReads_in {l : List OpV} {o : OpV} (ho : o ∈ refReads l) : o ∈ l ∧ o.wr = false := by
  obtain ⟨k, _, hk⟩ := upTo_mem.1 ho
  obtain ⟨h1, h2⟩ := rdK_some.1 hk
  exact ⟨(firstO_key h1).2, h2⟩
theorem reads_same {h : List TxnV} (hc : checkI h = 0) {k : Nat} (hk : k < h.length) : readsOf h k = rdR h k (refReads h[k].l) := by
  unfold readsOf
  rw [opsAt_eq hk]
  refine rd_congr _ fun o ho => ?_
  obtain ⟨h1, h2⟩ := refReads_in ho
  exact from_same hc hk h1 h2
end Go.Proofs.YtfancjmhdbaoeaaGreatDoor

namespace Go.Proofs.YtfancjmhdbaoeaaGreatDoor
set_option maxRecDepth 100000
open Go.RowKit

theorem rivS_bit (F : Int → Option Nat) (j : Nat) : ∀ (xs : List Int) (s : Nat), (xs.foldl (fun s x => s ||| (F x).getD 0) s).testBit j = (s.testBit j || xs.any fun x => ((F x).getD 0).testBit j)
  | [], s => by simp
  | x :: xs, s => by
    rw [List.foldl_cons, rivS_bit F j xs, Nat.testBit_or, List.any_cons, Bool.or_assoc]
theorem wrsRow_bit (i : Nat) (hi : i < 64) (j : Nat) (y : Int) : ∀ (xs : List Int) (F : Int → Option Nat), ((wrsRow i F xs y).getD 0).testBit j = (((F y).getD 0).testBit j || (decide (y ∈ xs) && decide (i = j)))
  | [], F => by simp [wrsRow]
  | x :: xs, F => by
    have ih := wrsRow_bit i hi j y xs (putF F x (withS ((F x).getD 0) i))
    show ((wrsRow i (putF F x (withS ((F x).getD 0) i)) xs y).getD 0).testBit j = _
    rw [ih]
    by_cases e : y = x
    · subst e
      rw [putF_same, Option.getD_some, testBit_withS, Int.toNat_natCast]
      have : decide (0 ≤ (i : Int) ∧ (i : Int) < 64) = true := by simp; omega
      rw [this]
      cases ((F y).getD 0).testBit j <;> by_cases h : i = j <;> simp [h]
    · rw [putF_other F _ e]
      simp [e]
theorem wrsTo_bit (K : List KRow) (j : Nat) (y : Int) : ∀ m, m ≤ 64 → m ≤ K.length → ((wrsTo K m y).getD 0).testBit j = (decide (j < m) && decide (y ∈ ((K[j]?).map (·.2)).getD []))
  | 0, _, _ => by simp [wrsTo]
  | m + 1, h64, hm => by
    have ih := wrsTo_bit K j y m (by omega) (by omega)
    have hlt : m < K.length := by omega
    rw [wrsTo_succ hlt, wrsRow_bit m (by omega) j y, ih]
    by_cases e : m = j
    · subst e
      simp [List.getElem?_eq_getElem hlt]
    · by_cases h : j < m
      · have h2 : j < m + 1 := by omega
        simp [h, h2, e]
      · have h2 : ¬ j < m + 1 := by omega
        simp [h, h2, e]
theorem keysOf_iff {h : List TxnV} (hc : checkI h = 0) {i : Nat} (hi : i < h.length) (y : Int) : y ∈ keysOf (opsAt h i) ↔ wrsR h i y = true := by
  unfold keysOf wrsR vOf
  generalize hl : opsAt h i = l
  rw [opsAt_eq hi] at hl
  constructor
  · intro hy
    obtain ⟨o, ho, rfl⟩ := List.mem_map.1 hy
    cases hf : (refWrites l).find? (fun p => p.key == o.key) with
    | none => have := List.find?_eq_none.1 hf o ho; simp at this
    | some p =>
      have hp := List.mem_of_find?_eq_some hf
      obtain ⟨h1, h2⟩ := refWrites_mem hp
      have h3 := (rowR_iff.1 (may_rows (may_of hc) i hi)).1
      unfold mayT at h3
      simp only [Bool.and_eq_true] at h3
      have h4 := (mayO_iff p).1 (List.all_eq_true.1 h3.2 p (by rw [hl]; exact h1))
      simpa using h4.2.2 h2
  · intro hy
    cases hf : (refWrites l).find? (fun p => p.key == y) with
    | none => rw [hf] at hy; simp at hy
    | some p =>
      have hp := List.mem_of_find?_eq_some hf
      have hk := List.find?_some hf
      exact List.mem_map.2 ⟨p, hp, by simpa using hk⟩
theorem keys_at {h : List TxnV} {K : List KRow} (hK : K.map (·.2) = keysTo h h.length) {k : Nat} (hk : k < h.length) : ((K[k]?).map (·.2)).getD [] = keysOf (opsAt h k) := by
  rw [← List.getElem?_map, hK]
  unfold keysTo
  simp [hk]
theorem keys_len {h : List TxnV} {K : List KRow} (hK : K.map (·.2) = keysTo h h.length) : K.length = h.length := by
  have := congrArg List.length hK
  simpa [keysTo] using this
theorem riv_same {h : List TxnV} {K : List KRow} (hc : checkI h = 0) (hK : K.map (·.2) = keysTo h h.length) {i k : Nat} (hi : i < h.length) (hk : k < h.length) (hne : i ≠ k) :
    hasB (woS (rivS (wrsTo K K.length) (((K[i]?).map (·.2)).getD [])) (i : Int)) (k : Int) = rivR h i k := by
  obtain ⟨h64, _, _, hks⟩ := check_zero hc
  have hl := keys_len hK
  unfold hasB
  rw [Int.toNat_natCast, testBit_woS, Int.toNat_natCast]
  have e1 : decide (0 ≤ (k : Int) ∧ (k : Int) < 64) = true := by simp; omega
  rw [e1, Bool.true_and]
  have e2 : decide (i = k) = false := decide_eq_false hne
  rw [e2, Bool.and_false, Bool.not_false, Bool.and_true]
  unfold rivS
  rw [rivS_bit, Nat.zero_testBit, Bool.false_or, keys_at hK hi, Bool.eq_iff_iff, List.any_eq_true]
  unfold rivR
  rw [List.any_eq_true]
  have hb : ∀ y, ((wrsTo K K.length y).getD 0).testBit k = true ↔ wrsR h k y = true := fun y => by
    rw [wrsTo_bit K k y K.length (by omega) (Nat.le_refl _), keys_at hK hk]
    have : k < K.length := by omega
    simp only [this, decide_true, Bool.true_and, decide_eq_true_eq]
    exact keysOf_iff hc hk y
  constructor
  · rintro ⟨y, hy, hbt⟩
    have h1 := (keysOf_iff hc hi y).1 hy
    have h2 := (hb y).1 hbt
    obtain ⟨o, ho, rfl⟩ := List.mem_map.1 hy
    have h3 := (refWrites_mem ho).1
    rw [opsAt_eq hi] at h3
    obtain ⟨h4, h5⟩ := hks _ (List.getElem_mem hi) o h3
    refine ⟨o.key.toNat, List.mem_range.2 (by omega), ?_⟩
    rw [Int.toNat_of_nonneg h4, h1, h2]; rfl
  · rintro ⟨n, _, hn⟩
    rw [Bool.and_eq_true] at hn
    exact ⟨(n : Int), (keysOf_iff hc hi _).2 hn.1, (hb _).2 hn.2⟩
end Go.Proofs.YtfancjmhdbaoeaaGreatDoor

namespace Go.Proofs.YtfancjmhdbaoeaaGreatDoor
set_option maxRecDepth 100000
open Go.RowKit

/-- Who writes to a key that a transaction writes to. -/
def rivB (h : List TxnV) (i k : Nat) : Bool := decide (i < h.length) && (decide (k < h.length) && (decide (i ≠ k) && rivR h i k))
def rivN (h : List TxnV) (i : Nat) : Nat := mkS (rivB h i)
theorem rivN_set (h : List TxnV) (i : Nat) : IsSet (rivN h i) := isSet_mkS _
theorem rivN_none {h : List TxnV} {i : Nat} (hi : h.length ≤ i) : rivN h i = 0 := by
  unfold rivN
  have : rivB h i = fun _ => false := by
    funext k
    unfold rivB
    rw [decide_eq_false (by omega)]; rfl
  rw [this]; exact mkS_false
theorem keys_int {h : List TxnV} {K : List KRow} (hc : checkI h = 0) (hK : K.map (·.2) = keysTo h h.length) : ∀ p ∈ K, ∀ x ∈ p.2, InI x := by
  obtain ⟨_, _, _, hks⟩ := check_zero hc
  intro p hp x hx
  have h1 : p.2 ∈ keysTo h h.length := by rw [← hK]; exact List.mem_map.2 ⟨p, hp, rfl⟩
  unfold keysTo at h1
  obtain ⟨i, hi, e⟩ := List.mem_map.1 h1
  have hi := List.mem_range.1 hi
  rw [← e] at hx
  unfold keysOf at hx
  obtain ⟨o, ho, rfl⟩ := List.mem_map.1 hx
  have h2 := (refWrites_mem ho).1
  rw [opsAt_eq hi] at h2
  obtain ⟨h3, h4⟩ := hks _ (List.getElem_mem hi) o h2
  refine inI_of ?_
  unfold IntOk
  omega
theorem riv_eq {h : List TxnV} {K : List KRow} (hc : checkI h = 0) (hK : K.map (·.2) = keysTo h h.length) {i : Nat} (hi : i < h.length) (hA : AllSet (wrsTo K K.length)) :
    woS (rivS (wrsTo K K.length) (((K[i]?).map (·.2)).getD [])) (i : Int) = rivN h i := by
  have hl := keys_len hK
  have h64 := (check_zero hc).1
  refine mkS_eq ?_ (fun k hk => ?_)
  · have h1 : IsSet (rivS (wrsTo K K.length) (((K[i]?).map (·.2)).getD [])) := by
      have := rivS_set hA (((K[i]?).map (·.2)).getD []) (((K[i]?).map (·.2)).getD []).length (Nat.le_refl _)
      rwa [List.take_length] at this
    exact isSet_woS h1
  · by_cases hkn : k < h.length
    · by_cases e : i = k
      · subst e
        unfold rivB
        rw [testBit_woS, Int.toNat_natCast]
        simp; intros; omega
      · have h2 := riv_same hc hK hi hkn e
        unfold hasB at h2
        rw [Int.toNat_natCast] at h2
        have e1 : decide (0 ≤ (k : Int) ∧ (k : Int) < 64) = true := by simp; omega
        rw [e1, Bool.true_and] at h2
        rw [h2]
        unfold rivB
        simp [hi, hkn, e]
    · rw [testBit_woS]
      have h3 : (rivS (wrsTo K K.length) (((K[i]?).map (·.2)).getD [])).testBit k = false := by
        unfold rivS
        rw [rivS_bit, Nat.zero_testBit, Bool.false_or]
        refine List.any_eq_false.2 (fun y _ => ?_)
        rw [wrsTo_bit K k y K.length (by omega) (Nat.le_refl _)]
        have : ¬ k < K.length := by omega
        simp [this]
      rw [h3]
      unfold rivB
      simp [hkn]
theorem ordis_rivals {w : World} {B b : Nat} {h : List TxnV} (hO : OrdIs w B b h) (hc : checkI h = 0) (i : Nat) :
    Calls Tryz.prog 147 #[.pointer (some ⟨B, 0, none⟩), .int .i64 i] w fun e w' => e = .returned (.int .u64 ((rivN h i : Nat) : Int)) ∧ Below w.heap.size w w' := by
  obtain ⟨bm, m, c, vk, vr, K, R, h1, h2, h3, h4, h5, h6⟩ := hO
  have hl := keys_len h5
  by_cases hi : i < h.length
  · have hiK : i < K.length := by omega
    have hh := orivals_any i h1 h2 h3 h4.rws (keys_int hc h5) hiK
    have e := riv_eq hc h5 hi h3
    rw [List.getElem?_eq_getElem hiK] at e
    simp only [Option.map_some, Option.getD_some] at e
    rw [e] at hh
    exact hh
  · rw [rivN_none (by omega)]
    exact orivals_none (i : Int) h1 h4.rws (.inr (by omega))
end Go.Proofs.YtfancjmhdbaoeaaGreatDoor

namespace Go.Proofs.YtfancjmhdbaoeaaGreatDoor
set_option maxRecDepth 100000
open Go.RowKit

theorem yields_rel {ops : Array Oper} {S : World → Prop} {o : Oper} {a : Act} {g : Nat} {R : Mat} (hw : Region.wanted o (yielded ops a.tmps) = true) (x : Operand) (ho : o.op = .load 37 x)
    (hx : a.eval x = .pointer (some ⟨g, 0, none⟩)) (hS : ∀ w, S w → RelAt w g 37 R) : YieldsIf Tryz.prog ops S o (.agg (rowsA R)) a :=
  .inl ⟨hw, fun w hw' => by
    unfold execOp
    simp only [ho, hx, Instr.loadAt, Instr.sureAddr, Sem.run_bind, Sem.run_pure, Result.andThen_ok, run_loadVar_row w g _ _ _ _ _ (hS w hw') Tryz.underlying37 rfl (infoRel' _)]⟩
/-- Of each two that write to one key the first one, where it comes ahead. -/
def rivM (h : List TxnV) (A : Mat) : Mat := fun i j => A i j && rivB h i j
def rivTo (h : List TxnV) (A : Mat) (k : Nat) : Mat := fun i j => if i < k then A i j && rivB h i j else A i j
theorem rivTo_step (h : List TxnV) (A : Mat) (k : Nat) : rowSet (rivTo h A k) k (fun j => A k j && rivB h k j) = rivTo h A (k + 1) := by
  funext i j
  unfold rowSet rivTo
  by_cases e : i = k
  · subst e; rw [if_pos rfl, if_pos (by omega)]
  · rw [if_neg e]
    by_cases e2 : i < k
    · rw [if_pos e2, if_pos (by omega)]
    · rw [if_neg e2, if_neg (by omega)]
theorem rivTo_at (h : List TxnV) (A : Mat) (k : Nat) : rivTo h A k k = A k := by funext j; unfold rivTo; rw [if_neg (by omega)]
theorem rivTo_end (h : List TxnV) (A : Mat) : rowsA (rivTo h A 64) = rowsA (rivM h A) := rowsA_congr fun i j hi _ => by unfold rivTo rivM; rw [if_pos hi]
theorem u64_and (p q : Nat → Bool) : Go.bits .and .u64 ((mkS p : Nat) : Int) ((mkS q : Nat) : Int) = ((mkS (fun j => p j && q j) : Nat) : Int) := by
  rw [Go.bits_and_u64_nat _ _ (isSet_mkS p) (isSet_mkS q)]
  congr 1
  refine mkS_eq (isSet_and (isSet_mkS p)) fun i hi => ?_
  rw [Nat.testBit_and, testBit_mkS, testBit_mkS, decide_eq_true hi]; rfl
set_option maxRecDepth 100000 in
set_option maxHeartbeats 8000000 in
theorem lrivals_any (A : Mat) (h : List TxnV) (B b : Nat) (w : World) (hO : OrdIs w B b h) (hc : checkI h = 0) :
    Calls Tryz.prog 118 #[.pointer (some ⟨B, 0, none⟩), .agg (rowsA A)] w fun e w' => e = .returned (.agg (rowsA (rivM h A))) ∧ Below w.heap.size w w' := by
  have CRH := Lib.hid (fun (i : Nat) wx (hx : Below w.heap.size w wx) => ordis_rivals (hO.below hx) hc i)
  have e0 : rowsA A = rowsA (rivTo h A 0) := rowsA_congr fun i j _ _ => by unfold rivTo; rw [if_neg (by omega)]
  have r0 : RelAt (w.alloc (.cells (rowsA A) 37)) w.heap.size 37 (rivTo h A 0) := RelAt.made w _ _ rfl e0
  have z0 := zero_block (w.alloc (.cells (rowsA A) 37))
  rw [show (w.alloc (.cells (rowsA A) 37)).heap.size = w.heap.size + 1 from by simp] at z0
  have r0 := r0.alloc (.cells #[.int .u64 0, .int .u64 0, .int .u64 0, .int .u64 0, .int .u64 0, .int .u64 0, .int .u64 0, .int .u64 0, .int .u64 0, .int .u64 0, .int .u64 0, .int .u64 0, .int .u64 0, .int .u64 0, .int .u64 0, .int .u64 0, .int .u64 0, .int .u64 0, .int .u64 0, .int .u64 0, .int .u64 0, .int .u64 0, .int .u64 0, .int .u64 0, .int .u64 0, .int .u64 0, .int .u64 0, .int .u64 0, .int .u64 0, .int .u64 0, .int .u64 0, .int .u64 0, .int .u64 0, .int .u64 0, .int .u64 0, .int .u64 0, .int .u64 0, .int .u64 0, .int .u64 0, .int .u64 0, .int .u64 0, .int .u64 0, .int .u64 0, .int .u64 0, .int .u64 0, .int .u64 0, .int .u64 0, .int .u64 0, .int .u64 0, .int .u64 0, .int .u64 0, .int .u64 0, .int .u64 0, .int .u64 0, .int .u64 0, .int .u64 0, .int .u64 0, .int .u64 0, .int .u64 0, .int .u64 0, .int .u64 0, .int .u64 0, .int .u64 0, .int .u64 0] 37)
  have hb0 := (box_below w (.cells (rowsA A) 37)).alloc (by simp) (.cells #[.int .u64 0, .int .u64 0, .int .u64 0, .int .u64 0, .int .u64 0, .int .u64 0, .int .u64 0, .int .u64 0, .int .u64 0, .int .u64 0, .int .u64 0, .int .u64 0, .int .u64 0, .int .u64 0, .int .u64 0, .int .u64 0, .int .u64 0, .int .u64 0, .int .u64 0, .int .u64 0, .int .u64 0, .int .u64 0, .int .u64 0, .int .u64 0, .int .u64 0, .int .u64 0, .int .u64 0, .int .u64 0, .int .u64 0, .int .u64 0, .int .u64 0, .int .u64 0, .int .u64 0, .int .u64 0, .int .u64 0, .int .u64 0, .int .u64 0, .int .u64 0, .int .u64 0, .int .u64 0, .int .u64 0, .int .u64 0, .int .u64 0, .int .u64 0, .int .u64 0, .int .u64 0, .int .u64 0, .int .u64 0, .int .u64 0, .int .u64 0, .int .u64 0, .int .u64 0, .int .u64 0, .int .u64 0, .int .u64 0, .int .u64 0, .int .u64 0, .int .u64 0, .int .u64 0, .int .u64 0, .int .u64 0, .int .u64 0, .int .u64 0, .int .u64 0] 37)
  clear hO hc e0
  go_enter Tryz.func118, Tryz.ntmps118
  go_wp2_with fail
  go_loopw [6] (fun i wr => ∃ k : Nat, k ≤ 64 ∧ i = .int .i64 k ∧ RelAt wr w.heap.size 37 (rivTo h A k) ∧ RelAt wr (w.heap.size + 1) 37 noR ∧ Below w.heap.size w wr) (fun i _ => 64 - (intOf i).toNat)
  case atStart => exact ⟨0, by omega, rfl, r0, z0, hb0⟩
  case round =>
    obtain ⟨k, hk, rfl, hR, hz, hb⟩ := hrel
    clear r0 z0 hb0
    by_cases hlt : k < 64
    · have hki : (k : Int) < 64 := by omega
      have hda : decide ((k : Int) < 64) = true := decide_eq_true hki
      have kd := (Below.refl wr.heap.size wr).drew
      have HAND : Go.bits .and .u64 ((mkS (rivTo h A k k) : Nat) : Int) ((rivN h k : Nat) : Int) = ((mkS (fun j => A k j && rivB h k j) : Nat) : Int) := by rw [rivTo_at]; exact u64_and _ _
      have HR : Hid (∀ wx, Below wr.heap.size wr wx → RelAt wx w.heap.size 37 (rivTo h A k)) := Lib.hid (fun wx hx => hR.below hx hR.lt)
      have CR := Lib.hid (fun wx (hx : Below wr.heap.size wr wx) => CRH.out k wx (hb.trans (hx.mono hb.size)))
      have HS : Hid (∀ wx, Below wr.heap.size wr wx → True) := Lib.hid (fun _ _ => trivial)
      have HN : Hid (∀ wx, Below wr.heap.size wr wx → RelAt (wx.setCell ⟨w.heap.size, k, none⟩ (.int .u64 ((mkS (fun j => A k j && rivB h k j) : Nat) : Int))) w.heap.size 37 (rivTo h A (k + 1))) := Lib.hid (fun wx hx => by
        have := (hR.below hx hR.lt).store k _ (fun j => A k j && rivB h k j) rfl
        rwa [rivTo_step] at this)
      have HBS : Hid (∀ wx, Below wr.heap.size wr wx → Below w.heap.size w (wx.setCell ⟨w.heap.size, k, none⟩ (.int .u64 ((mkS (fun j => A k j && rivB h k j) : Nat) : Int)))) := Lib.hid (fun wx hx => (hb.trans (hx.mono hb.size)).setCell (p := ⟨w.heap.size, k, none⟩) (Nat.le_refl _) _)
      have HZS : Hid (∀ wx, Below wr.heap.size wr wx → RelAt (wx.setCell ⟨w.heap.size, k, none⟩ (.int .u64 ((mkS (fun j => A k j && rivB h k j) : Nat) : Int))) (w.heap.size + 1) 37 noR) := Lib.hid (fun wx hx => (hz.below hx hz.lt).other (k := ⟨w.heap.size, k, none⟩) (by simp) _)
      clear hR hz hb CRH
      generalize mkS (fun j => A k j && rivB h k j) = z at *
      generalize rivN h k = y at *
      go_wp2_with fail
      refine wp_region_held_drew (S := fun _ => True) (by kernel_rfl) trivial (fun hS0 => ?_)
      refine takeG (some 9) (i := 0) (v := ?v0) rfl rfl (by kernel_rfl) (by kernel_rfl) (by kernel_rfl) (fun _ _ _ h => h) (Or.inl ⟨by rfl, ?h0⟩) hS0 ?r0
      case h0 => (intro w hw; go_simp; try (with_reducible rfl))
      try simp only [Act.put, List.setIfInBounds_toArray, List.set_cons_zero, List.set_cons_succ]
      refine takeG (some 10) (i := 1) (v := ?v1) rfl rfl (by kernel_rfl) (by kernel_rfl) (by kernel_rfl) (fun _ _ _ h => h) (Or.inl ⟨by rfl, ?h1⟩) hS0 ?r1
      case h1 => (intro w hw; go_simp; try (with_reducible rfl))
      try simp only [Act.put, List.setIfInBounds_toArray, List.set_cons_zero, List.set_cons_succ]
      refine takeG (some 12) (i := 3) (v := ?v3) rfl rfl (by kernel_rfl) (by kernel_rfl) (by kernel_rfl) (fun _ _ _ h => h) (Or.inl ⟨by rfl, ?h3⟩) hS0 ?r3
      case h3 => (intro w hw; go_simp; try (with_reducible rfl))
      try simp only [Act.put, List.setIfInBounds_toArray, List.set_cons_zero, List.set_cons_succ]
      refine takeG (some 13) (i := 4) (v := ?v4) rfl rfl (by kernel_rfl) (by kernel_rfl) (by kernel_rfl) (fun _ _ _ h => h) (Or.inl ⟨by rfl, ?h4⟩) hS0 ?r4
      case h4 => (intro w hw; go_simp; try (with_reducible rfl))
      try simp only [Act.put, List.setIfInBounds_toArray, List.set_cons_zero, List.set_cons_succ]
      refine wpAnyH_ready (rs := [2, 5]) (by kernel_rfl) (by simp) ?_
      refine AllReadyH.cons rfl (fun K hK => ?_) (AllReadyH.cons rfl (fun K hK => ?_) AllReadyH.nil)
      ·
        have hc2 := (HR.out _ kd).cell hlt
        go_simp
        refine hK.out _ _ hS0 (fun _ => ?_)
        clear hK K hc2
        refine wpAnyH_ready (rs := [5]) (by kernel_rfl) (by simp) ?_
        refine AllReadyH.cons rfl (fun K hK => ?_) AllReadyH.nil
        go_simp
        refine (CR.out _ kd).mono ?_
        rintro e q1 ⟨rfl, hq1⟩
        show K _ _
        have k1 := below_then kd hq1
        have s1 := HS.out _ k1
        refine hK.out _ _ s1 (fun _ => ?_)
        clear hK K
        refine wpAnyH_ready (rs := [6]) (by kernel_rfl) (by simp) ?_
        refine AllReadyH.cons rfl (fun K hK => ?_) AllReadyH.nil
        go_simp
        refine hK.out _ _ s1 (fun _ => ?_)
        clear hK K
        refine wpAnyH_ready (rs := [7]) (by kernel_rfl) (by simp) ?_
        refine AllReadyH.cons rfl (fun K hK => ?_) AllReadyH.nil
        go_simp
        refine hK.out _ _ s1 (fun _ => ?_)
        clear hK K
        refine wpAnyH_ready (rs := [8]) (by kernel_rfl) (by simp) ?_
        refine AllReadyH.cons rfl (fun K hK => ?_) AllReadyH.nil
        have hc8 := (HR.out _ k1).cell hlt
        have hf8 := (HR.out _ k1).free k
        go_simp
        refine hK.out _ _ trivial (fun _ => ?_)
        clear hK K hc8 hf8
        refine wpAnyH_done (by kernel_rfl) ?_ _
        have hR9 := HN.out _ k1
        have hb9 := HBS.out _ k1
        have hz9 := HZS.out _ k1
        clear HR CR HN HBS HZS HS kd
        go_wp2_with fail
        go_roundw
        case rel => exact ⟨k + 1, by omega, by go_num, hR9, hz9, hb9⟩
        case measure => simp [intOf]; omega
      ·
        go_simp
        refine (CR.out _ kd).mono ?_
        rintro e q2 ⟨rfl, hq2⟩
        show K _ _
        have k2 := below_then kd hq2
        have s2 := HS.out _ k2
        refine hK.out _ _ s2 (fun _ => ?_)
        clear hK K
        refine wpAnyH_ready (rs := [2]) (by kernel_rfl) (by simp) ?_
        refine AllReadyH.cons rfl (fun K hK => ?_) AllReadyH.nil
        have hc2 := (HR.out _ k2).cell hlt
        go_simp
        refine hK.out _ _ s2 (fun _ => ?_)
        clear hK K hc2
        refine wpAnyH_ready (rs := [6]) (by kernel_rfl) (by simp) ?_
        refine AllReadyH.cons rfl (fun K hK => ?_) AllReadyH.nil
        go_simp
        refine hK.out _ _ s2 (fun _ => ?_)
        clear hK K
        refine wpAnyH_ready (rs := [7]) (by kernel_rfl) (by simp) ?_
        refine AllReadyH.cons rfl (fun K hK => ?_) AllReadyH.nil
        go_simp
        refine hK.out _ _ s2 (fun _ => ?_)
        clear hK K
        refine wpAnyH_ready (rs := [8]) (by kernel_rfl) (by simp) ?_
        refine AllReadyH.cons rfl (fun K hK => ?_) AllReadyH.nil
        have hc8 := (HR.out _ k2).cell hlt
        have hf8 := (HR.out _ k2).free k
        go_simp
        refine hK.out _ _ trivial (fun _ => ?_)
        clear hK K hc8 hf8
        refine wpAnyH_done (by kernel_rfl) ?_ _
        have hR9 := HN.out _ k2
        have hb9 := HBS.out _ k2
        have hz9 := HZS.out _ k2
        clear HR CR HN HBS HZS HS kd
        go_wp2_with fail
        go_roundw
        case rel => exact ⟨k + 1, by omega, by go_num, hR9, hz9, hb9⟩
        case measure => simp [intOf]; omega
    · have hk64 : k = 64 := by omega
      subst hk64
      go_wp2_with (first
        | (with_reducible refine wpList_load_rel hR rfl _ rfl rfl ?_)
        | (with_reducible refine wpList_store_rel hz (rivTo h A 64) rfl _ _ rfl rfl rfl ?_))
      have h3 := hz.setRow (rivTo h A 64)
      rw [rivTo_end] at h3
      exact bodyPost_ret (results_rel rfl _ _ _ _ rfl h3) rfl ⟨rfl, below_setRow hb (by omega) _⟩
def trB (x : Int) : Bool := decide (¬ bits .and .i64 x 2 = 0)
def pfB (x : Int) : Bool := decide (¬ bits .and .i64 x 4 = 0)
set_option maxRecDepth 100000 in
set_option maxHeartbeats 8000000 in
theorem lmore_any (x : Int) (V A : Mat) (w : World) (ht : Tab w) :
    Calls Tryz.prog 119 #[.agg (rowsA V), .agg (rowsA A), .int .i64 x] w fun e w' => e = .returned (.agg (rowsA (moreM V A (trB x) (pfB x)))) ∧ Below w.heap.size w w' := by
  have hg := ht.pos
  have HT : Hid (∀ wx, Below w.heap.size w wx → Tab wx) := Lib.hid (fun wx hb => ht.below hb hg)
  obtain ⟨q2, h2⟩ : ∃ q, bits .and .i64 x 2 = q := ⟨_, rfl⟩
  obtain ⟨q4, h4⟩ : ∃ q, bits .and .i64 x 4 = q := ⟨_, rfl⟩
  have HP2 : Hid (trB x = decide (¬ q2 = 0)) := Lib.hid (by unfold trB; rw [h2])
  have HP : Hid (pfB x = decide (¬ q4 = 0)) := Lib.hid (by unfold pfB; rw [h4])
  have z0 := (RelAt.made w 37 V rfl rfl)
  have z0 := (z0.alloc (.cells (rowsA A) 37)).alloc (.cells #[.int .u64 0, .int .u64 0, .int .u64 0, .int .u64 0, .int .u64 0, .int .u64 0, .int .u64 0, .int .u64 0, .int .u64 0, .int .u64 0, .int .u64 0, .int .u64 0, .int .u64 0, .int .u64 0, .int .u64 0, .int .u64 0, .int .u64 0, .int .u64 0, .int .u64 0, .int .u64 0, .int .u64 0, .int .u64 0, .int .u64 0, .int .u64 0, .int .u64 0, .int .u64 0, .int .u64 0, .int .u64 0, .int .u64 0, .int .u64 0, .int .u64 0, .int .u64 0, .int .u64 0, .int .u64 0, .int .u64 0, .int .u64 0, .int .u64 0, .int .u64 0, .int .u64 0, .int .u64 0, .int .u64 0, .int .u64 0, .int .u64 0, .int .u64 0, .int .u64 0, .int .u64 0, .int .u64 0, .int .u64 0, .int .u64 0, .int .u64 0, .int .u64 0, .int .u64 0, .int .u64 0, .int .u64 0, .int .u64 0, .int .u64 0, .int .u64 0, .int .u64 0, .int .u64 0, .int .u64 0, .int .u64 0, .int .u64 0, .int .u64 0, .int .u64 0] 37)
  have z1 := (RelAt.made (w.alloc (.cells (rowsA V) 37)) 37 A (g := w.heap.size + 1) (by simp) rfl).alloc (.cells #[.int .u64 0, .int .u64 0, .int .u64 0, .int .u64 0, .int .u64 0, .int .u64 0, .int .u64 0, .int .u64 0, .int .u64 0, .int .u64 0, .int .u64 0, .int .u64 0, .int .u64 0, .int .u64 0, .int .u64 0, .int .u64 0, .int .u64 0, .int .u64 0, .int .u64 0, .int .u64 0, .int .u64 0, .int .u64 0, .int .u64 0, .int .u64 0, .int .u64 0, .int .u64 0, .int .u64 0, .int .u64 0, .int .u64 0, .int .u64 0, .int .u64 0, .int .u64 0, .int .u64 0, .int .u64 0, .int .u64 0, .int .u64 0, .int .u64 0, .int .u64 0, .int .u64 0, .int .u64 0, .int .u64 0, .int .u64 0, .int .u64 0, .int .u64 0, .int .u64 0, .int .u64 0, .int .u64 0, .int .u64 0, .int .u64 0, .int .u64 0, .int .u64 0, .int .u64 0, .int .u64 0, .int .u64 0, .int .u64 0, .int .u64 0, .int .u64 0, .int .u64 0, .int .u64 0, .int .u64 0, .int .u64 0, .int .u64 0, .int .u64 0, .int .u64 0] 37)
  have z2 := zero_block ((w.alloc (.cells (rowsA V) 37)).alloc (.cells (rowsA A) 37))
  rw [show ((w.alloc (.cells (rowsA V) 37)).alloc (.cells (rowsA A) 37)).heap.size = w.heap.size + 2 from by simp] at z2
  have hb := ((box_below w (.cells (rowsA V) 37)).alloc (by simp) (.cells (rowsA A) 37)).alloc (by simp; omega) (.cells #[.int .u64 0, .int .u64 0, .int .u64 0, .int .u64 0, .int .u64 0, .int .u64 0, .int .u64 0, .int .u64 0, .int .u64 0, .int .u64 0, .int .u64 0, .int .u64 0, .int .u64 0, .int .u64 0, .int .u64 0, .int .u64 0, .int .u64 0, .int .u64 0, .int .u64 0, .int .u64 0, .int .u64 0, .int .u64 0, .int .u64 0, .int .u64 0, .int .u64 0, .int .u64 0, .int .u64 0, .int .u64 0, .int .u64 0, .int .u64 0, .int .u64 0, .int .u64 0, .int .u64 0, .int .u64 0, .int .u64 0, .int .u64 0, .int .u64 0, .int .u64 0, .int .u64 0, .int .u64 0, .int .u64 0, .int .u64 0, .int .u64 0, .int .u64 0, .int .u64 0, .int .u64 0, .int .u64 0, .int .u64 0, .int .u64 0, .int .u64 0, .int .u64 0, .int .u64 0, .int .u64 0, .int .u64 0, .int .u64 0, .int .u64 0, .int .u64 0, .int .u64 0, .int .u64 0, .int .u64 0, .int .u64 0, .int .u64 0, .int .u64 0, .int .u64 0] 37)
  clear ht
  go_enter Tryz.func119, Tryz.ntmps119
  go_upto_region 1 with fail
  generalize ((w.alloc (.cells (rowsA V) 37)).alloc (.cells (rowsA A) 37)).alloc (.cells #[.int .u64 0, .int .u64 0, .int .u64 0, .int .u64 0, .int .u64 0, .int .u64 0, .int .u64 0, .int .u64 0, .int .u64 0, .int .u64 0, .int .u64 0, .int .u64 0, .int .u64 0, .int .u64 0, .int .u64 0, .int .u64 0, .int .u64 0, .int .u64 0, .int .u64 0, .int .u64 0, .int .u64 0, .int .u64 0, .int .u64 0, .int .u64 0, .int .u64 0, .int .u64 0, .int .u64 0, .int .u64 0, .int .u64 0, .int .u64 0, .int .u64 0, .int .u64 0, .int .u64 0, .int .u64 0, .int .u64 0, .int .u64 0, .int .u64 0, .int .u64 0, .int .u64 0, .int .u64 0, .int .u64 0, .int .u64 0, .int .u64 0, .int .u64 0, .int .u64 0, .int .u64 0, .int .u64 0, .int .u64 0, .int .u64 0, .int .u64 0, .int .u64 0, .int .u64 0, .int .u64 0, .int .u64 0, .int .u64 0, .int .u64 0, .int .u64 0, .int .u64 0, .int .u64 0, .int .u64 0, .int .u64 0, .int .u64 0, .int .u64 0, .int .u64 0] 37) = w2 at *
  by_cases e2 : q2 = 0
  · have HU : Hid (V = moreT V (trB x)) := Lib.hid (by rw [HP2.out]; unfold moreT; simp [e2])
    subst e2
    go_upto_region 3 with fail
    obtain ⟨w4, hw4⟩ : ∃ w4, w4 = w2 := ⟨_, rfl⟩
    rw [← hw4] at z0 z1 z2 hb ⊢
    clear hw4
    obtain ⟨U, hU⟩ : ∃ U, U = V := ⟨_, rfl⟩
    have HU : Hid (U = moreT V (trB x)) := Lib.hid (by rw [hU]; exact HU.out)
    rw [← hU] at z0
    clear hU
    by_cases e4 : q4 = 0
    · have HE : Hid (U = moreM V A (trB x) (pfB x)) := Lib.hid (by rw [HU.out, HP.out]; unfold moreM; simp [e4])
      subst e4
      go_upto_region 5 with fail
      go_wp2_with (first | (with_reducible refine wpList_load_rel z0 rfl _ rfl rfl ?_) | (with_reducible refine wpList_store_rel z2 (U) rfl _ _ rfl rfl rfl ?_))
      have h3 := z2.setRow (U)
      exact bodyPost_ret (results_rel rfl _ _ _ _ rfl h3) rfl ⟨ret_rel HE.out, below_setRow hb (by omega) _⟩
    · have HE : Hid (orR U (thenR A U) = moreM V A (trB x) (pfB x)) := Lib.hid (by rw [HU.out, HP.out]; unfold moreM; simp [e4])
      go_upto_region 4 with fail
      have kd := (Below.refl w4.heap.size w4).drew
      have HV : Hid (∀ wx, Below w4.heap.size w4 wx → RelAt wx w.heap.size 37 U) := Lib.hid (fun wx hx => z0.below hx z0.lt)
      have HA : Hid (∀ wx, Below w4.heap.size w4 wx → RelAt wx (w.heap.size + 1) 37 A) := Lib.hid (fun wx hx => z1.below hx z1.lt)
      have HZ : Hid (∀ wx, Below w4.heap.size w4 wx → RelAt wx (w.heap.size + 2) 37 noR) := Lib.hid (fun wx hx => z2.below hx z2.lt)
      have HB := Lib.hid (fun wx (hx : Below w4.heap.size w4 wx) => hb.trans (hx.mono hb.size))
      have CT := Lib.hid (fun wx (hx : Below w4.heap.size w4 wx) => then_any A U wx (HT.out _ (hb.trans (hx.mono hb.size))))
      clear z0 z1 z2 hb
      refine wp_region_held_drew (S := fun wx => RelAt wx (w.heap.size + 1) 37 A) (by kernel_rfl) (HA.out _ kd) (fun hS0 => ?_)
      refine takeG (some 16) (i := 1) (v := _) rfl rfl (by kernel_rfl) (by kernel_rfl) (by kernel_rfl) (fun _ _ _ h => h) (yields_rel (by rfl) _ rfl rfl (fun wx hx => hx)) hS0 ?_
      try simp only [Act.put, List.setIfInBounds_toArray, List.set_cons_zero, List.set_cons_succ]
      refine wpAnyH_ready (rs := [0, 2]) (by kernel_rfl) (by simp) ?_
      refine AllReadyH.cons rfl (fun K hK => ?_) (AllReadyH.cons rfl (fun K hK => ?_) AllReadyH.nil)
      ·
        rw [if_pos (by rfl)]
        refine wp_load_rel (HV.out _ kd) _ rfl rfl ?_
        refine hK.out _ _ hS0 (fun _ => ?_)
        clear hK K
        refine wpAnyH_ready (rs := [2]) (by kernel_rfl) (by simp) ?_
        refine AllReadyH.cons rfl (fun K hK => ?_) AllReadyH.nil
        rw [if_pos (by rfl)]
        refine wp_load_rel (HV.out _ kd) _ rfl rfl ?_
        refine hK.out _ _ hS0 (fun _ => ?_)
        clear hK K
        refine wpAnyH_ready (rs := [3]) (by kernel_rfl) (by simp) ?_
        refine AllReadyH.cons rfl (fun K hK => ?_) AllReadyH.nil
        go_simp
        refine (CT.out _ kd).mono ?_
        rintro e q1 ⟨rfl, hq1⟩
        show K _ _
        have k1 := below_then kd hq1
        have s1 := HA.out _ k1
        refine hK.out _ _ s1 (fun _ => ?_)
        clear hK K
        refine wpAnyH_ready (rs := [4]) (by kernel_rfl) (by simp) ?_
        refine AllReadyH.cons rfl (fun K hK => ?_) AllReadyH.nil
        go_simp
        refine (union_any U (thenR A U) _).mono ?_
        rintro e q2 ⟨rfl, hq2⟩
        show K _ _
        have k2 := below_then k1 hq2
        have s2 := HA.out _ k2
        refine hK.out _ _ s2 (fun _ => ?_)
        clear hK K
        refine wpAnyH_ready (rs := [5]) (by kernel_rfl) (by simp) ?_
        refine AllReadyH.cons rfl (fun K hK => ?_) AllReadyH.nil
        rw [if_pos (by rfl)]
        refine wp_store_rel (HV.out _ k2) (orR U (thenR A U)) _ _ rfl rfl rfl ?_
        refine hK.out _ _ ((HA.out _ k2).far (by omega) _) (fun _ => ?_)
        clear hK K
        refine wpAnyH_done (by kernel_rfl) ?_ _
        have z0 := (HV.out _ k2).setRow (orR U (thenR A U))
        have z2 := (HZ.out _ k2).far (g' := w.heap.size) (by omega) (rowsA (orR U (thenR A U)))
        have hb := below_setRow (HB.out _ k2) (g := w.heap.size) (by omega) (rowsA (orR U (thenR A U)))
        generalize World.setRow _ _ _ = w5 at *
        clear HV HZ HB HA CT kd
        go_wp2_with (first | (with_reducible refine wpList_load_rel z0 rfl _ rfl rfl ?_) | (with_reducible refine wpList_store_rel z2 (orR U (thenR A U)) rfl _ _ rfl rfl rfl ?_))
        have h3 := z2.setRow (orR U (thenR A U))
        exact bodyPost_ret (results_rel rfl _ _ _ _ rfl h3) rfl ⟨ret_rel HE.out, below_setRow hb (by omega) _⟩
      ·
        rw [if_pos (by rfl)]
        refine wp_load_rel (HV.out _ kd) _ rfl rfl ?_
        refine hK.out _ _ hS0 (fun _ => ?_)
        clear hK K
        refine wpAnyH_ready (rs := [0, 3]) (by kernel_rfl) (by simp) ?_
        refine AllReadyH.cons rfl (fun K hK => ?_) (AllReadyH.cons rfl (fun K hK => ?_) AllReadyH.nil)
        ·
          rw [if_pos (by rfl)]
          refine wp_load_rel (HV.out _ kd) _ rfl rfl ?_
          refine hK.out _ _ hS0 (fun _ => ?_)
          clear hK K
          refine wpAnyH_ready (rs := [3]) (by kernel_rfl) (by simp) ?_
          refine AllReadyH.cons rfl (fun K hK => ?_) AllReadyH.nil
          go_simp
          refine (CT.out _ kd).mono ?_
          rintro e q3 ⟨rfl, hq3⟩
          show K _ _
          have k3 := below_then kd hq3
          have s3 := HA.out _ k3
          refine hK.out _ _ s3 (fun _ => ?_)
          clear hK K
          refine wpAnyH_ready (rs := [4]) (by kernel_rfl) (by simp) ?_
          refine AllReadyH.cons rfl (fun K hK => ?_) AllReadyH.nil
          go_simp
          refine (union_any U (thenR A U) _).mono ?_
          rintro e q4 ⟨rfl, hq4⟩
          show K _ _
          have k4 := below_then k3 hq4
          have s4 := HA.out _ k4
          refine hK.out _ _ s4 (fun _ => ?_)
          clear hK K
          refine wpAnyH_ready (rs := [5]) (by kernel_rfl) (by simp) ?_
          refine AllReadyH.cons rfl (fun K hK => ?_) AllReadyH.nil
          rw [if_pos (by rfl)]
          refine wp_store_rel (HV.out _ k4) (orR U (thenR A U)) _ _ rfl rfl rfl ?_
          refine hK.out _ _ ((HA.out _ k4).far (by omega) _) (fun _ => ?_)
          clear hK K
          refine wpAnyH_done (by kernel_rfl) ?_ _
          have z0 := (HV.out _ k4).setRow (orR U (thenR A U))
          have z2 := (HZ.out _ k4).far (g' := w.heap.size) (by omega) (rowsA (orR U (thenR A U)))
          have hb := below_setRow (HB.out _ k4) (g := w.heap.size) (by omega) (rowsA (orR U (thenR A U)))
          generalize World.setRow _ _ _ = w5 at *
          clear HV HZ HB HA CT kd
          go_wp2_with (first | (with_reducible refine wpList_load_rel z0 rfl _ rfl rfl ?_) | (with_reducible refine wpList_store_rel z2 (orR U (thenR A U)) rfl _ _ rfl rfl rfl ?_))
          have h3 := z2.setRow (orR U (thenR A U))
          exact bodyPost_ret (results_rel rfl _ _ _ _ rfl h3) rfl ⟨ret_rel HE.out, below_setRow hb (by omega) _⟩
        ·
          go_simp
          refine (CT.out _ kd).mono ?_
          rintro e q5 ⟨rfl, hq5⟩
          show K _ _
          have k5 := below_then kd hq5
          have s5 := HA.out _ k5
          refine hK.out _ _ s5 (fun _ => ?_)
          clear hK K
          refine wpAnyH_ready (rs := [0]) (by kernel_rfl) (by simp) ?_
          refine AllReadyH.cons rfl (fun K hK => ?_) AllReadyH.nil
          rw [if_pos (by rfl)]
          refine wp_load_rel (HV.out _ k5) _ rfl rfl ?_
          refine hK.out _ _ s5 (fun _ => ?_)
          clear hK K
          refine wpAnyH_ready (rs := [4]) (by kernel_rfl) (by simp) ?_
          refine AllReadyH.cons rfl (fun K hK => ?_) AllReadyH.nil
          go_simp
          refine (union_any U (thenR A U) _).mono ?_
          rintro e q6 ⟨rfl, hq6⟩
          show K _ _
          have k6 := below_then k5 hq6
          have s6 := HA.out _ k6
          refine hK.out _ _ s6 (fun _ => ?_)
          clear hK K
          refine wpAnyH_ready (rs := [5]) (by kernel_rfl) (by simp) ?_
          refine AllReadyH.cons rfl (fun K hK => ?_) AllReadyH.nil
          rw [if_pos (by rfl)]
          refine wp_store_rel (HV.out _ k6) (orR U (thenR A U)) _ _ rfl rfl rfl ?_
          refine hK.out _ _ ((HA.out _ k6).far (by omega) _) (fun _ => ?_)
          clear hK K
          refine wpAnyH_done (by kernel_rfl) ?_ _
          have z0 := (HV.out _ k6).setRow (orR U (thenR A U))
          have z2 := (HZ.out _ k6).far (g' := w.heap.size) (by omega) (rowsA (orR U (thenR A U)))
          have hb := below_setRow (HB.out _ k6) (g := w.heap.size) (by omega) (rowsA (orR U (thenR A U)))
          generalize World.setRow _ _ _ = w5 at *
          clear HV HZ HB HA CT kd
          go_wp2_with (first | (with_reducible refine wpList_load_rel z0 rfl _ rfl rfl ?_) | (with_reducible refine wpList_store_rel z2 (orR U (thenR A U)) rfl _ _ rfl rfl rfl ?_))
          have h3 := z2.setRow (orR U (thenR A U))
          exact bodyPost_ret (results_rel rfl _ _ _ _ rfl h3) rfl ⟨ret_rel HE.out, below_setRow hb (by omega) _⟩
  · have HU : Hid (clo V = moreT V (trB x)) := Lib.hid (by rw [HP2.out]; unfold moreT; simp [e2])
    go_wp2_with (with_reducible refine wpList_load_rel z0 rfl _ rfl rfl ?_)
    refine (rclos_any V _).mono ?_
    rintro e w3 ⟨rfl, hb3⟩
    have z0 := z0.below hb3 z0.lt
    have z1 := (z1.below hb3 z1.lt).far (g' := w.heap.size) (by omega) (rowsA (clo V))
    have z2 := (z2.below hb3 z2.lt).far (g' := w.heap.size) (by omega) (rowsA (clo V))
    have hb := below_setRow (hb.trans (hb3.mono hb.size)) (g := w.heap.size) (by omega) (rowsA (clo V))
    clear hb3
    go_upto_region 3 with (with_reducible refine wpList_store_rel z0 (clo V) rfl _ _ rfl rfl rfl ?_)
    have z0 := z0.setRow (clo V)
    generalize World.setRow _ _ _ = w4 at *
    generalize clo V = U at *
    by_cases e4 : q4 = 0
    · have HE : Hid (U = moreM V A (trB x) (pfB x)) := Lib.hid (by rw [HU.out, HP.out]; unfold moreM; simp [e4])
      subst e4
      go_upto_region 5 with fail
      go_wp2_with (first | (with_reducible refine wpList_load_rel z0 rfl _ rfl rfl ?_) | (with_reducible refine wpList_store_rel z2 (U) rfl _ _ rfl rfl rfl ?_))
      have h3 := z2.setRow (U)
      exact bodyPost_ret (results_rel rfl _ _ _ _ rfl h3) rfl ⟨ret_rel HE.out, below_setRow hb (by omega) _⟩
    · have HE : Hid (orR U (thenR A U) = moreM V A (trB x) (pfB x)) := Lib.hid (by rw [HU.out, HP.out]; unfold moreM; simp [e4])
      go_upto_region 4 with fail
      have kd := (Below.refl w4.heap.size w4).drew
      have HV : Hid (∀ wx, Below w4.heap.size w4 wx → RelAt wx w.heap.size 37 U) := Lib.hid (fun wx hx => z0.below hx z0.lt)
      have HA : Hid (∀ wx, Below w4.heap.size w4 wx → RelAt wx (w.heap.size + 1) 37 A) := Lib.hid (fun wx hx => z1.below hx z1.lt)
      have HZ : Hid (∀ wx, Below w4.heap.size w4 wx → RelAt wx (w.heap.size + 2) 37 noR) := Lib.hid (fun wx hx => z2.below hx z2.lt)
      have HB := Lib.hid (fun wx (hx : Below w4.heap.size w4 wx) => hb.trans (hx.mono hb.size))
      have CT := Lib.hid (fun wx (hx : Below w4.heap.size w4 wx) => then_any A U wx (HT.out _ (hb.trans (hx.mono hb.size))))
      clear z0 z1 z2 hb
      refine wp_region_held_drew (S := fun wx => RelAt wx (w.heap.size + 1) 37 A) (by kernel_rfl) (HA.out _ kd) (fun hS0 => ?_)
      refine takeG (some 16) (i := 1) (v := _) rfl rfl (by kernel_rfl) (by kernel_rfl) (by kernel_rfl) (fun _ _ _ h => h) (yields_rel (by rfl) _ rfl rfl (fun wx hx => hx)) hS0 ?_
      try simp only [Act.put, List.setIfInBounds_toArray, List.set_cons_zero, List.set_cons_succ]
      refine wpAnyH_ready (rs := [0, 2]) (by kernel_rfl) (by simp) ?_
      refine AllReadyH.cons rfl (fun K hK => ?_) (AllReadyH.cons rfl (fun K hK => ?_) AllReadyH.nil)
      ·
        rw [if_pos (by rfl)]
        refine wp_load_rel (HV.out _ kd) _ rfl rfl ?_
        refine hK.out _ _ hS0 (fun _ => ?_)
        clear hK K
        refine wpAnyH_ready (rs := [2]) (by kernel_rfl) (by simp) ?_
        refine AllReadyH.cons rfl (fun K hK => ?_) AllReadyH.nil
        rw [if_pos (by rfl)]
        refine wp_load_rel (HV.out _ kd) _ rfl rfl ?_
        refine hK.out _ _ hS0 (fun _ => ?_)
        clear hK K
        refine wpAnyH_ready (rs := [3]) (by kernel_rfl) (by simp) ?_
        refine AllReadyH.cons rfl (fun K hK => ?_) AllReadyH.nil
        go_simp
        refine (CT.out _ kd).mono ?_
        rintro e q1 ⟨rfl, hq1⟩
        show K _ _
        have k1 := below_then kd hq1
        have s1 := HA.out _ k1
        refine hK.out _ _ s1 (fun _ => ?_)
        clear hK K
        refine wpAnyH_ready (rs := [4]) (by kernel_rfl) (by simp) ?_
        refine AllReadyH.cons rfl (fun K hK => ?_) AllReadyH.nil
        go_simp
        refine (union_any U (thenR A U) _).mono ?_
        rintro e q2 ⟨rfl, hq2⟩
        show K _ _
        have k2 := below_then k1 hq2
        have s2 := HA.out _ k2
        refine hK.out _ _ s2 (fun _ => ?_)
        clear hK K
        refine wpAnyH_ready (rs := [5]) (by kernel_rfl) (by simp) ?_
        refine AllReadyH.cons rfl (fun K hK => ?_) AllReadyH.nil
        rw [if_pos (by rfl)]
        refine wp_store_rel (HV.out _ k2) (orR U (thenR A U)) _ _ rfl rfl rfl ?_
        refine hK.out _ _ ((HA.out _ k2).far (by omega) _) (fun _ => ?_)
        clear hK K
        refine wpAnyH_done (by kernel_rfl) ?_ _
        have z0 := (HV.out _ k2).setRow (orR U (thenR A U))
        have z2 := (HZ.out _ k2).far (g' := w.heap.size) (by omega) (rowsA (orR U (thenR A U)))
        have hb := below_setRow (HB.out _ k2) (g := w.heap.size) (by omega) (rowsA (orR U (thenR A U)))
        generalize World.setRow _ _ _ = w5 at *
        clear HV HZ HB HA CT kd
        go_wp2_with (first | (with_reducible refine wpList_load_rel z0 rfl _ rfl rfl ?_) | (with_reducible refine wpList_store_rel z2 (orR U (thenR A U)) rfl _ _ rfl rfl rfl ?_))
        have h3 := z2.setRow (orR U (thenR A U))
        exact bodyPost_ret (results_rel rfl _ _ _ _ rfl h3) rfl ⟨ret_rel HE.out, below_setRow hb (by omega) _⟩
      ·
        rw [if_pos (by rfl)]
        refine wp_load_rel (HV.out _ kd) _ rfl rfl ?_
        refine hK.out _ _ hS0 (fun _ => ?_)
        clear hK K
        refine wpAnyH_ready (rs := [0, 3]) (by kernel_rfl) (by simp) ?_
        refine AllReadyH.cons rfl (fun K hK => ?_) (AllReadyH.cons rfl (fun K hK => ?_) AllReadyH.nil)
        ·
          rw [if_pos (by rfl)]
          refine wp_load_rel (HV.out _ kd) _ rfl rfl ?_
          refine hK.out _ _ hS0 (fun _ => ?_)
          clear hK K
          refine wpAnyH_ready (rs := [3]) (by kernel_rfl) (by simp) ?_
          refine AllReadyH.cons rfl (fun K hK => ?_) AllReadyH.nil
          go_simp
          refine (CT.out _ kd).mono ?_
          rintro e q3 ⟨rfl, hq3⟩
          show K _ _
          have k3 := below_then kd hq3
          have s3 := HA.out _ k3
          refine hK.out _ _ s3 (fun _ => ?_)
          clear hK K
          refine wpAnyH_ready (rs := [4]) (by kernel_rfl) (by simp) ?_
          refine AllReadyH.cons rfl (fun K hK => ?_) AllReadyH.nil
          go_simp
          refine (union_any U (thenR A U) _).mono ?_
          rintro e q4 ⟨rfl, hq4⟩
          show K _ _
          have k4 := below_then k3 hq4
          have s4 := HA.out _ k4
          refine hK.out _ _ s4 (fun _ => ?_)
          clear hK K
          refine wpAnyH_ready (rs := [5]) (by kernel_rfl) (by simp) ?_
          refine AllReadyH.cons rfl (fun K hK => ?_) AllReadyH.nil
          rw [if_pos (by rfl)]
          refine wp_store_rel (HV.out _ k4) (orR U (thenR A U)) _ _ rfl rfl rfl ?_
          refine hK.out _ _ ((HA.out _ k4).far (by omega) _) (fun _ => ?_)
          clear hK K
          refine wpAnyH_done (by kernel_rfl) ?_ _
          have z0 := (HV.out _ k4).setRow (orR U (thenR A U))
          have z2 := (HZ.out _ k4).far (g' := w.heap.size) (by omega) (rowsA (orR U (thenR A U)))
          have hb := below_setRow (HB.out _ k4) (g := w.heap.size) (by omega) (rowsA (orR U (thenR A U)))
          generalize World.setRow _ _ _ = w5 at *
          clear HV HZ HB HA CT kd
          go_wp2_with (first | (with_reducible refine wpList_load_rel z0 rfl _ rfl rfl ?_) | (with_reducible refine wpList_store_rel z2 (orR U (thenR A U)) rfl _ _ rfl rfl rfl ?_))
          have h3 := z2.setRow (orR U (thenR A U))
          exact bodyPost_ret (results_rel rfl _ _ _ _ rfl h3) rfl ⟨ret_rel HE.out, below_setRow hb (by omega) _⟩
        ·
          go_simp
          refine (CT.out _ kd).mono ?_
          rintro e q5 ⟨rfl, hq5⟩
          show K _ _
          have k5 := below_then kd hq5
          have s5 := HA.out _ k5
          refine hK.out _ _ s5 (fun _ => ?_)
          clear hK K
          refine wpAnyH_ready (rs := [0]) (by kernel_rfl) (by simp) ?_
          refine AllReadyH.cons rfl (fun K hK => ?_) AllReadyH.nil
          rw [if_pos (by rfl)]
          refine wp_load_rel (HV.out _ k5) _ rfl rfl ?_
          refine hK.out _ _ s5 (fun _ => ?_)
          clear hK K
          refine wpAnyH_ready (rs := [4]) (by kernel_rfl) (by simp) ?_
          refine AllReadyH.cons rfl (fun K hK => ?_) AllReadyH.nil
          go_simp
          refine (union_any U (thenR A U) _).mono ?_
          rintro e q6 ⟨rfl, hq6⟩
          show K _ _
          have k6 := below_then k5 hq6
          have s6 := HA.out _ k6
          refine hK.out _ _ s6 (fun _ => ?_)
          clear hK K
          refine wpAnyH_ready (rs := [5]) (by kernel_rfl) (by simp) ?_
          refine AllReadyH.cons rfl (fun K hK => ?_) AllReadyH.nil
          rw [if_pos (by rfl)]
          refine wp_store_rel (HV.out _ k6) (orR U (thenR A U)) _ _ rfl rfl rfl ?_
          refine hK.out _ _ ((HA.out _ k6).far (by omega) _) (fun _ => ?_)
          clear hK K
          refine wpAnyH_done (by kernel_rfl) ?_ _
          have z0 := (HV.out _ k6).setRow (orR U (thenR A U))
          have z2 := (HZ.out _ k6).far (g' := w.heap.size) (by omega) (rowsA (orR U (thenR A U)))
          have hb := below_setRow (HB.out _ k6) (g := w.heap.size) (by omega) (rowsA (orR U (thenR A U)))
          generalize World.setRow _ _ _ = w5 at *
          clear HV HZ HB HA CT kd
          go_wp2_with (first | (with_reducible refine wpList_load_rel z0 rfl _ rfl rfl ?_) | (with_reducible refine wpList_store_rel z2 (orR U (thenR A U)) rfl _ _ rfl rfl rfl ?_))
          have h3 := z2.setRow (orR U (thenR A U))
          exact bodyPost_ret (results_rel rfl _ _ _ _ rfl h3) rfl ⟨ret_rel HE.out, below_setRow hb (by omega) _⟩
end Go.Proofs.YtfancjmhdbaoeaaGreatDoor

namespace Go.Proofs.YtfancjmhdbaoeaaGreatDoor
set_option maxRecDepth 100000
open Go.RowKit

/-- Both relations and both lists of pairs lie where they lie; nothing older has changed. -/
def St (w0 : World) (g h : Nat) (R S : Mat) (v x : Value) (m n : List Pr) (w : World) : Prop :=
  RelAt w g 37 R ∧ RelAt w h 37 S ∧ Prs w v m ∧ Prs w x n ∧ Below w0.heap.size w0 w
theorem St.below {w0 : World} {g h : Nat} {R S : Mat} {v x : Value} {m n : List Pr} {w w' : World} (hs : St w0 g h R S v x m n w) (hb : Below w.heap.size w w') : St w0 g h R S v x m n w' :=
  ⟨hs.1.below hb hs.1.lt, hs.2.1.below hb hs.2.1.lt, hs.2.2.1.below hb, hs.2.2.2.1.below hb, hs.2.2.2.2.trans (hb.mono hs.2.2.2.2.size)⟩
theorem St.alloc {w0 : World} {g h : Nat} {R S : Mat} {v x : Value} {m n : List Pr} {w : World} (hs : St w0 g h R S v x m n w) (o : Obj) : St w0 g h R S v x m n (w.alloc o) :=
  hs.below ((Below.refl _ _).alloc (Nat.le_refl _) _)
/-- A slice of pairs lies where it lies, whatever becomes of one block. -/
def Off (q : Nat) (w : World) (v : Value) (l : List Pr) : Prop := ∀ w', w.grownBy w' (some q) → Prs w' v l
theorem grownBy_of_below {w w' : World} (hb : Below w.heap.size w w') (q : Option Nat) : w.grownBy w' q := ⟨hb.os, hb.tape, hb.output, hb.size, fun k hk _ => hb.block k hk⟩
theorem Off.below {q : Nat} {w w' : World} {v : Value} {l : List Pr} (h : Off q w v l) (hb : Below w.heap.size w w') : Off q w' v l :=
  fun w2 hg => h w2 ((grownBy_of_below hb (some q)).trans hg)
theorem Off.of_owns {q base : Nat} {w : World} {e : TypeId} {v : Value} {n : Nat} {l : List Pr} (h : w.ownsRow base e 2 v n (prV l)) (hq : q < base) : Off q w v l :=
  fun w2 hg => Prs.of_owns (h.kept hg (by
    rcases ho : v.ownBlock with _ | g
    · exact .inl rfl
    · right; have := (h.lt g ho).1; intro e; cases e; omega))
end Go.Proofs.YtfancjmhdbaoeaaGreatDoor

namespace Go.Proofs.YtfancjmhdbaoeaaGreatDoor
set_option maxRecDepth 100000
open Go.RowKit

/-- What a row holds. -/
def behB (L : List Int) (j : Nat) : Bool := L.any fun a => a == (j : Int)
/-- A row as a relation: each stands to all behind it. -/
def chainR : List Int → Mat
  | [] => noR
  | a :: L => fun x y => chainR L x y || (a == (x : Int) && behB L y)
theorem chain_row (a : Nat) (L : List Int) : rowsA (rowSet (chainR L) a fun j => chainR L a j || behB L j) = rowsA (chainR ((a : Int) :: L)) :=
  rowsA_congr fun i j _ _ => by
    unfold rowSet
    simp only [chainR]
    by_cases h : i = a
    · subst h; simp
    · rw [if_neg h]
      have : ((a : Int) == (i : Int)) = false := by rw [beq_eq_false_iff_ne]; omega
      rw [this]; simp
theorem chain_skip (a : Int) (L : List Int) (h : ¬ (0 ≤ a ∧ a < 64)) : rowsA (chainR L) = rowsA (chainR (a :: L)) :=
  rowsA_congr fun i j hi _ => by
    simp only [chainR]
    have : (a == (i : Int)) = false := by rw [beq_eq_false_iff_ne]; omega
    rw [this]; simp
theorem beh_row (a : Nat) (L : List Int) : mkS (fun j => behB L j || decide (j = a)) = mkS (behB ((a : Int) :: L)) :=
  mkS_congr fun j _ => by
    unfold behB
    rw [List.any_cons, Bool.or_comm]
    congr 1
    rw [Bool.eq_iff_iff, decide_eq_true_iff, beq_iff_eq]; omega
theorem beh_skip (a : Int) (L : List Int) (h : ¬ (0 ≤ a ∧ a < 64)) : mkS (behB L) = mkS (behB (a :: L)) :=
  mkS_congr fun j hj => by
    unfold behB
    rw [List.any_cons]
    have : (a == (j : Int)) = false := by rw [beq_eq_false_iff_ne]; omega
    rw [this]; rfl
theorem RelAt.as {w : World} {g : Nat} {t : TypeId} {R S : Mat} (h : RelAt w g t R) (e : rowsA R = rowsA S) : RelAt w g t S := by
  unfold RelAt at *; rw [← e]; exact h
set_option maxHeartbeats 2000000 in
theorem chain_any (va : Value) (l : List Int) (w : World) (ha : Ints w va l) :
    Calls Tryz.prog 116 #[va] w fun e w' => e = .returned (.agg (rowsA (chainR l))) ∧ Below w.heap.size w w' := by
  obtain ⟨ao, cap, rfl, hlen⟩ := ha.form
  have HA : Hid (∀ wx, Below w.heap.size w wx → Ints wx (.slice ao l.length cap) l) := Lib.hid (fun wx hb => ha.below hb)
  clear ha
  go_enter Tryz.func116, Tryz.ntmps116
  go_wp2
  go_loopw [4, 5] (fun v i wr => ∃ k : Nat, k ≤ l.length ∧ i = .int .i64 ((k : Int) - 1) ∧ v = .int .u64 ((mkS (behB (l.drop k)) : Nat) : Int) ∧ RelAt wr (w.heap.size + 1) 37 (chainR (l.drop k)) ∧ RelAt wr w.heap.size 37 noR ∧ Below w.heap.size w wr)
    (fun _ i _ => (intOf i + 1).toNat)
  case atStart =>
    refine ⟨l.length, by omega, rfl, ?_, ?_, ?_, ?_⟩
    · rw [List.drop_length]
      have : mkS (behB []) = 0 := mkS_false
      rw [this]; rfl
    · rw [List.drop_length]
      exact RelAt.made _ _ noR (by simp) (by rw [rowsA_none]; rfl)
    · exact (RelAt.made w _ noR rfl (by rw [rowsA_none]; rfl)).alloc _
    · exact ((Below.refl w.heap.size w).alloc (Nat.le_refl _) _).alloc (by simp) _
  case round =>
    obtain ⟨k, hk, hi, rfl, h1, h0, hb⟩ := hrel
    cases k with
    | zero =>
      obtain rfl : u5 = .int .i64 (-1) := hi
      rw [List.drop_zero] at h1
      go_wp2_with (first
        | (with_reducible refine wpList_load_rel h1 rfl _ rfl rfl ?_)
        | (with_reducible refine wpList_store_rel h0 (chainR l) rfl _ _ rfl rfl rfl ?_))
      have h3 := h0.setRow (chainR l)
      exact bodyPost_ret (results_rel rfl _ _ _ _ rfl h3) rfl ⟨rfl, below_setRow hb (Nat.le_refl _) _⟩
    | succ k =>
      have hi' : (((k + 1 : Nat) : Int) - 1) = (k : Int) := by omega
      rw [hi'] at hi
      subst hi
      have hki : (k : Int) < (l.length : Int) := by omega
      have hlt : k < l.length := by omega
      have hd : l.drop k = l[k] :: l.drop (k + 1) := List.drop_eq_getElem_cons hlt
      have HD := Lib.hid hd
      clear hd
      have HC := Lib.hid (fun (wx : World) (hbx : Below w.heap.size w wx) => (HA.out wx hbx).at hlt)
      obtain ⟨p, off, hao, hc⟩ := HC.out _ hb
      cases hao
      generalize l[k] = a at *
      generalize l.drop (k + 1) = L at *
      by_cases ha : 0 ≤ a ∧ a < 64
      · obtain ⟨n, rfl⟩ := Int.eq_ofNat_of_zero_le ha.1
        have hn : n < 64 := by omega
        have hc1 := h1.cell hn
        have hf := h1.free n
        have HO := u64_or (chainR L n) (behB L)
        have CM := Lib.hid (fun wx => may_yes (n : Int) wx ha)
        have HROW := Lib.hid (chain_row n L)
        have CW := Lib.hid (fun wx => with_any (mkS (behB L)) (n : Int) wx (isSet_mkS _))
        have HBEH := Lib.hid ((withS_mkS (behB L) n hn).trans (beh_row n L))
        have HN := Lib.hid (h1.store n _ (fun j => chainR L n j || behB L j) rfl)
        have H0 := Lib.hid (h0.other (k := ⟨w.heap.size + 1, n, none⟩) (by simp) (.int .u64 ((mkS (fun j => chainR L n j || behB L j) : Nat) : Int)))
        have HB := Lib.hid (hb.setCell (p := ⟨w.heap.size + 1, n, none⟩) (by simp) (.int .u64 ((mkS (fun j => chainR L n j || behB L j) : Nat) : Int)))
        clear h1 h0 ha
        generalize mkS (fun j => chainR L n j || behB L j) = z at *
        generalize mkS (chainR L n) = x at *
        generalize mkS (behB L) = y at *
        have hn64 : (n : Int) < 64 := by omega
        go_wp2_with fail
        refine (CM.out _).mono ?_
        rintro e w' ⟨rfl, rfl⟩
        obtain ⟨_, _, hao2, hc2⟩ := HC.out _ HB.out
        cases hao2
        go_wp2_with fail
        refine (CW.out _).mono ?_
        rintro e w' ⟨rfl, rfl⟩
        go_wp2_with fail
        go_roundw
        case rel => exact ⟨k, by omega, by go_num, by rw [HD.out, ← HBEH.out], by rw [HD.out]; exact (RelAt.as HN.out HROW.out), H0.out, HB.out⟩
        case measure => (simp [intOf]) <;> omega
      · have CM := Lib.hid (fun wx => may_no a wx ha)
        have HROW := Lib.hid (chain_skip a L ha)
        have HBEH := Lib.hid (beh_skip a L ha)
        have H1 := Lib.hid h1
        have H0 := Lib.hid h0
        clear h1 h0 ha
        generalize mkS (behB L) = y at *
        go_wp2_with fail
        refine (CM.out _).mono ?_
        rintro e w' ⟨rfl, rfl⟩
        go_wp2_with fail
        go_roundw
        case rel => exact ⟨k, by omega, by go_num, by rw [HD.out, ← HBEH.out], by rw [HD.out]; exact (RelAt.as H1.out HROW.out), H0.out, hb⟩
        case measure => (simp [intOf]) <;> omega
end Go.Proofs.YtfancjmhdbaoeaaGreatDoor
