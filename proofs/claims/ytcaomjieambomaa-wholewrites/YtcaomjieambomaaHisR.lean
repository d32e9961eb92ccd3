/- Plain facts: what a history that may be says of its reads, and which of its beginnings may be. Nothing of the program. -/
import Derived.Test.YtcaomjieambomaaHisQ
namespace Go.Proofs.Ytcaomjieambomaa
set_option maxRecDepth 100000
open Go.RowKit

theorem wrI_at {key x : Int} {h : List TxnV} (hn : ¬ wrI key x h < 0) : ∃ i, ∃ hi : i < h.length, wrI key x h = i ∧ ∃ o ∈ h[i].l, isWr key x o = true := by
  unfold wrI at hn ⊢
  cases hf : h.findIdx? (fun t => t.l.any (isWr key x)) with
  | none => rw [hf] at hn; exact absurd (by decide) hn
  | some i =>
    rw [List.findIdx?_eq_some_iff_getElem] at hf
    obtain ⟨hi, h1, _⟩ := hf
    obtain ⟨o, ho, hw⟩ := List.any_eq_true.1 h1
    exact ⟨i, hi, rfl, o, ho, hw⟩
theorem isWr_iff {key x : Int} {o : OpV} : isWr key x o = true ↔ o.wr = true ∧ o.key = key ∧ o.val = x := by unfold isWr; simp
theorem may_rows {h : List TxnV} (hm : mayRef h = true) : ∀ k, ∀ hk : k < h.length, rowR h k h[k] = true := fun k hk => by
  have := List.all_eq_true.1 hm k (List.mem_range.2 hk)
  rwa [List.getElem?_eq_getElem hk] at this
theorem rowR_iff {h : List TxnV} {k : Nat} {t : TxnV} : rowR h k t = true ↔ mayT t.s t.b t.c t.l = true ∧ (h.take k).all (fun a => apartB a t) = true ∧ ∀ o ∈ t.l, opR h o = true := by
  unfold rowR
  rw [Bool.and_eq_true, Bool.and_eq_true, List.all_eq_true (p := opR h)]
theorem may_wr {h : List TxnV} (hm : mayRef h = true) {i : Nat} (hi : i < h.length) {o : OpV} (ho : o ∈ h[i].l) (wo : o.wr = true) : wrTo h h.length o.val = some ⟨i, o.key, vOf h[i].l o.key == o.val⟩ := by
  obtain ⟨hw, hk⟩ := may_parts hm
  exact wrTo_at hk h.length (Nat.le_refl _) (by rw [List.take_length]; unfold okW at hw; simpa using hw) i hi hi o ho wo
/-- What is told of a value that is read: who wrote it, to that key; of 0 nothing. -/
theorem reads_F {h : List TxnV} (hm : mayRef h = true) {k : Nat} (hk : k < h.length) {o : OpV} (ho : o ∈ h[k].l) (wo : o.wr = false) :
    (o.val = 0 ∧ wrTo h h.length 0 = none) ∨ (o.val ≠ 0 ∧ ∃ u, wrTo h h.length o.val = some u ∧ u.key = o.key ∧ wrI o.key o.val h = u.i) := by
  by_cases h0 : o.val = 0
  · refine .inl ⟨h0, ?_⟩
    cases hF : wrTo h h.length 0 with
    | none => rfl
    | some u =>
      obtain ⟨p, hp, hpv, _⟩ := real_wr h h.length (Nat.le_refl _) 0 u hF
      obtain ⟨t, ht, hpt, hpw⟩ := wrs_mem.1 hp
      obtain ⟨i, hi, rfl⟩ := List.getElem_of_mem ht
      have h1 := (rowR_iff.1 (may_rows hm i hi)).1
      unfold mayT at h1
      simp only [Bool.and_eq_true] at h1
      have h2 := (mayO_iff p).1 (List.all_eq_true.1 h1.2 p hpt)
      exact absurd hpv (h2.2.2 hpw)
  · refine .inr ⟨h0, ?_⟩
    have h1 := (rowR_iff.1 (may_rows hm k hk)).2.2 o ho
    unfold opR at h1
    rw [wo] at h1
    have h2 : ¬ wrI o.key o.val h < 0 := by simpa [h0] using h1
    obtain ⟨i, hi, he, p, hp, hpw⟩ := wrI_at h2
    obtain ⟨q1, q2, q3⟩ := isWr_iff.1 hpw
    have h3 := may_wr hm hi hp q1
    rw [q3, q2] at h3
    exact ⟨_, h3, rfl, he⟩
/-- Does one of the first n transactions read what transaction n writes? -/
def needO (F : Int → Option WV) (n : Nat) (o : OpV) : Bool := !o.wr && (o.val != 0 && (((F o.val).getD wZ).i == (n : Int)))
def needB (F : Int → Option WV) (n : Nat) (h : List TxnV) : Bool := h.any fun t => t.l.any (needO F n)
theorem prefix_ref {h : List TxnV} {n : Nat} (hn : h.length = n + 1) (hm : mayRef h = true) : mayRef (h.take n) = !needB (wrTo h h.length) n (h.take n) := by
  have hlen : (h.take n).length = n := by rw [List.length_take]; omega
  have hget : ∀ k, ∀ hk : k < (h.take n).length, (h.take n)[k] = h[k]'(by omega) := fun k hk => by rw [List.getElem_take]
  have hwp : okW (h.take n) = true := by
    have hw := (may_parts hm).1
    unfold okW at hw ⊢
    rw [decide_eq_true_eq] at hw ⊢
    have e : wvH h = wvH (h.take n) ++ wvH (h.drop n) := by unfold wvH; rw [← List.flatMap_append, List.take_append_drop]
    rw [e] at hw
    exact (List.nodup_append.1 hw).1
  have key : ∀ k, ∀ hk : k < n, ∀ o ∈ (h[k]'(by omega)).l, opR (h.take n) o = !needO (wrTo h h.length) n o := fun k hk o ho => by
    unfold opR needO
    cases wo : o.wr with
    | true =>
      have := okW_count.1 hwp (h[k]'(by omega)) (by rw [List.mem_take_iff_getElem]; exact ⟨k, by omega, rfl⟩) o ho wo
      simp [this]
    | false =>
      rcases reads_F hm (show k < h.length by omega) ho wo with ⟨h0, hF⟩ | ⟨h0, u, hF, hu, hi⟩
      · simp [h0]
      · rw [hF]
        simp only [Bool.false_eq_true, if_false, Bool.not_false, Bool.true_and, Option.getD_some]
        have h1 : ¬ wrI o.key o.val h < 0 := by
          have h1 := (rowR_iff.1 (may_rows hm k (by omega))).2.2 o ho
          unfold opR at h1
          rw [wo] at h1
          simpa [h0] using h1
        obtain ⟨i, hi2, he, p, hp, hpw⟩ := wrI_at h1
        have hui : u.i = (i : Int) := by rw [← hi, he]
        have hz : (o.val == 0) = false := by simpa using h0
        rw [hz]
        simp only [Bool.false_or, bne, hz, Bool.not_false, Bool.true_and]
        rw [hui]
        by_cases hin : i = n
        · have h2 : wrI o.key o.val (h.take n) < 0 := by
            rw [wrI_nonneg]
            intro t ht q hq
            rw [List.mem_take_iff_getElem] at ht
            obtain ⟨j, hj, rfl⟩ := ht
            cases hqw : isWr o.key o.val q with
            | false => rfl
            | true =>
              obtain ⟨q1, q2, q3⟩ := isWr_iff.1 hqw
              obtain ⟨p1, p2, p3⟩ := isWr_iff.1 hpw
              have e1 := may_wr hm (show j < h.length by omega) hq q1
              have e2 := may_wr hm hi2 hp p1
              rw [q3] at e1
              rw [p3, e1] at e2
              have := congrArg WV.i (Option.some.inj e2)
              simp only at this
              omega
          simp [h2, hin]
        · have h2 : ¬ wrI o.key o.val (h.take n) < 0 := by
            rw [wrI_nonneg]
            intro hall
            have := hall (h[i]) (by rw [List.mem_take_iff_getElem]; exact ⟨i, by omega, rfl⟩) p hp
            rw [this] at hpw; cases hpw
          have h3 : ¬ (i : Int) = (n : Int) := by omega
          simp [h2, h3]
  rw [Bool.eq_iff_iff]
  constructor
  · intro hp
    rw [Bool.not_eq_true', needB, List.any_eq_false]
    intro t ht
    rw [Bool.not_eq_true, List.any_eq_false]
    intro o ho
    rw [List.mem_take_iff_getElem] at ht
    obtain ⟨k, hk, rfl⟩ := ht
    have h1 := (rowR_iff.1 (may_rows hp k (by omega))).2.2 o (by rw [hget]; exact ho)
    rw [key k (by omega) o ho] at h1
    simpa using h1
  · intro hnd
    rw [Bool.not_eq_true', needB, List.any_eq_false] at hnd
    refine mayRef_yes fun k hk => ?_
    rw [rowR_iff, hget]
    have hr := rowR_iff.1 (may_rows hm k (by omega))
    refine ⟨hr.1, by rw [List.take_take, Nat.min_eq_left (by omega)]; exact hr.2.1, fun o ho => ?_⟩
    rw [key k (by omega) o ho]
    have := hnd (h[k]'(by omega)) (by rw [List.mem_take_iff_getElem]; exact ⟨k, by omega, rfl⟩)
    rw [Bool.not_eq_true, List.any_eq_false] at this
    simpa using this o ho
end Go.Proofs.Ytcaomjieambomaa
