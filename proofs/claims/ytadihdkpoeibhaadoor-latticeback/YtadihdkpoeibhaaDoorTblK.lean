/- Plain facts on rows of levels: closed ones, the strongest ones, and what these imply; nothing of the program. -/
import Derived.Test.YtadihdkpoeibhaaDoorTblJ
import Derived.Test.YtadihdkpoeibhaaDoorTblH
namespace Go.Proofs.YtadihdkpoeibhaaDoor
set_option maxRecDepth 100000
open Go.RowKit

/-- A row's levels as ints, rising. -/
def lvI (r : Nat → Bool) : List Int := (lvTo r 12).map Int.ofNat
theorem mem_lvI {r : Nat → Bool} {x : Int} : x ∈ lvI r ↔ ∃ a, a < 12 ∧ r a = true ∧ x = (a : Int) := by
  unfold lvI lvTo
  rw [List.mem_map]
  constructor
  · rintro ⟨a, ha, rfl⟩
    obtain ⟨h1, h2⟩ := List.mem_filter.1 ha
    exact ⟨a, List.mem_range.1 h1, h2, rfl⟩
  · rintro ⟨a, h1, h2, rfl⟩
    exact ⟨a, List.mem_filter.2 ⟨List.mem_range.2 h1, h2⟩, rfl⟩
theorem lvI_len (r : Nat → Bool) : (lvI r).length ≤ 12 := by unfold lvI; rw [List.length_map]; exact lvTo_len r 12
theorem hasZ_lvI (r : Nat → Bool) {b : Nat} (hb : b < 12) : hasZ (lvI r) (b : Int) = r b := by
  rw [Bool.eq_iff_iff]
  unfold hasZ
  rw [List.any_eq_true]
  constructor
  · rintro ⟨x, hx, he⟩
    obtain ⟨a, h1, h2, rfl⟩ := mem_lvI.1 hx
    have : a = b := by have := beq_iff_eq.1 he; omega
    rw [← this]; exact h2
  · intro h
    exact ⟨(b : Int), mem_lvI.2 ⟨b, hb, h, rfl⟩, by simp⟩
/-- Is whatever is implied by one of a row in it? -/
def Shut (r : Nat → Bool) : Prop := ∀ a b : Nat, a < 12 → b < 12 → r a = true → impB (a : Int) (b : Int) = true → r b = true
theorem abv_iff {r : Nat → Bool} {b : Nat} : abv r (b : Int) = true ↔ ∃ a, a < 12 ∧ r a = true ∧ a ≠ b ∧ impB (a : Int) (b : Int) = true := by
  unfold abv abvTo
  rw [List.any_eq_true]
  constructor
  · rintro ⟨a, ha, h⟩
    simp only [Bool.and_eq_true, decide_eq_true_eq] at h
    exact ⟨a, List.mem_range.1 ha, h.1, fun e => h.2.1 (by rw [e]), h.2.2⟩
  · rintro ⟨a, ha, h1, h2, h3⟩
    refine ⟨a, List.mem_range.2 ha, ?_⟩
    simp only [Bool.and_eq_true, decide_eq_true_eq]
    exact ⟨h1, fun e => h2 (by omega), h3⟩
theorem cls_iff {r : Nat → Bool} : cls r = true ↔ Shut r := by
  unfold cls clsTo Shut
  rw [List.all_eq_true]
  constructor
  · intro h a b ha hb hr hi
    cases hrb : r b
    · exfalso
      have := h b (List.mem_range.2 hb)
      rw [hrb] at this
      have hv : abv r (b : Int) = true := abv_iff.2 ⟨a, ha, hr, fun e => (by rw [e, hrb] at hr; cases hr), hi⟩
      rw [hv] at this
      cases this
    · rfl
  · intro h b hb
    cases hrb : r b
    · cases hv : abv r (b : Int)
      · rfl
      · exfalso
        obtain ⟨a, ha, h1, _, h3⟩ := abv_iff.1 hv
        have := h a b ha (List.mem_range.1 hb) h1 h3
        rw [hrb] at this; cases this
    · rfl
theorem clsR_iff {r : Nat → Bool} : clsR (lvI r) = true ↔ Shut r := by
  unfold clsR Shut
  rw [List.all_eq_true]
  constructor
  · intro h a b ha hb hr hi
    have h1 := h (a : Int) (mem_lvI.2 ⟨a, ha, hr, rfl⟩)
    unfold clsRow at h1
    rw [List.all_eq_true] at h1
    have h2 := h1 b (List.mem_range.2 hb)
    rw [hi, hasZ_lvI r hb] at h2
    simpa using h2
  · intro h x hx
    obtain ⟨a, ha, hr, rfl⟩ := mem_lvI.1 hx
    unfold clsRow
    rw [List.all_eq_true]
    intro b hb
    have hb' := List.mem_range.1 hb
    rw [hasZ_lvI r hb']
    cases hi : impB (a : Int) (b : Int)
    · rfl
    · rw [h a b ha hb' hr hi]; rfl
theorem cls_ref (r : Nat → Bool) : clsR (lvI r) = cls r := by rw [Bool.eq_iff_iff, clsR_iff, cls_iff]
theorem ovr_lvI (r : Nat → Bool) (b : Nat) : ovr (lvI r) (b : Int) = abv r (b : Int) := by
  rw [Bool.eq_iff_iff, abv_iff]
  unfold ovr
  rw [List.any_eq_true]
  constructor
  · rintro ⟨x, hx, h⟩
    obtain ⟨a, ha, hr, rfl⟩ := mem_lvI.1 hx
    simp only [Bool.and_eq_true, decide_eq_true_eq] at h
    exact ⟨a, ha, hr, fun e => h.1 (by rw [e]), h.2⟩
  · rintro ⟨a, ha, hr, h1, h2⟩
    refine ⟨(a : Int), mem_lvI.2 ⟨a, ha, hr, rfl⟩, ?_⟩
    simp only [Bool.and_eq_true, decide_eq_true_eq]
    exact ⟨fun e => h1 (by omega), h2⟩
/-- The strongest ones as ints. -/
def stI (r : Nat → Bool) : List Int := (strTo r 12).map Int.ofNat
theorem str_ref (r : Nat → Bool) : strR (lvI r) (lvI r) = stI r := by
  have h : ∀ m : List Nat, strR (lvI r) (m.map Int.ofNat) = (m.filter fun b : Nat => !abv r (b : Int)).map Int.ofNat := by
    intro m
    unfold strR
    rw [List.filter_map]
    congr 1
    apply List.filter_congr
    intro b _
    show (!ovr (lvI r) (b : Int)) = _
    rw [ovr_lvI]
  have h2 := h (lvTo r 12)
  unfold stI
  show strR (lvI r) ((lvTo r 12).map Int.ofNat) = _
  rw [h2]
  congr 1
  unfold lvTo strTo
  rw [List.filter_filter]
  apply List.filter_congr
  intro b _
  rw [Bool.and_comm]
theorem mem_stI {r : Nat → Bool} {x : Int} : x ∈ stI r ↔ ∃ a, a < 12 ∧ r a = true ∧ abv r (a : Int) = false ∧ x = (a : Int) := by
  unfold stI strTo
  rw [List.mem_map]
  constructor
  · rintro ⟨a, ha, rfl⟩
    obtain ⟨h1, h2⟩ := List.mem_filter.1 ha
    simp only [Bool.and_eq_true, Bool.not_eq_true'] at h2
    exact ⟨a, List.mem_range.1 h1, h2.1, h2.2, rfl⟩
  · rintro ⟨a, h1, h2, h3, rfl⟩
    exact ⟨a, List.mem_filter.2 ⟨List.mem_range.2 h1, by rw [h2, h3]; rfl⟩, rfl⟩
def rank (a : Nat) : Nat := ((List.range 12).filter fun b : Nat => impB (a : Int) (b : Int)).length
theorem rank_lt : ∀ a b : Fin 12, a ≠ b → impB (a.val : Int) (b.val : Int) = true → rank b.val < rank a.val := by decide +kernel
theorem rank_le : ∀ a : Fin 12, rank a.val ≤ 12 := by decide +kernel
/-- Each level of a row is implied by a strongest one. -/
theorem strong_over (r : Nat → Bool) : ∀ (n a : Nat), a < 12 → r a = true → 12 - rank a ≤ n → ∃ s, s < 12 ∧ r s = true ∧ abv r (s : Int) = false ∧ impB (s : Int) (a : Int) = true := by
  intro n
  induction n with
  | zero =>
    intro a ha hr hn
    cases hv : abv r (a : Int)
    · exact ⟨a, ha, hr, hv, imp_self ⟨a, ha⟩⟩
    · obtain ⟨c, hc, _, h2, h3⟩ := abv_iff.1 hv
      have h4 := rank_lt ⟨c, hc⟩ ⟨a, ha⟩ (fun e => h2 (by simpa using e)) h3
      have h5 := rank_le ⟨c, hc⟩
      simp only at h4 h5
      omega
  | succ n ih =>
    intro a ha hr hn
    cases hv : abv r (a : Int)
    · exact ⟨a, ha, hr, hv, imp_self ⟨a, ha⟩⟩
    · obtain ⟨c, hc, h1, h2, h3⟩ := abv_iff.1 hv
      have h4 := rank_lt ⟨c, hc⟩ ⟨a, ha⟩ (fun e => h2 (by simpa using e)) h3
      have h5 := rank_le ⟨c, hc⟩
      simp only at h4 h5
      obtain ⟨s, hs, g1, g2, g3⟩ := ih c hc h1 (by omega)
      exact ⟨s, hs, g1, g2, imp_trans ⟨s, hs⟩ ⟨c, hc⟩ ⟨a, ha⟩ g3 h3⟩
theorem blw_strong (r : Nat → Bool) {b : Nat} (hb : b < 12) : blw (stI r) b = (lvI r).any fun a => impB a (b : Int) := by
  rw [Bool.eq_iff_iff]
  unfold blw
  rw [List.any_eq_true, List.any_eq_true]
  constructor
  · rintro ⟨x, hx, h⟩
    obtain ⟨a, ha, hr, _, rfl⟩ := mem_stI.1 hx
    exact ⟨_, mem_lvI.2 ⟨a, ha, hr, rfl⟩, h⟩
  · rintro ⟨x, hx, h⟩
    obtain ⟨a, ha, hr, rfl⟩ := mem_lvI.1 hx
    obtain ⟨s, hs, g1, g2, g3⟩ := strong_over r _ a ha hr (Nat.le_refl _)
    exact ⟨_, mem_stI.2 ⟨s, hs, g1, g2, rfl⟩, imp_trans ⟨s, hs⟩ ⟨a, ha⟩ ⟨b, hb⟩ g3 h⟩
theorem blw_shut {r : Nat → Bool} (h : cls r = true) : rowB (blw (stI r)) = rowB r := by
  apply rowB_congr
  intro b hb
  rw [blw_strong r hb, Bool.eq_iff_iff, List.any_eq_true]
  constructor
  · rintro ⟨x, hx, hi⟩
    obtain ⟨a, ha, hr, rfl⟩ := mem_lvI.1 hx
    exact cls_iff.1 h a b ha hb hr hi
  · intro hr
    exact ⟨_, mem_lvI.2 ⟨b, hb, hr, rfl⟩, imp_self ⟨b, hb⟩⟩
theorem ints_natV {w : World} {base : Nat} {e : TypeId} {v : Value} {r : Nat → Bool} (h : w.ownsRow base e 1 v (strTo r 12).length (natV (strTo r 12))) : Ints w v (stI r) :=
  Ints.of_owns (n := (strTo r 12).length) (by unfold natV at h; unfold stI; rw [List.map_map]; exact h)
theorem stI_len (r : Nat → Bool) : (stI r).length ≤ 12 := by unfold stI; rw [List.length_map]; exact strTo_len r 12
end Go.Proofs.YtadihdkpoeibhaaDoor
