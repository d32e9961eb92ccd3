/- Walks and plain facts that the proof of the statement BruteMany uses, joined: PlaE PlaB AxhD AxhF PlaQ BruE BruF HisT HisU HisV HisW HisY OrdAG BruL AxhG AxhL BruG. Conditions: each theorem's own. -/
import Derived.Laws.CopyOwn
import Derived.OneCell
import Derived.Lib.BufferWrite
import Derived.BigQuiet
import Derived.Sort.Row
import Derived.Deep.CutRange
import Derived.Test.YtfancjmhdbaoeaaDoorPBruteMany0
import Derived.Test.YtfancjmhdbaoeaaDoorPBruteMany1
import Derived.Test.YtfancjmhdbaoeaaDoorPBruteMany2
import Derived.Test.YtfancjmhdbaoeaaDoorPBruteMany3
import Derived.Test.YtfancjmhdbaoeaaDoorPBruteMany5
import Derived.Test.YtfancjmhdbaoeaaDoorPBruteMany6
namespace Go.Proofs.YtfancjmhdbaoeaaDoor
set_option maxRecDepth 100000
open Go.RowKit

theorem row_perm {n : Nat} (hn : n ≤ 64) {L : List Nat} (h : L.Perm (List.range n)) : rowOkA (n : Int) (L.map Int.ofNat) = true := by
  have hl : (L.map Int.ofNat).length = n := by rw [List.length_map, h.length_eq, List.length_range]
  unfold rowOkA
  rw [hl, decide_eq_true rfl, Bool.true_and, decide_eq_true_eq, setL_eq]
  refine set_ext (isSet_ofL _) ?_ fun i hi => ?_
  · unfold belowS IsSet
    split
    · omega
    · split
      · omega
      · have := Nat.pow_lt_pow_right (a := 2) (by omega) (show (n : Int).toNat < 64 by omega)
        omega
  · rw [testBit_ofL, decide_eq_true hi, Bool.true_and]
    have e1 : hasL (L.map Int.ofNat) (i : Int) = decide (i < n) := by
      unfold hasL
      rw [Bool.eq_iff_iff, List.any_eq_true, decide_eq_true_eq]
      constructor
      · rintro ⟨a, ha, e⟩
        obtain ⟨k, hk, rfl⟩ := List.mem_map.1 ha
        have := List.mem_range.1 (h.mem_iff.1 hk)
        rw [beq_iff_eq] at e
        have : k = i := Int.ofNat.inj e
        omega
      · intro hin
        exact ⟨(i : Int), List.mem_map.2 ⟨i, h.mem_iff.2 (List.mem_range.2 hin), rfl⟩, by simp⟩
    rw [e1]
    unfold belowS
    by_cases h0 : (n : Int) ≤ 0
    · rw [if_pos h0, Nat.zero_testBit]
      exact decide_eq_false (by omega)
    · rw [if_neg h0]
      by_cases h64 : 64 ≤ (n : Int)
      · rw [if_pos h64]
        have : n = 64 := by omega
        subst this
        rw [show (18446744073709551615 : Nat) = 2 ^ 64 - 1 from rfl, Nat.testBit_two_pow_sub_one]
      · rw [if_neg h64, Int.toNat_natCast, Nat.testBit_two_pow_sub_one]
/-- What is the least keeps all that is asked. -/
theorem least_kept {h : List TxnV} {x : Nat} {l : List Int} {R : Mat} (hlt : x < 64) (hR : LeastIs h x l R) : lackN x (keptN h l R) = 0 := by
  have hx : x < 9223372036854775808 := by omega
  rw [lack_iff]
  intro k hb
  have hk6 : k < 6 := by
    apply Decidable.byContradiction
    intro hge
    have hp : (64 : Nat) ≤ 2 ^ k := by
      have := Nat.pow_le_pow_right (n := 2) (by omega) (show 6 ≤ k by omega)
      omega
    rw [Nat.testBit_lt_two_pow (by omega)] at hb
    cases hb
  rw [kept_bit h l R hk6, inM_iff]
  intro i j hi hj hm
  have h7 : k = 0 ∨ k = 1 ∨ k = 2 ∨ k = 3 ∨ k = 4 ∨ k = 5 := by omega
  rcases h7 with rfl | rfl | rfl | rfl | rfl | rfl
  · exact least_base hx hR hi hj (.inr (.inl ⟨hb, hm⟩))
  · obtain ⟨q, hq, a1, a2⟩ := (thenR_iff R R i j).1 hm
    exact (hR i j hi hj).2 (.trans (by rw [trB_bit _ hx]; exact hb) hq ((hR i q hi hq).1 a1) ((hR q j hq hj).1 a2))
  · obtain ⟨q, hq, a1, a2⟩ := (thenR_iff _ R i j).1 hm
    exact (hR i j hi hj).2 (.pre (by rw [pfB_bit _ hx]; exact hb) hq a1 ((hR q j hq hj).1 a2))
  · exact least_base hx hR hi hj (.inr (.inr (.inr (.inl ⟨hb, hm⟩))))
  · exact least_base hx hR hi hj (.inr (.inr (.inr (.inr ⟨hb, hm⟩))))
  · exact least_base hx hR hi hj (.inr (.inr (.inl ⟨hb, hm⟩)))
section
variable {h : List TxnV} {C : Nat}
theorem good_row (hc : checkI h = 0) {r : List Nat} (hnd : r.Nodup) (hlt : ∀ k ∈ r, k < h.length) (g : goodR h C r) : RowG h C r :=
  ⟨hnd, fun k hk => by have := hlt k hk; have := (check_zero hc).1; omega, fun k hk => (g k hk).1⟩
theorem sees_col {r : List Nat} {k : Nat} (hk : k < 64) : seeTo (seesR h C r) (k : Int) 64 = plSee h C r k := by
  refine set_ext (seeTo_set _ _ _) (plSee_set h C r k) fun j hj => ?_
  rw [seeTo_bit _ _ _ _ (Nat.le_refl 64), decide_eq_true hj, Bool.true_and, hasR_nat _ _ _ hj hk]; rfl
theorem seeTo_congr {R S : Mat} (h : ∀ i j, i < 64 → j < 64 → R i j = S i j) {k : Nat} (hk : k < 64) : seeTo R (k : Int) 64 = seeTo S (k : Int) 64 := by
  refine set_ext (seeTo_set _ _ _) (seeTo_set _ _ _) fun j hj => ?_
  rw [seeTo_bit _ _ _ _ (Nat.le_refl 64), seeTo_bit _ _ _ _ (Nat.le_refl 64), hasR_nat _ _ _ hj hk, hasR_nat _ _ _ hj hk, h j k hj hk]
/-- The reads of one, by what all see. -/
theorem good_right (hc : checkI h = 0) {r : List Nat} (g : RowG h C r) (hC : C < 9223372036854775808) (hlt : ∀ k ∈ r, k < h.length) {k : Nat} (hk : k ∈ r) :
    (readsOf h k).all (readOk h (r.reverse.map Int.ofNat) (seesR h C r) k) = readsP h (aheadL r) (plSee h C r k) k := by
  unfold readsP
  have hkn := hlt k hk
  have h64 := (check_zero hc).1
  refine all_congr _ fun x hx => ?_
  unfold readOk
  rw [sees_col (by omega)]
  refine read_last hc g.nd g.lt hkn (fun j hj => aheadL_mem g.lt (sees_ahead g.lt g.nd g.base hj)) hx fun n e => ?_
  rw [sees_fix g k hk]
  refine wld4_base ?_
  rcases read_from hc hkn hx with q | ⟨m, hm, q, _, _⟩
  · rw [e] at q; omega
  · have : n = m := by rw [e] at q; exact Int.ofNat.inj q
    subst this
    exact from_base hC h64 hkn hm hx q
theorem good_holds (hc : checkI h = 0) {lv : Int} (hlv : isLv lv = true) {r : List Nat} (hp : r.reverse.Perm (List.range h.length)) {R : Mat} (hR : LeastIs h (askN lv) (r.reverse.map Int.ofNat) R) :
    (holdsB h lv (r.reverse.map Int.ofNat) R = true ↔ soundTo h h.length = true ∧ goodR h (clI ((askN lv : Nat) : Int)) r) ∧
    (holdsB h lv (r.reverse.map Int.ofNat) R = true → ∀ j k, j < 64 → k < 64 → R j k = (plSee h (clI ((askN lv : Nat) : Int)) r k).testBit j) := by
  have h64 := (check_zero hc).1
  have hnd : r.Nodup := by
    have := (List.Perm.nodup_iff hp).2 List.nodup_range
    exact (List.reverse_perm r).nodup_iff.1 this
  have hmem : ∀ k, k ∈ r ↔ k < h.length := fun k => by rw [← List.mem_reverse, hp.mem_iff, List.mem_range]
  have hlt : ∀ k ∈ r, k < h.length := fun k hk => (hmem k).1 hk
  have hlt64 : ∀ k ∈ r, k < 64 := fun k hk => by have := hlt k hk; omega
  have hx := askN_lt lv
  have hx' : askN lv < 9223372036854775808 := by omega
  have hy : clI ((askN lv : Nat) : Int) < 9223372036854775808 := by have := clI_lt ((askN lv : Nat) : Int); omega
  obtain ⟨b0, b1, b2, b3, b4, b5⟩ := clI_bits (askN lv)
  generalize hCe : clI ((askN lv : Nat) : Int) = C at *
  have hNL : (r.reverse.map Int.ofNat).Nodup := nodup_ofNat ((List.reverse_perm r).nodup_iff.2 hnd)
  have hrow : rowOkA (h.length : Int) (r.reverse.map Int.ofNat) = true := row_perm h64 hp
  -- of a good row
  have K : RowG h C r → inM R (chainR (r.reverse.map Int.ofNat)) = true → ∀ j k, j < 64 → k < 64 → R j k = (plSee h C r k).testBit j := by
    intro g hin
    have hS : LeastIs h (clI ((askN lv : Nat) : Int)) (r.reverse.map Int.ofNat) (seesR h C r) := by rw [hCe]; exact sees_least g hy (fun k hk => (hmem k).2 hk)
    exact rowsA_inj (least_closed hc hNL hx' hR hS hin)
  have G : holdsB h lv (r.reverse.map Int.ofNat) R = true → RowG h C r := by
    intro hh
    unfold holdsB at hh
    simp only [Bool.and_eq_true] at hh
    obtain ⟨_, _, hr, _⟩ := hh
    unfold rightM at hr
    simp only [Bool.and_eq_true] at hr
    have hin := (inM_iff _ _).1 hr.2.1
    refine ⟨hnd, hlt64, fun k hk j hj => ?_⟩
    have hk64 := hlt64 k hk
    obtain ⟨hj64, hb⟩ := (baseN_bit hk64).1 hj
    rw [← ahead_chain hnd hlt64]
    refine hin j k hj64 hk64 ?_
    rw [baseM_iff h C hy] at hb
    rcases hb with hb | ⟨c0, hb⟩ | ⟨c5, hb⟩
    · exact least_base hx' hR hj64 hk64 (.inl hb)
    · rw [b0, Bool.or_eq_true] at c0
      rcases c0 with c0 | c0
      · exact least_base hx' hR hj64 hk64 (.inr (.inl ⟨c0, hb⟩))
      · exact least_base hx' hR hj64 hk64 (.inr (.inr (.inl ⟨c0, (inM_iff _ _).1 (ses_in_tim hc) j k hj64 hk64 hb⟩)))
    · rw [b5] at c5
      exact least_base hx' hR hj64 hk64 (.inr (.inr (.inl ⟨c5, hb⟩)))
  have RT : RowG h C r → (∀ j k, j < 64 → k < 64 → R j k = (plSee h C r k).testBit j) → (rightTo h (r.reverse.map Int.ofNat) R h.length = true ↔ ∀ k ∈ r, readsP h (aheadL r) (plSee h C r k) k = true) := by
    intro g e
    have e2 : ∀ k ∈ r, (readsOf h k).all (readOk h (r.reverse.map Int.ofNat) R k) = readsP h (aheadL r) (plSee h C r k) k := by
      intro k hk
      rw [← good_right hc g hy hlt hk]
      refine all_congr _ fun x _ => ?_
      unfold readOk
      rw [seeTo_congr (R := R) (S := seesR h C r) e (hlt64 k hk)]
    unfold rightTo
    rw [List.all_eq_true]
    constructor
    · intro q k hk
      rw [← e2 k hk]
      exact q k (List.mem_range.2 (hlt k hk))
    · intro q k hk
      have hk := (hmem k).2 (List.mem_range.1 hk)
      rw [e2 k hk]
      exact q k hk
  have HH : holdsB h lv (r.reverse.map Int.ofNat) R = true → inM R (chainR (r.reverse.map Int.ofNat)) = true := by
    intro hh
    unfold holdsB rightM at hh
    simp only [Bool.and_eq_true] at hh
    exact hh.2.2.1.2.1
  refine ⟨⟨fun hh => ?_, fun ⟨hs, hg⟩ => ?_⟩, fun hh => K (G hh) (HH hh)⟩
  · have g := G hh
    have e := K g (HH hh)
    have hh2 := hh
    unfold holdsB rightM at hh2
    simp only [Bool.and_eq_true] at hh2
    refine ⟨hh2.2.1, fun k hk => ⟨g.base k hk, (RT g e).1 hh2.2.2.1.2.2 k hk⟩⟩
  · have g := good_row hc hnd hlt hg
    have hS := sees_least g hy (fun k hk => (hmem k).2 hk)
    have hin : inM R (chainR (r.reverse.map Int.ofNat)) = true := by
      refine inM_trans (least_mono (y := C) hx' hy (fun k hk => ?_) hR hS) ?_
      · have hk6 : k < 6 := by
          apply Decidable.byContradiction
          intro hge
          have hp : (64 : Nat) ≤ 2 ^ k := by
            have := Nat.pow_le_pow_right (n := 2) (by omega) (show 6 ≤ k by omega)
            omega
          rw [Nat.testBit_lt_two_pow (by omega)] at hk
          cases hk
        have h7 : k = 0 ∨ k = 1 ∨ k = 2 ∨ k = 3 ∨ k = 4 ∨ k = 5 := by omega
        rcases h7 with rfl | rfl | rfl | rfl | rfl | rfl
        · rw [b0, hk]; rfl
        · rw [b1, hk]; rfl
        · rw [b2, hk]; rfl
        · rw [b3, hk]; rfl
        · rw [b4, hk]
        · rw [b5, hk]
      · rw [inM_iff]
        intro j k _ _ hs
        rw [ahead_chain hnd hlt64]
        exact sees_ahead g.lt g.nd g.base hs
    have e := K g hin
    unfold holdsB rightM
    rw [hlv, hs, hrow, hin, (RT g e).2 fun k hk => (hg k hk).2, least_kept hx hR]; rfl
end
end Go.Proofs.YtfancjmhdbaoeaaDoor

namespace Go.Proofs.YtfancjmhdbaoeaaDoor
set_option maxRecDepth 100000
open Go.RowKit

section
variable {W : World} {S B b : Nat} {h : List TxnV} {C : Nat} {r : List Nat} {vb vr : Value} {aF sF : Nat → Nat} {w : World}
theorem PlIs.row (p : PlIs W S B b h C r vb vr aF sF w) : Ints w vr (r.reverse.map Int.ofNat) := by
  have h1 := Row.of_owns p.rw
  unfold Ints
  rw [List.map_map]
  have : (Value.int IntKind.i64 ∘ Int.ofNat) = fun i : Nat => Value.int .i64 (i : Int) := rfl
  rw [this, List.length_map, List.length_reverse]
  exact h1
theorem PlIs.form (p : PlIs W S B b h C r vb vr aF sF w) : ∃ ao cap, vr = .slice ao r.length cap := by
  obtain ⟨ao, cap, e, _⟩ := p.row.form
  rw [List.length_map, List.length_reverse] at e
  exact ⟨ao, cap, e⟩
theorem nodup_len : ∀ (n : Nat) (l : List Nat), l.Nodup → (∀ k ∈ l, k < n) → l.length ≤ n
  | 0, [], _, _ => Nat.le_refl _
  | 0, k :: l, _, h => absurd (h k (List.mem_cons_self ..)) (by omega)
  | n + 1, l, hn, h => by
    by_cases hm : n ∈ l
    · have h1 := nodup_len n (l.erase n) (hn.erase n) (fun k hk => by
        have := (hn.mem_erase_iff).1 hk
        have := h k this.2
        omega)
      have h2 := List.length_erase_of_mem hm
      have h3 := List.length_pos_of_mem hm
      omega
    · have := nodup_len n l hn (fun k hk => by
        have := h k hk
        have : k ≠ n := fun e => hm (by rw [← e]; exact hk)
        omega)
      omega
theorem PlIs.len (p : PlIs W S B b h C r vb vr aF sF w) : r.length ≤ h.length := nodup_len _ _ p.nd p.lt
end
end Go.Proofs.YtfancjmhdbaoeaaDoor

namespace Go.Proofs.YtfancjmhdbaoeaaDoor
set_option maxRecDepth 100000
open Go.RowKit

theorem prV_int {l : List Pr} {u : Value} (h : u ∈ prV l) : ∃ x : Int, u = .int .i64 x := by
  unfold prV at h
  obtain ⟨p, _, hp⟩ := List.mem_flatMap.1 h
  simp at hp
  rcases hp with rfl | rfl
  · exact ⟨_, rfl⟩
  · exact ⟨_, rfl⟩
theorem rowsA_u64 (V : Mat) {i : Nat} {u : Value} (h : (rowsA V)[i]? = some u) : ∃ n : Int, u = .int .u64 n := by
  have hi : i < 64 := by
    have := (Array.getElem?_eq_some_iff.1 h).1
    rwa [rowsA_size] at this
  rw [rowsA_at V hi] at h
  cases h
  exact ⟨_, rfl⟩
/-- A relation that is changed leaves pairs as they are. -/
theorem Prs.apart {w w' : World} {v : Value} {l : List Pr} {g : Nat} {V : Mat} (h : Prs w v l) (hV : RelAt w g 73 V) (hg : w.grownBy w' (some g)) : Prs w' v l := by
  obtain ⟨hl, ao, cap, rfl, hm, hno, hc⟩ := h
  refine ⟨hl, ao, cap, rfl, hm, hno, fun hn => ?_⟩
  obtain ⟨b, off, rfl, hcell⟩ := hc hn
  refine ⟨b, off, rfl, fun i hi => ?_⟩
  have h2 := hcell i hi
  rw [List.getElem?_eq_getElem (by omega)] at h2 ⊢
  refine hg.cell h2 (fun e => ?_)
  obtain rfl : b = g := by simpa using e
  obtain ⟨x, hx⟩ := prV_int (List.getElem_mem (show i < (prV l).length by omega))
  rw [cell_of_row w b (off + i) _ _ _ hV] at h2
  obtain ⟨n, hn2⟩ := rowsA_u64 V h2
  rw [hx] at hn2; cases hn2
end Go.Proofs.YtfancjmhdbaoeaaDoor

namespace Go.Proofs.YtfancjmhdbaoeaaDoor
set_option maxRecDepth 100000
open Go.RowKit

/-- The slice v holds slices, of which each holds these ints. -/
def Lists (w : World) (v : Value) (LL : List (List Int)) : Prop := ∃ sv : List Value, Row w v LL.length 1 sv ∧ ∀ (k : Nat) (hk : k < LL.length), ∃ u, sv[k]? = some u ∧ Ints w u LL[k]
theorem Lists.below {w w' : World} {v : Value} {LL : List (List Int)} (h : Lists w v LL) (hb : Below w.heap.size w w') : Lists w' v LL := by
  obtain ⟨sv, h1, h2⟩ := h
  exact ⟨sv, h1.below hb, fun k hk => by obtain ⟨u, hu, hi⟩ := h2 k hk; exact ⟨u, hu, hi.below hb⟩⟩
theorem Lists.form {w : World} {v : Value} {LL : List (List Int)} (h : Lists w v LL) : ∃ ao cap, v = .slice ao LL.length cap ∧ LL.length ≤ 9223372036854775807 := by
  obtain ⟨sv, ⟨_, ao, cap, rfl, hm, _, _⟩, _⟩ := h
  exact ⟨ao, cap, rfl, Nat.le_trans hm.1 hm.2⟩
theorem Lists.at {w : World} {ao : Option Addr} {n cap : Nat} {LL : List (List Int)} (h : Lists w (.slice ao n cap) LL) {k : Nat} (hk : k < LL.length) :
    ∃ b off u, ao = some ⟨b, off, none⟩ ∧ w.cell? ⟨b, off + k, none⟩ = some u ∧ Ints w u LL[k] := by
  obtain ⟨sv, ⟨_, ao', cap', he, _, _, hc⟩, h2⟩ := h
  cases he
  obtain ⟨b, off, e, hcell⟩ := hc (by omega)
  obtain ⟨u, hu, hi⟩ := h2 k hk
  exact ⟨b, off, u, e, by rw [hcell k (by omega), hu], hi⟩
theorem results_rel2 {fn : Func} {p u : Tmp} (h : fn.results = #[.cell p 73, .tmp u]) (tmps : Array Value) (w : World) (g : Nat) (R : Mat)
    (hp : tmps.getD p undef = .pointer (some ⟨g, 0, none⟩)) (hg : RelAt w g 73 R) : (results fn tmps).run Tryd.prog w = .ok (.tuple #[.agg (rowsA R), tmps.getD u undef]) w := by
  have hp' : tmps[p]?.getD undef = .pointer (some ⟨g, 0, none⟩) := by simpa using hp
  simp [results, h, hp', asAddr, run_loadVar_row w g _ 73 (rowsA R) _ _ hg Tryd.underlying73 rfl (infoRel' _)]
end Go.Proofs.YtfancjmhdbaoeaaDoor

namespace Go.Proofs.YtfancjmhdbaoeaaDoor
set_option maxRecDepth 100000
open Go.RowKit

theorem least_some (h : List TxnV) (x : Nat) (l : List Int) : ∃ R, LeastIs h x l R :=
  ⟨fun i j => @decide (Must (startM h (x : Int) (chainR l)) (chainR l) (trB x) (pfB x) i j) (Classical.propDecidable _), fun i j _ _ => by simp⟩
/-- What In hands back. -/
def inR (h : List TxnV) (lv : Int) (l : List Int) (R : Mat) : Mat := if holdsB h lv l R = true then R else noR
set_option maxRecDepth 100000 in
set_option maxHeartbeats 16000000 in
theorem bin_any (lv : Int) (va : Value) (l : List Int) (h : List TxnV) (B b : Nat) (w : World) (hO : OrdIs w B b h) (hc : checkI h = 0) (ht : Tab w) (hK : Kinds w) (hl : Ints w va l) :
    Calls Tryd.prog 36 #[.pointer (some ⟨B, 0, none⟩), .int .i64 lv, va] w fun e w' => (∃ R, LeastIs h (askN lv) l R ∧ e = .returned (.tuple #[.agg (rowsA (inR h lv l R)), .bool (holdsB h lv l R)])) ∧ Below w.heap.size w w' := by
  have hg := ht.pos
  have HT : Hid (∀ wx, Below w.heap.size w wx → Tab wx ∧ Kinds wx) := Lib.hid (fun wx hb => ⟨ht.below hb hg, hK.below hb⟩)
  have HO := Lib.hid (fun wx (hx : Below w.heap.size w wx) => hO.below hx)
  have HL := Lib.hid (fun wx (hx : Below w.heap.size w wx) => hl.below hx)
  have HC := Lib.hid hc
  have CA := Lib.hid (fun wx (hx : Below w.heap.size w wx) => arow_any (h.length : Int) _ l wx (HL.out wx hx))
  have CK := Lib.hid (fun wx (hx : Below w.heap.size w wx) => lasks_any lv wx (HT.out wx hx).2)
  have CL := Lib.hid (fun wx (hx : Below w.heap.size w wx) => lof_any ((askN lv : Nat) : Int) _ l h B b wx (HO.out wx hx) HC.out (HT.out wx hx).1 (HL.out wx hx))
  have CH := Lib.hid (fun V wx (hx : Below w.heap.size w wx) => aholds_any lv _ l V h B b wx (HO.out wx hx) HC.out (HT.out wx hx).1 (HT.out wx hx).2 (HL.out wx hx))
  obtain ⟨ao, cap, rfl, hal⟩ := hl.form
  have hb0 := box_below w (.cells #[.int .u64 0, .int .u64 0, .int .u64 0, .int .u64 0, .int .u64 0, .int .u64 0, .int .u64 0, .int .u64 0, .int .u64 0, .int .u64 0, .int .u64 0, .int .u64 0, .int .u64 0, .int .u64 0, .int .u64 0, .int .u64 0, .int .u64 0, .int .u64 0, .int .u64 0, .int .u64 0, .int .u64 0, .int .u64 0, .int .u64 0, .int .u64 0, .int .u64 0, .int .u64 0, .int .u64 0, .int .u64 0, .int .u64 0, .int .u64 0, .int .u64 0, .int .u64 0, .int .u64 0, .int .u64 0, .int .u64 0, .int .u64 0, .int .u64 0, .int .u64 0, .int .u64 0, .int .u64 0, .int .u64 0, .int .u64 0, .int .u64 0, .int .u64 0, .int .u64 0, .int .u64 0, .int .u64 0, .int .u64 0, .int .u64 0, .int .u64 0, .int .u64 0, .int .u64 0, .int .u64 0, .int .u64 0, .int .u64 0, .int .u64 0, .int .u64 0, .int .u64 0, .int .u64 0, .int .u64 0, .int .u64 0, .int .u64 0, .int .u64 0, .int .u64 0] 73)
  have z0 := zero_block w
  have n0 := (HO.out _ hb0).blk.cN
  have hs0 : (w.alloc (.cells #[.int .u64 0, .int .u64 0, .int .u64 0, .int .u64 0, .int .u64 0, .int .u64 0, .int .u64 0, .int .u64 0, .int .u64 0, .int .u64 0, .int .u64 0, .int .u64 0, .int .u64 0, .int .u64 0, .int .u64 0, .int .u64 0, .int .u64 0, .int .u64 0, .int .u64 0, .int .u64 0, .int .u64 0, .int .u64 0, .int .u64 0, .int .u64 0, .int .u64 0, .int .u64 0, .int .u64 0, .int .u64 0, .int .u64 0, .int .u64 0, .int .u64 0, .int .u64 0, .int .u64 0, .int .u64 0, .int .u64 0, .int .u64 0, .int .u64 0, .int .u64 0, .int .u64 0, .int .u64 0, .int .u64 0, .int .u64 0, .int .u64 0, .int .u64 0, .int .u64 0, .int .u64 0, .int .u64 0, .int .u64 0, .int .u64 0, .int .u64 0, .int .u64 0, .int .u64 0, .int .u64 0, .int .u64 0, .int .u64 0, .int .u64 0, .int .u64 0, .int .u64 0, .int .u64 0, .int .u64 0, .int .u64 0, .int .u64 0, .int .u64 0, .int .u64 0] 73)).heap.size = w.heap.size + 1 := by simp
  clear hO hc ht hK hl
  go_enter Tryd.func36, Tryd.ntmps36
  go_upto_region 1 with fail
  generalize w.alloc (.cells #[.int .u64 0, .int .u64 0, .int .u64 0, .int .u64 0, .int .u64 0, .int .u64 0, .int .u64 0, .int .u64 0, .int .u64 0, .int .u64 0, .int .u64 0, .int .u64 0, .int .u64 0, .int .u64 0, .int .u64 0, .int .u64 0, .int .u64 0, .int .u64 0, .int .u64 0, .int .u64 0, .int .u64 0, .int .u64 0, .int .u64 0, .int .u64 0, .int .u64 0, .int .u64 0, .int .u64 0, .int .u64 0, .int .u64 0, .int .u64 0, .int .u64 0, .int .u64 0, .int .u64 0, .int .u64 0, .int .u64 0, .int .u64 0, .int .u64 0, .int .u64 0, .int .u64 0, .int .u64 0, .int .u64 0, .int .u64 0, .int .u64 0, .int .u64 0, .int .u64 0, .int .u64 0, .int .u64 0, .int .u64 0, .int .u64 0, .int .u64 0, .int .u64 0, .int .u64 0, .int .u64 0, .int .u64 0, .int .u64 0, .int .u64 0, .int .u64 0, .int .u64 0, .int .u64 0, .int .u64 0, .int .u64 0, .int .u64 0, .int .u64 0, .int .u64 0] 73) = w1 at *
  cases hrow : rowOkA (h.length : Int) l with
  | false =>
    obtain ⟨R, hR⟩ := least_some h (askN lv) l
    have hF : holdsB h lv l R = false := by unfold holdsB rightM; rw [hrow]; simp
    have HV : Hid (rowsA noR = rowsA (inR h lv l R) ∧ false = holdsB h lv l R) := Lib.hid ⟨by unfold inR; rw [hF]; rfl, hF.symm⟩
    have HR := Lib.hid hR
    rw [hrow] at CA
    clear CK CL CH hF hR hrow
    go_wp2_with fail
    refine (CA.out _ hb0).mono ?_
    rintro e wq ⟨rfl, rfl⟩
    go_wp2_with (with_reducible refine wpList_store_rel z0 noR rfl _ _ rfl rfl rfl ?_)
    have z1 := z0.setRow noR
    exact bodyPost_ret (results_rel2 rfl _ _ _ _ rfl z1) rfl ⟨⟨R, HR.out, by rw [← HV.out.1, ← HV.out.2]; rfl⟩, below_setRow hb0 (Nat.le_refl _) _⟩
  | true =>
    rw [hrow] at CA
    clear hrow
    go_wp2_with fail
    refine (CA.out _ hb0).mono ?_
    rintro e wq ⟨rfl, rfl⟩
    go_wp2_with fail
    refine (CK.out _ hb0).mono ?_
    rintro e wq ⟨rfl, rfl⟩
    go_wp2_with fail
    refine (CL.out _ hb0).mono ?_
    rintro e w2 ⟨⟨R, rfl, hR⟩, h2⟩
    have hb2 := below_then hb0 h2
    have z2 := z0.below h2 z0.lt
    have r2 := zero_block w2
    have hsz := h2.size
    have z2 := z2.alloc (.cells #[.int .u64 0, .int .u64 0, .int .u64 0, .int .u64 0, .int .u64 0, .int .u64 0, .int .u64 0, .int .u64 0, .int .u64 0, .int .u64 0, .int .u64 0, .int .u64 0, .int .u64 0, .int .u64 0, .int .u64 0, .int .u64 0, .int .u64 0, .int .u64 0, .int .u64 0, .int .u64 0, .int .u64 0, .int .u64 0, .int .u64 0, .int .u64 0, .int .u64 0, .int .u64 0, .int .u64 0, .int .u64 0, .int .u64 0, .int .u64 0, .int .u64 0, .int .u64 0, .int .u64 0, .int .u64 0, .int .u64 0, .int .u64 0, .int .u64 0, .int .u64 0, .int .u64 0, .int .u64 0, .int .u64 0, .int .u64 0, .int .u64 0, .int .u64 0, .int .u64 0, .int .u64 0, .int .u64 0, .int .u64 0, .int .u64 0, .int .u64 0, .int .u64 0, .int .u64 0, .int .u64 0, .int .u64 0, .int .u64 0, .int .u64 0, .int .u64 0, .int .u64 0, .int .u64 0, .int .u64 0, .int .u64 0, .int .u64 0, .int .u64 0, .int .u64 0] 73)
    have hb3 := hb2.alloc hb2.size (.cells #[.int .u64 0, .int .u64 0, .int .u64 0, .int .u64 0, .int .u64 0, .int .u64 0, .int .u64 0, .int .u64 0, .int .u64 0, .int .u64 0, .int .u64 0, .int .u64 0, .int .u64 0, .int .u64 0, .int .u64 0, .int .u64 0, .int .u64 0, .int .u64 0, .int .u64 0, .int .u64 0, .int .u64 0, .int .u64 0, .int .u64 0, .int .u64 0, .int .u64 0, .int .u64 0, .int .u64 0, .int .u64 0, .int .u64 0, .int .u64 0, .int .u64 0, .int .u64 0, .int .u64 0, .int .u64 0, .int .u64 0, .int .u64 0, .int .u64 0, .int .u64 0, .int .u64 0, .int .u64 0, .int .u64 0, .int .u64 0, .int .u64 0, .int .u64 0, .int .u64 0, .int .u64 0, .int .u64 0, .int .u64 0, .int .u64 0, .int .u64 0, .int .u64 0, .int .u64 0, .int .u64 0, .int .u64 0, .int .u64 0, .int .u64 0, .int .u64 0, .int .u64 0, .int .u64 0, .int .u64 0, .int .u64 0, .int .u64 0, .int .u64 0, .int .u64 0] 73)
    have hne : w.heap.size < w2.heap.size := by have := z0.lt; omega
    clear CA CK CL hb0 h2 hb2 z0 n0 hs0
    go_upto_region 4 with (with_reducible refine wpList_store_rel r2 R rfl _ _ rfl rfl rfl ?_)
    have r3 := r2.setRow R
    have z3 := z2.far (by omega : w.heap.size ≠ w2.heap.size) (rowsA R)
    have hb4 := below_setRow hb3 (Nat.le_of_lt hne) (rowsA R)
    generalize World.setRow _ _ _ = w3 at *
    generalize w2.heap.size = m at *
    clear r2 z2 hb3 hsz
    have HRL : Hid (LeastIs h (askN lv) l R) := Lib.hid hR
    clear hR
    cases hh : holdsB h lv l R with
    | false =>
      have HV : Hid (rowsA noR = rowsA (inR h lv l R)) := Lib.hid (by unfold inR; rw [hh]; rfl)
      have CHH := Lib.hid (CH.out R _ hb4)
      rw [hh] at CHH
      have HHH := Lib.hid hh
      clear hh CH
      go_wp2_with (with_reducible refine wpList_load_rel r3 rfl _ rfl rfl ?_)
      refine (CHH.out).mono ?_
      rintro e w4 ⟨rfl, h4⟩
      have z4 := z3.below h4 z3.lt
      have hb5 := below_then hb4 h4
      clear r3 z3 hb4 CHH h4
      go_wp2_with (with_reducible refine wpList_store_rel z4 noR rfl _ _ rfl rfl rfl ?_)
      have z5 := z4.setRow noR
      exact bodyPost_ret (results_rel2 rfl _ _ _ _ rfl z5) rfl ⟨⟨R, HRL.out, by rw [← HV.out, HHH.out]; rfl⟩, below_setRow hb5 (Nat.le_refl _) _⟩
    | true =>
      have HV : Hid (rowsA R = rowsA (inR h lv l R)) := Lib.hid (by unfold inR; rw [hh]; rfl)
      have CHH := Lib.hid (CH.out R _ hb4)
      rw [hh] at CHH
      have HHH := Lib.hid hh
      clear hh CH
      go_wp2_with (with_reducible refine wpList_load_rel r3 rfl _ rfl rfl ?_)
      refine (CHH.out).mono ?_
      rintro e w4 ⟨rfl, h4⟩
      have z4 := z3.below h4 z3.lt
      have r4 := r3.below h4 r3.lt
      have hb5 := below_then hb4 h4
      clear r3 z3 hb4 CHH h4
      go_wp2_with (first
        | (with_reducible refine wpList_load_rel r4 rfl _ rfl rfl ?_)
        | (with_reducible refine wpList_store_rel z4 R rfl _ _ rfl rfl rfl ?_))
      have z5 := z4.setRow R
      exact bodyPost_ret (results_rel2 rfl _ _ _ _ rfl z5) rfl ⟨⟨R, HRL.out, by rw [← HV.out, HHH.out]; rfl⟩, below_setRow hb5 (Nat.le_refl _) _⟩
end Go.Proofs.YtfancjmhdbaoeaaDoor

namespace Go.Proofs.YtfancjmhdbaoeaaDoor
set_option maxRecDepth 100000
open Go.RowKit Go.Shelf
attribute [local go_sem] Oper.semAt_some

/-- Is a level kept in an order: may all come, one behind the other? -/
def keptL (h : List TxnV) (lv : Int) (row : List Nat) : Bool := isLv lv && (soundTo h h.length && allT h (clI ((askN lv : Nat) : Int)) [] row)
theorem kept_holds {h : List TxnV} (hc : checkI h = 0) (lv : Int) {row : List Nat} (hp : row.Perm (List.range h.length)) {R : Mat} (hR : LeastIs h (askN lv) (row.map Int.ofNat) R) : holdsB h lv (row.map Int.ofNat) R = keptL h lv row := by
  cases hlv : isLv lv with
  | false => unfold holdsB keptL; rw [hlv]; rfl
  | true =>
    have hC : clI ((askN lv : Nat) : Int) < 9223372036854775808 := by have := clI_lt ((askN lv : Nat) : Int); omega
    have hnd : row.Nodup := (List.Perm.nodup_iff hp).2 List.nodup_range
    have hlt : ∀ k ∈ row, k < h.length := fun k hk => List.mem_range.1 (hp.mem_iff.1 hk)
    have h1 := (good_holds hc hlv (r := row.reverse) (R := R) (by rw [List.reverse_reverse]; exact hp) (by rw [List.reverse_reverse]; exact hR)).1
    rw [List.reverse_reverse] at h1
    have h2 := allT_iff hc hC row [] (by rw [List.append_nil]; exact (List.reverse_perm row).nodup_iff.2 hnd) (fun a ha => hlt a (by simpa using ha)) (fun k hk => by cases hk)
    rw [List.append_nil] at h2
    unfold keptL
    rw [Bool.eq_iff_iff, h1, hlv, Bool.true_and, Bool.and_eq_true, h2]
/-- An order of all is all numbers, each once. -/
theorem perm_range {n : Nat} {row : List Nat} (hnd : row.Nodup) (hlt : ∀ i ∈ row, i < n) (hl : row.length = n) : row.Perm (List.range n) := by
  have hmem : ∀ j, j < n → j ∈ row := fun j hj => by
    by_cases h : j ∈ row
    · exact h
    · have := nodup_len n (j :: row) (List.nodup_cons.2 ⟨h, hnd⟩) (fun k hk => by
        rcases List.mem_cons.1 hk with rfl | hk
        · exact hj
        · exact hlt k hk)
      simp at this; omega
  rw [List.perm_iff_count]
  intro j
  rw [hnd.count, List.nodup_range.count]
  simp only [List.mem_range]
  by_cases h : j < n
  · rw [if_pos (hmem j h), if_pos h]
  · rw [if_neg (fun q => h (hlt j q)), if_neg h]
theorem orders_perm {n : Nat} {row : List Nat} (h : row ∈ ordersN n) : row.Perm (List.range n) := by
  obtain ⟨a, b, c, _⟩ := mem_exts h
  exact perm_range (a List.nodup_nil) (b (fun i hi => by cases hi)) (by simpa using c)
theorem mem_of_prefix {α : Type} {pre : List α} {r : α} {L : List α} (h : (pre ++ [r]) <+: L) : r ∈ L := h.subset (by simp)

/-- A relation as a whole is stored, or loaded, in a round's walk. -/
theorem wpListIn_store_rel {F : Fence} {n : Nat} {ops : Array Oper} {rest : List Oper} {o : Oper} {a : Act} {w : World} {Q : Exit → Act → World → Prop} {g : Nat} {S : Mat} (h : RelAt w g 73 S) (R : Mat) (hgd : o.guard = none) (x y : Operand) (ho : o.op = .store 73 x y)
    (hx : a.eval x = .pointer (some ⟨g, 0, none⟩)) (hy : a.eval y = .agg (rowsA R)) (hn : wpListIn F n Tryd.prog ops Q rest (a.put o.dst undef) (w.setRow g (rowsA R))) : wpListIn F n Tryd.prog ops Q (o :: rest) a w := by
  refine wpListIn_plain hgd fun K hK => ?_
  unfold Oper.wpIn
  refine ⟨fun f hf => by simp [Oper.about, ho] at hf, ?_⟩
  rw [Oper.semAt_eq _ _ _ (by rw [ho]; intro c hc; cases hc)]
  unfold execOp
  simp only [ho, hx, hy, Instr.storeAt, Instr.sureAddr, Sem.run_bind, Sem.run_pure, Result.andThen_ok, run_storeVar_row w g _ 73 _ (rowsA R) h (infoRel' _) (by rw [rowsA_size, rowsA_size]) (rows_one _)]
  exact hK _ _ hn
theorem wpListIn_load_rel {F : Fence} {n : Nat} {ops : Array Oper} {rest : List Oper} {o : Oper} {a : Act} {w : World} {Q : Exit → Act → World → Prop} {g : Nat} {R : Mat} (h : RelAt w g 73 R) (hgd : o.guard = none) (x : Operand) (ho : o.op = .load 73 x)
    (hx : a.eval x = .pointer (some ⟨g, 0, none⟩)) (hn : wpListIn F n Tryd.prog ops Q rest (a.put o.dst (.agg (rowsA R))) w) : wpListIn F n Tryd.prog ops Q (o :: rest) a w := by
  refine wpListIn_plain hgd fun K hK => ?_
  unfold Oper.wpIn
  refine ⟨fun f hf => by simp [Oper.about, ho] at hf, ?_⟩
  rw [Oper.semAt_eq _ _ _ (by rw [ho]; intro c hc; cases hc)]
  unfold execOp
  simp only [ho, hx, Instr.loadAt, Instr.sureAddr, Sem.run_bind, Sem.run_pure, Result.andThen_ok, run_loadVar_row w g _ 73 (rowsA R) _ _ h Tryd.underlying73 rfl (infoRel' _)]
  exact hK _ _ hn

theorem ints_nil (W : World) : Ints W (.slice none 0 0) [] := ⟨rfl, none, 0, rfl, ⟨Nat.le_refl _, by decide⟩, fun _ => ⟨rfl, rfl⟩, fun h => absurd h (Nat.lt_irrefl _)⟩
set_option maxHeartbeats 1000000 in
theorem orders_any (many : Int) (w : World) :
    Calls Tryd.prog 35 #[.int .i64 many] w fun e w' => e = .returned (.func (.func 63) #[] #[.pointer (some ⟨w.heap.size, 0, none⟩)]) ∧ w' = w.alloc (.cells #[.int .i64 many] 3) := by
  go_enter Tryd.func35, Tryd.ntmps35
  go_wp2_with fail
  go_ret
  exact ⟨rfl, rfl⟩
set_option maxHeartbeats 2000000 in
/-- What orders hands back hands over all orders of so many numbers. -/
theorem orders_seq (n many Bn : Nat) (w : World) (hm : many ≤ 64) (hB : Bn < w.heap.size) (hc : w.cell? ⟨Bn, 0, none⟩ = some (.int .i64 (many : Int))) :
    SeqRows Fence.wide n Tryd.prog 63 #[.pointer (some ⟨Bn, 0, none⟩)] (ordersN many) w := by
  intro l J Jx W hW hJ hY h0
  have hcell := (hW.cell (p := ⟨Bn, 0, none⟩) hB).trans hc
  have HI := Lib.hid (further_any l W.heap.size many (ordersN many) J Jx hJ hm (fun m pre v r A a b c => yield_depth rfl m (hY pre v r A a b c)) many (.slice none 0 0) [] [] W ⟨ints_nil W, fun g hg => by cases hg⟩ (by simp) (by rw [List.nil_append]; exact List.prefix_rfl) (Nat.le_refl _) h0)
  refine (callsIn_wide (n := n)).2 ?_
  clear hY hJ h0 hc
  show Calls Tryd.prog 63 #[.func (.yield l) #[] #[], .pointer (some ⟨Bn, 0, none⟩)] W _
  go_enter Tryd.func63, Tryd.ntmps63
  go_wp2_with (go_at_call 64; refine HI.out.mono ?_; rintro e B (⟨rfl, hj2, hk2⟩ | ⟨rfl, q, hq, hx2⟩))
  · go_end0
    exact ⟨⟨_, rfl⟩, .inl hj2⟩
  · go_end0
    exact ⟨⟨_, rfl⟩, .inr ⟨q, hq, hx2⟩⟩
end Go.Proofs.YtfancjmhdbaoeaaDoor

namespace Go.Proofs.YtfancjmhdbaoeaaDoor
set_option maxRecDepth 100000
open Go.RowKit Go.Shelf
attribute [local go_sem] Oper.semAt_some

/-- As many orders as keep a level; -1 of too many transactions. -/
def countI (h : List TxnV) (lv : Int) : Int := if h.length ≤ 8 then (((ordersN h.length).countP (keptL h lv) : Nat) : Int) else -1
/-- One order: whether a level is kept by it. -/
theorem bin_kept (lv : Int) (va : Value) (r : List Nat) (h : List TxnV) (B b : Nat) (w : World) (hO : OrdIs w B b h) (hc : checkI h = 0) (ht : Tab w) (hK : Kinds w) (hl : Ints w va (r.map Int.ofNat)) (hr : r ∈ ordersN h.length) :
    Calls Tryd.prog 36 #[.pointer (some ⟨B, 0, none⟩), .int .i64 lv, va] w fun e w' => (∃ X, (keptL h lv r = true → LeastIs h (askN lv) (r.map Int.ofNat) X) ∧ e = .returned (.tuple #[.agg (rowsA X), .bool (keptL h lv r)])) ∧ Below w.heap.size w w' := by
  refine (bin_any lv va (r.map Int.ofNat) h B b w hO hc ht hK hl).mono ?_
  rintro e w' ⟨⟨R, hR, rfl⟩, hb⟩
  have e1 := kept_holds hc lv (orders_perm hr) hR
  refine ⟨⟨inR h lv (r.map Int.ofNat) R, fun hk => ?_, by rw [e1]⟩, hb⟩
  unfold inR
  rw [if_pos (by rw [e1]; exact hk)]
  exact hR
/-- What stands in the loop's own cells. -/
structure CntI (s B : Nat) (lv : Int) (c : Nat) (w W : World) : Prop where
  c0 : W.cell? ⟨s, 0, none⟩ = some (.pointer (some ⟨B, 0, none⟩))
  c1 : W.cell? ⟨s + 1, 0, none⟩ = some (.int .i64 lv)
  c2 : W.cell? ⟨s + 1 + 1, 0, none⟩ = some (.int .i64 (c : Int))
  f2 : W.frozen? ⟨s + 1 + 1, 0, none⟩ = false
  bel : Below s w W
theorem CntI.below {s B : Nat} {lv : Int} {c D : Nat} {w W W' : World} (q : CntI s B lv c w W) (hb : Below D W W') (hD : s + 4 ≤ D) : CntI s B lv c w W' :=
  ⟨(hb.cell (p := ⟨s, 0, none⟩) (by show s < D; omega)).trans q.c0, (hb.cell (p := ⟨s + 1, 0, none⟩) (by show s + 1 < D; omega)).trans q.c1, (hb.cell (p := ⟨s + 1 + 1, 0, none⟩) (by show s + 1 + 1 < D; omega)).trans q.c2, (hb.frozen (p := ⟨s + 1 + 1, 0, none⟩) (by show s + 1 + 1 < D; omega)).trans q.f2, q.bel.trans (hb.mono (by omega))⟩
theorem CntI.more {s B : Nat} {lv : Int} {c : Nat} {w W : World} (q : CntI s B lv c w W) (c' : Nat) : CntI s B lv c' w (W.setCell ⟨s + 1 + 1, 0, none⟩ (.int .i64 (c' : Int))) := by
  refine ⟨?_, ?_, World.cell?_setCell_same _ _ _ q.c2, by rw [World.frozen?_setCell]; exact q.f2, q.bel.setCell (p := ⟨s + 1 + 1, 0, none⟩) (by show s ≤ s + 1 + 1; omega) _⟩
  · rw [World.cell?_setCell_other _ _ _ _ (by simp)]; exact q.c0
  · rw [World.cell?_setCell_other _ _ _ _ (by simp)]; exact q.c1
theorem exts_len (many : Nat) : ∀ (k : Nat) (r : List Nat), (exts many k r).length ≤ many ^ k
  | 0, r => by simp [exts]
  | k + 1, r => by
    have key : ∀ j, (extsTo many k r j).length ≤ j * many ^ k := by
      intro j
      induction j with
      | zero => rw [extsTo_zero]; simp
      | succ j ih =>
        rw [extsTo_succ, List.length_append, Nat.succ_mul]
        refine Nat.add_le_add ih ?_
        split
        · simp
        · exact exts_len many k _
    rw [exts_all, Nat.pow_succ, Nat.mul_comm]
    exact key many
theorem pre_len {n : Nat} (h8 : n ≤ 8) {pre : List (List Nat)} {r : List Nat} (hp : (pre ++ [r]) <+: ordersN n) (p : List Nat → Bool) : pre.countP p ≤ 16777216 := by
  have h1 := hp.length_le
  have h2 := exts_len n n []
  have h3 : n ^ n ≤ 8 ^ 8 := Nat.le_trans (Nat.pow_le_pow_left h8 n) (Nat.pow_le_pow_right (by omega) h8)
  have h4 := List.countP_le_length (p := p) (l := pre)
  have h5 : (ordersN n).length ≤ 8 ^ 8 := Nat.le_trans h2 h3
  rw [List.length_append] at h1
  have h6 : (8 : Nat) ^ 8 = 16777216 := by decide
  omega
theorem countP_snoc (p : List Nat → Bool) (pre : List (List Nat)) (r : List Nat) : (pre ++ [r]).countP p = pre.countP p + if p r = true then 1 else 0 := by
  rw [List.countP_append, List.countP_singleton]
theorem four_boxes (w : World) (B : Nat) (lv n : Int) (c : Nat) (t1 t2 t3 t4 : TypeId) :
    CntI w.heap.size B lv c w ((((w.alloc (.cells #[.pointer (some ⟨B, 0, none⟩)] t1)).alloc (.cells #[.int .i64 lv] t2)).alloc (.cells #[.int .i64 (c : Int)] t3)).alloc (.cells #[.int .i64 n] t4)) ∧
    ((((w.alloc (.cells #[.pointer (some ⟨B, 0, none⟩)] t1)).alloc (.cells #[.int .i64 lv] t2)).alloc (.cells #[.int .i64 (c : Int)] t3)).alloc (.cells #[.int .i64 n] t4)).cell? ⟨w.heap.size + 3, 0, none⟩ = some (.int .i64 n) ∧
    ((((w.alloc (.cells #[.pointer (some ⟨B, 0, none⟩)] t1)).alloc (.cells #[.int .i64 lv] t2)).alloc (.cells #[.int .i64 (c : Int)] t3)).alloc (.cells #[.int .i64 n] t4)).heap.size = w.heap.size + 4 := by
  obtain ⟨w1, e1⟩ : ∃ x, x = w.alloc (.cells #[.pointer (some ⟨B, 0, none⟩)] t1) := ⟨_, rfl⟩
  obtain ⟨w2, e2⟩ : ∃ x, x = w1.alloc (.cells #[.int .i64 lv] t2) := ⟨_, rfl⟩
  obtain ⟨w3, e3⟩ : ∃ x, x = w2.alloc (.cells #[.int .i64 (c : Int)] t3) := ⟨_, rfl⟩
  obtain ⟨w4, e4⟩ : ∃ x, x = w3.alloc (.cells #[.int .i64 n] t4) := ⟨_, rfl⟩
  rw [← e1, ← e2, ← e3, ← e4]
  have s1 : w1.heap.size = w.heap.size + 1 := by rw [e1]; simp
  have s2 : w2.heap.size = w.heap.size + 2 := by rw [e2]; simp [s1]
  have s3 : w3.heap.size = w.heap.size + 3 := by rw [e3]; simp [s2]
  have s4 : w4.heap.size = w.heap.size + 4 := by rw [e4]; simp [s3]
  have b1 : Below w.heap.size w w1 := by rw [e1]; exact (Below.refl _ _).alloc (Nat.le_refl _) _
  have b2 : Below w1.heap.size w1 w2 := by rw [e2]; exact (Below.refl _ _).alloc (Nat.le_refl _) _
  have b3 : Below w2.heap.size w2 w3 := by rw [e3]; exact (Below.refl _ _).alloc (Nat.le_refl _) _
  have b4 : Below w3.heap.size w3 w4 := by rw [e4]; exact (Below.refl _ _).alloc (Nat.le_refl _) _
  have c1 : w1.cell? ⟨w.heap.size, 0, none⟩ = some (.pointer (some ⟨B, 0, none⟩)) := by rw [e1, cell_of_row _ _ _ _ _ _ (heap_alloc_new w _)]; rfl
  have c2 : w2.cell? ⟨w1.heap.size, 0, none⟩ = some (.int .i64 lv) := by rw [e2, cell_of_row _ _ _ _ _ _ (heap_alloc_new w1 _)]; rfl
  have c3 : w3.cell? ⟨w2.heap.size, 0, none⟩ = some (.int .i64 (c : Int)) := by rw [e3, cell_of_row _ _ _ _ _ _ (heap_alloc_new w2 _)]; rfl
  have f3 : w3.frozen? ⟨w2.heap.size, 0, none⟩ = false := by rw [e3]; exact frozen_of_row _ _ _ _ _ (heap_alloc_new w2 _)
  have c4 : w4.cell? ⟨w3.heap.size, 0, none⟩ = some (.int .i64 n) := by rw [e4, cell_of_row _ _ _ _ _ _ (heap_alloc_new w3 _)]; rfl
  have b24 : Below w2.heap.size w2 w4 := b3.trans (b4.mono b3.size)
  have b14 : Below w1.heap.size w1 w4 := b2.trans (b24.mono b2.size)
  have b34 := b4.cell (p := ⟨w2.heap.size, 0, none⟩) (by show w2.heap.size < w3.heap.size; omega)
  have g34 := b4.frozen (p := ⟨w2.heap.size, 0, none⟩) (by show w2.heap.size < w3.heap.size; omega)
  have c1' := (b14.cell (p := ⟨w.heap.size, 0, none⟩) (by show w.heap.size < w1.heap.size; omega)).trans c1
  have c2' := (b24.cell (p := ⟨w1.heap.size, 0, none⟩) (by show w1.heap.size < w2.heap.size; omega)).trans c2
  have c3' := b34.trans c3
  have f3' := g34.trans f3
  rw [s1] at c2'
  rw [s2] at c3' f3'
  rw [s3] at c4
  exact ⟨⟨c1', c2', c3', f3', b1.trans (b14.mono b1.size)⟩, c4, s4⟩
set_option maxRecDepth 100000 in
set_option maxHeartbeats 8000000 in
theorem bcount_any (lv : Int) (h : List TxnV) (B b : Nat) (w : World) (hO : OrdIs w B b h) (hc : checkI h = 0) (ht : Tab w) (hK : Kinds w) :
    Calls Tryd.prog 10 #[.pointer (some ⟨B, 0, none⟩), .int .i64 lv] w fun e w' => e = .returned (.int .i64 (countI h lv)) ∧ Below w.heap.size w w' := by
  have h64 := (check_zero hc).1
  have hg := ht.pos
  have n0 := hO.blk.cN
  have HC := Lib.hid hc
  have HB : Hid (∀ wx, Below w.heap.size w wx → (OrdIs wx B b h ∧ Tab wx ∧ Kinds wx) ∧ wx.cell? ⟨B, 0, none⟩ = w.cell? ⟨B, 0, none⟩) := Lib.hid (fun wx hb => ⟨⟨hO.below hb, ht.below hb hg, hK.below hb⟩, hb.cell (p := ⟨B, 0, none⟩) (block_lt n0)⟩)
  clear hO hc ht hK hg
  have hb1 : Below w.heap.size w ((w.alloc (.cells #[.pointer (some ⟨B, 0, none⟩)] 30)).alloc (.cells #[.int .i64 lv] 35)) := ((Below.refl _ w).alloc (Nat.le_refl _) _).alloc (by simp) _
  have n1 := (HB.out _ hb1).2.trans n0
  by_cases h8 : h.length ≤ 8
  · have HV : Hid ((((ordersN h.length).countP (keptL h lv) : Nat) : Int) = countI h lv) := Lib.hid (by unfold countI; rw [if_pos h8])
    refine (callsIn_wide (n := 3)).1 ?_
    refine callsIn_of_wp_marks Tryd.func10 rfl trivial ?_ rfl
    simp only [Tryd.ntmps10, List.size_toArray, List.length_cons, List.length_nil, Nat.reduceAdd, Nat.reduceSub, Array.replicate_succ, Array.replicate_zero, List.push_toArray, List.append_toArray, List.nil_append, List.cons_append]
    have h8i : ¬ (8 : Int) < (h.length : Int) := by omega
    have hb2 : Below w.heap.size w (((w.alloc (.cells #[.pointer (some ⟨B, 0, none⟩)] 30)).alloc (.cells #[.int .i64 lv] 35)).alloc (.cells #[.int .i64 0] 3)) := hb1.alloc hb1.size _
    have n2 := (HB.out _ hb2).2.trans n0
    have HQ : Hid (CntI w.heap.size B lv 0 w ((((w.alloc (.cells #[.pointer (some ⟨B, 0, none⟩)] 30)).alloc (.cells #[.int .i64 lv] 35)).alloc (.cells #[.int .i64 0] 3)).alloc (.cells #[.int .i64 (h.length : Int)] 3)) ∧ ((((w.alloc (.cells #[.pointer (some ⟨B, 0, none⟩)] 30)).alloc (.cells #[.int .i64 lv] 35)).alloc (.cells #[.int .i64 0] 3)).alloc (.cells #[.int .i64 (h.length : Int)] 3)).cell? ⟨w.heap.size + 3, 0, none⟩ = some (.int .i64 (h.length : Int)) ∧ ((((w.alloc (.cells #[.pointer (some ⟨B, 0, none⟩)] 30)).alloc (.cells #[.int .i64 lv] 35)).alloc (.cells #[.int .i64 0] 3)).alloc (.cells #[.int .i64 (h.length : Int)] 3)).heap.size = w.heap.size + 4) := Lib.hid (four_boxes w _ _ _ _ _ _ _ _)
    have hs3 : (((w.alloc (.cells #[.pointer (some ⟨B, 0, none⟩)] 30)).alloc (.cells #[.int .i64 lv] 35)).alloc (.cells #[.int .i64 0] 3)).heap.size = w.heap.size + 3 := by simp
    have HM := Lib.hid (orders_any (h.length : Int) (((w.alloc (.cells #[.pointer (some ⟨B, 0, none⟩)] 30)).alloc (.cells #[.int .i64 lv] 35)).alloc (.cells #[.int .i64 0] 3)))
    rw [hs3] at HM
    clear hb1 hb2 hs3
    gi_wp2_with (refine ⟨trivial, ?_⟩; gi_at_call 35; refine ((callsIn_wide (n := _)).2 HM.out).mono ?_; rintro e w' ⟨rfl, rfl⟩)
    clear HM n1 n2
    generalize ((((w.alloc (.cells #[.pointer (some ⟨B, 0, none⟩)] 30)).alloc (.cells #[.int .i64 lv] 35)).alloc (.cells #[.int .i64 0] 3)).alloc (.cells #[.int .i64 (h.length : Int)] 3)) = W4 at *
    obtain ⟨q4, c4, s4⟩ := HQ.out
    have hs : w.heap.size + 4 ≤ W4.heap.size := by omega
    refine range_rows (gf := 63) (lb := #[.pointer (some ⟨w.heap.size + 3, 0, none⟩)]) (L := ordersN h.length) rfl (by omega) rfl trivial (fun args w => by kernel_rfl)
      (orders_seq _ h.length (w.heap.size + 3) W4 (by omega) (by omega) c4) (Below.refl _ _) rfl
      (fun pre W => CntI w.heap.size B lv (pre.countP (keptL h lv)) w W) (fun _ _ => False)
      (fun pre A B q hb => q.below hb hs) (fun _ _ _ _ q _ => q) q4
      (fun v => { tmps := #[.pointer (some ⟨B, 0, none⟩), .int .i64 lv, .pointer (some ⟨w.heap.size, 0, none⟩), .pointer (some ⟨w.heap.size + 1, 0, none⟩), .int .i64 0, .pointer (some ⟨w.heap.size + 1 + 1, 0, none⟩), v, undef, undef, .pointer (some ⟨B, 0, none⟩), .pointer (some ⟨B, 0, none⟩), .pointer (some ⟨B, 0, none⟩), .int .i64 (h.length : Int), .bool false, .pointer (some ⟨B, 0, none⟩), .pointer (some ⟨B, 0, none⟩), .pointer (some ⟨B, 0, none⟩), .int .i64 (h.length : Int),
        .func (.func 63) #[] #[.pointer (some ⟨w.heap.size + 3, 0, none⟩)], v, undef, undef, undef, undef, undef, undef, undef, undef, undef, undef, undef], defers := [] }) ?assign ?body ?done ?stop
    case assign =>
      intro l v W K hK
      gi_wp2
      exact hK
    case body =>
      intro l pre v r W q hr hpre hsz
      have hle := pre_len h8 hpre (keptL h lv)
      have HP := Lib.hid (countP_snoc (keptL h lv) pre r)
      have q0 := q.c0
      have q1 := q.c1
      obtain ⟨⟨hO, ht, hK⟩, _⟩ := HB.out W q.bel
      have CI := Lib.hid (bin_kept lv v r h B b W hO HC.out ht hK hr.1 (mem_of_prefix hpre))
      have HQ := Lib.hid q
      generalize hx : pre.countP (keptL h lv) = x at *
      clear q hr hpre hO ht hK hx
      gi_wp2_with fail
      refine ⟨trivial, ?_⟩
      refine (CallsIn.inRound l ((callsIn_wide (n := _)).2 CI.out)).mono ?_
      rintro e w5 ⟨⟨X, _, rfl⟩, hb5⟩
      have z5 := zero_block w5
      have hb6 : Below W.heap.size W ((w5.alloc (.cells #[.int .u64 0, .int .u64 0, .int .u64 0, .int .u64 0, .int .u64 0, .int .u64 0, .int .u64 0, .int .u64 0, .int .u64 0, .int .u64 0, .int .u64 0, .int .u64 0, .int .u64 0, .int .u64 0, .int .u64 0, .int .u64 0, .int .u64 0, .int .u64 0, .int .u64 0, .int .u64 0, .int .u64 0, .int .u64 0, .int .u64 0, .int .u64 0, .int .u64 0, .int .u64 0, .int .u64 0, .int .u64 0, .int .u64 0, .int .u64 0, .int .u64 0, .int .u64 0, .int .u64 0, .int .u64 0, .int .u64 0, .int .u64 0, .int .u64 0, .int .u64 0, .int .u64 0, .int .u64 0, .int .u64 0, .int .u64 0, .int .u64 0, .int .u64 0, .int .u64 0, .int .u64 0, .int .u64 0, .int .u64 0, .int .u64 0, .int .u64 0, .int .u64 0, .int .u64 0, .int .u64 0, .int .u64 0, .int .u64 0, .int .u64 0, .int .u64 0, .int .u64 0, .int .u64 0, .int .u64 0, .int .u64 0, .int .u64 0, .int .u64 0, .int .u64 0] 73)).setRow w5.heap.size (rowsA X)) := below_setRow (below_then hb5 (box_below w5 (.cells #[.int .u64 0, .int .u64 0, .int .u64 0, .int .u64 0, .int .u64 0, .int .u64 0, .int .u64 0, .int .u64 0, .int .u64 0, .int .u64 0, .int .u64 0, .int .u64 0, .int .u64 0, .int .u64 0, .int .u64 0, .int .u64 0, .int .u64 0, .int .u64 0, .int .u64 0, .int .u64 0, .int .u64 0, .int .u64 0, .int .u64 0, .int .u64 0, .int .u64 0, .int .u64 0, .int .u64 0, .int .u64 0, .int .u64 0, .int .u64 0, .int .u64 0, .int .u64 0, .int .u64 0, .int .u64 0, .int .u64 0, .int .u64 0, .int .u64 0, .int .u64 0, .int .u64 0, .int .u64 0, .int .u64 0, .int .u64 0, .int .u64 0, .int .u64 0, .int .u64 0, .int .u64 0, .int .u64 0, .int .u64 0, .int .u64 0, .int .u64 0, .int .u64 0, .int .u64 0, .int .u64 0, .int .u64 0, .int .u64 0, .int .u64 0, .int .u64 0, .int .u64 0, .int .u64 0, .int .u64 0, .int .u64 0, .int .u64 0, .int .u64 0, .int .u64 0] 73))) hb5.size (rowsA X)
      have HQ6 := Lib.hid (HQ.out.below hb6 (Nat.le_trans hs (by omega)))
      have c2 := HQ6.out.c2
      have f2 := HQ6.out.f2
      have HK6 : Hid (KeepsHi W4.heap.size W ((w5.alloc (.cells #[.int .u64 0, .int .u64 0, .int .u64 0, .int .u64 0, .int .u64 0, .int .u64 0, .int .u64 0, .int .u64 0, .int .u64 0, .int .u64 0, .int .u64 0, .int .u64 0, .int .u64 0, .int .u64 0, .int .u64 0, .int .u64 0, .int .u64 0, .int .u64 0, .int .u64 0, .int .u64 0, .int .u64 0, .int .u64 0, .int .u64 0, .int .u64 0, .int .u64 0, .int .u64 0, .int .u64 0, .int .u64 0, .int .u64 0, .int .u64 0, .int .u64 0, .int .u64 0, .int .u64 0, .int .u64 0, .int .u64 0, .int .u64 0, .int .u64 0, .int .u64 0, .int .u64 0, .int .u64 0, .int .u64 0, .int .u64 0, .int .u64 0, .int .u64 0, .int .u64 0, .int .u64 0, .int .u64 0, .int .u64 0, .int .u64 0, .int .u64 0, .int .u64 0, .int .u64 0, .int .u64 0, .int .u64 0, .int .u64 0, .int .u64 0, .int .u64 0, .int .u64 0, .int .u64 0, .int .u64 0, .int .u64 0, .int .u64 0, .int .u64 0, .int .u64 0] 73)).setRow w5.heap.size (rowsA X))) := Lib.hid (KeepsHi.of_below hb6)
      clear hb5 hb6 CI
      cases hk : keptL h lv r with
      | false =>
        rw [hk] at HP
        gi_wp2_with (with_reducible refine wpListIn_store_rel z5 X rfl _ _ rfl rfl rfl ?_)
        exact ⟨HK6.out, by show CntI _ _ _ ((pre ++ [r]).countP (keptL h lv)) _ _; rw [HP.out]; exact HQ6.out⟩
      | true =>
        rw [hk] at HP
        have HS := Lib.hid (HQ6.out.more (x + 1))
        have HT := Lib.hid (KeepsHi.setCell (D := W4.heap.size) ((w5.alloc (.cells #[.int .u64 0, .int .u64 0, .int .u64 0, .int .u64 0, .int .u64 0, .int .u64 0, .int .u64 0, .int .u64 0, .int .u64 0, .int .u64 0, .int .u64 0, .int .u64 0, .int .u64 0, .int .u64 0, .int .u64 0, .int .u64 0, .int .u64 0, .int .u64 0, .int .u64 0, .int .u64 0, .int .u64 0, .int .u64 0, .int .u64 0, .int .u64 0, .int .u64 0, .int .u64 0, .int .u64 0, .int .u64 0, .int .u64 0, .int .u64 0, .int .u64 0, .int .u64 0, .int .u64 0, .int .u64 0, .int .u64 0, .int .u64 0, .int .u64 0, .int .u64 0, .int .u64 0, .int .u64 0, .int .u64 0, .int .u64 0, .int .u64 0, .int .u64 0, .int .u64 0, .int .u64 0, .int .u64 0, .int .u64 0, .int .u64 0, .int .u64 0, .int .u64 0, .int .u64 0, .int .u64 0, .int .u64 0, .int .u64 0, .int .u64 0, .int .u64 0, .int .u64 0, .int .u64 0, .int .u64 0, .int .u64 0, .int .u64 0, .int .u64 0, .int .u64 0] 73)).setRow w5.heap.size (rowsA X)) ⟨w.heap.size + 1 + 1, 0, none⟩ (.int .i64 ((x + 1 : Nat) : Int)) (by show w.heap.size + 1 + 1 < W4.heap.size; omega))
        gi_wp2_with (with_reducible refine wpListIn_store_rel z5 X rfl _ _ rfl rfl rfl ?_)
        exact ⟨HK6.out.trans HT.out, by show CntI _ _ _ ((pre ++ [r]).countP (keptL h lv)) _ _; rw [HP.out]; exact HS.out⟩
    case done =>
      intro W q hK
      have c2 := q.c2
      have HQ := Lib.hid q
      clear q
      gi_wp2
      refine ⟨by simp, .inl ⟨_, _, rfl, run_takeDeferred hK, ?_⟩⟩
      exact ⟨_, results_tmp rfl _ _ _, by rw [← HV.out]; rfl, HQ.out.bel.trans (belowK_b (w := w) (Nat.le_refl _) W W4.heap.size _ _ (by omega) hK rfl rfl)⟩
    case stop => exact fun pre W _ h _ => h.elim
  · have HV : Hid ((-1 : Int) = countI h lv) := Lib.hid (by unfold countI; rw [if_neg h8])
    have h8i : (8 : Int) < (h.length : Int) := by omega
    clear h8
    go_enter Tryd.func10, Tryd.ntmps10
    go_wp2_with fail
    go_ret
    exact ⟨ret_i HV.out, hb1⟩
end Go.Proofs.YtfancjmhdbaoeaaDoor

namespace Go.Proofs.YtfancjmhdbaoeaaDoor
set_option maxRecDepth 100000
open Go.RowKit

/-- What a transaction is, wherever its operations lie. -/
def txE (t : TxnV) : Int × Int × Int × List OpV := (t.s, t.b, t.c, t.l)
end Go.Proofs.YtfancjmhdbaoeaaDoor

namespace Go.Proofs.YtfancjmhdbaoeaaDoor
set_option maxRecDepth 100000
open Go.RowKit

theorem infoTxn : (Tryd.prog.info? 29).map (fun i => (i.zero, i.size, i.bytes)) = some (some (.agg #[.int .i64 0, .int .i64 0, .int .i64 0, .slice none 0 0]), 4, 48) := by kernel_rfl
/-- A row of transactions that the call itself made. -/
def OwnT (w : World) (base : Nat) (v : Value) (h : List TxnV) : Prop := w.ownsRow base 29 4 v h.length (txV h)
theorem OwnT.row {w : World} {base : Nat} {v : Value} {h : List TxnV} (hO : OwnT w base v h) : Row w v h.length 4 (txV h) := Row.of_owns hO
end Go.Proofs.YtfancjmhdbaoeaaDoor

namespace Go.Proofs.YtfancjmhdbaoeaaDoor
set_option maxRecDepth 100000
open Go.RowKit

theorem grown_setC (w : World) (a : Addr) (u : Value) : w.grownBy (w.setCell a u) (some a.block) :=
  ⟨rfl, rfl, rfl, by simp, fun k _ hk => Below.heap_setCell w a u k (fun e => hk (by rw [e]))⟩
theorem txV_app (l m : List TxnV) : txV (l ++ m) = txV l ++ txV m := by simp [txV]
/-- Two transactions' own operations lie apart. -/
def ApartT (t u : TxnV) : Prop := ∀ b, t.v.ownBlock = some b → u.v.ownBlock ≠ some b
theorem OwnT.below {w w' : World} {base : Nat} {v : Value} {h : List TxnV} (hO : OwnT w base v h) (hb : Below w.heap.size w w') : OwnT w' base v h := owns_below hO hb
theorem OwnT.setCell {w : World} {base g cap : Nat} {h h' : List TxnV} {j : Nat} {u : Value} (hO : OwnT w base (.slice (some ⟨g, 0, none⟩) h.length cap) h) (hl : h'.length = h.length) (hh : txV h' = (txV h).set j u) :
    OwnT (w.setCell ⟨g, j, none⟩ u) base (.slice (some ⟨g, 0, none⟩) h'.length cap) h' := by
  obtain ⟨h1, h2⟩ := hO
  rcases h2 with ⟨h2, _⟩ | ⟨g', cap', cur, e1, e2, hb, e3, e4, e5, e6⟩
  · cases h2
  cases e1
  refine ⟨by rw [txV_len], .inr ⟨g, cap, cur.setIfInBounds j u, rfl, e2, ?_, by rw [hl]; exact e3, e4, by simpa using e5, ?_⟩⟩
  · rw [Sort.setCell_eq]
    simp [Sort.mapBlock, Array.getElem?_modify, hb, Sort.onCells]
  · rw [hl, Array.toList_setIfInBounds, List.take_set, e6, hh]
theorem OwnT.at {w : World} {base g cap : Nat} {h : List TxnV} (hO : OwnT w base (.slice (some ⟨g, 0, none⟩) h.length cap) h) {j : Nat} (hj : j < h.length * 4) :
    w.cell? ⟨g, j, none⟩ = (txV h)[j]? ∧ w.frozen? ⟨g, j, none⟩ = false := by
  constructor
  · obtain ⟨_, ao, cap', e, _, _, hc⟩ := hO.row
    cases e
    obtain ⟨b, off, e, hcell⟩ := hc (by omega)
    cases e
    have := hcell j hj
    simpa using this
  · obtain ⟨h1, h2⟩ := hO
    rcases h2 with ⟨h2, _⟩ | ⟨g', cap', cur, e1, e2, hb, _⟩
    · cases h2
    cases e1
    simp [World.frozen?, hb]
theorem OwnT.split {w : World} {base : Nat} {v : Value} {h : List TxnV} (hO : OwnT w base v h) : (v = .slice none 0 0 ∧ h = []) ∨ ∃ g cap, v = .slice (some ⟨g, 0, none⟩) h.length cap ∧ base ≤ g := by
  obtain ⟨_, h2⟩ := hO
  rcases h2 with ⟨e1, e2⟩ | ⟨g, cap, cur, e1, e2, _⟩
  · exact .inl ⟨e1, List.eq_nil_of_length_eq_zero e2⟩
  · exact .inr ⟨g, cap, e1, e2⟩
/-- A copy of transactions: the row is the call's own, and each one's operations are, apart from each other. -/
def CopyOf (w : World) (base : Nat) (v : Value) (c : List TxnV) : Prop := ∃ base2, (base ≤ base2 ∧ base2 ≤ w.heap.size) ∧ OwnT w base v c ∧ (∀ b, v.ownBlock = some b → b < base2) ∧ (∀ t ∈ c, Own w base2 t.v t.l) ∧ c.Pairwise ApartT
end Go.Proofs.YtfancjmhdbaoeaaDoor

namespace Go.Proofs.YtfancjmhdbaoeaaDoor
set_option maxRecDepth 100000
open Go.RowKit

theorem apart_at {c : List TxnV} (h : c.Pairwise ApartT) {i j : Nat} (hi : i < c.length) (hj : j < c.length) (hne : j ≠ i) : c[j].v.ownBlock = none ∨ c[j].v.ownBlock ≠ c[i].v.ownBlock := by
  cases hb : c[j].v.ownBlock with
  | none => exact .inl rfl
  | some b =>
    refine .inr (fun e => ?_)
    rw [List.pairwise_iff_getElem] at h
    rcases Nat.lt_or_gt_of_ne hne with hlt | hlt
    · exact h j i hj hi hlt b hb e.symm
    · exact h i j hi hj hlt b e.symm hb
theorem CopyOf.below {w w' : World} {base : Nat} {v : Value} {c : List TxnV} (h : CopyOf w base v c) (hb : Below w.heap.size w w') : CopyOf w' base v c := by
  obtain ⟨b2, h1, h2, h3, h4, h5⟩ := h
  exact ⟨b2, ⟨h1.1, Nat.le_trans h1.2 hb.size⟩, h2.below hb, h3, fun t ht => (h4 t ht).below hb, h5⟩
theorem CopyOf.far {w w' : World} {base : Nat} {v : Value} {c : List TxnV} {row : Option Nat} (h : CopyOf w base v c) (hg : w.grownBy w' row) (hr : ∀ b, row = some b → b < base) : CopyOf w' base v c := by
  obtain ⟨b2, h1, h2, h3, h4, h5⟩ := h
  have far : ∀ (v : Value) (B : Nat), base ≤ B → (∀ b, v.ownBlock = some b → B ≤ b) → v.ownBlock = none ∨ v.ownBlock ≠ row := fun v B hB hv => by
    cases hb : v.ownBlock with
    | none => exact .inl rfl
    | some b =>
      refine .inr (fun e => ?_)
      have := hr b e.symm
      have := hv b hb
      omega
  exact ⟨b2, ⟨h1.1, Nat.le_trans h1.2 hg.size⟩, World.ownsRow.kept h2 hg (far _ base (Nat.le_refl _) (fun b hb => (World.ownsRow.lt h2 b hb).1)), h3, fun t ht => World.ownsRow.kept (h4 t ht) hg (far _ b2 h1.1 (fun b hb => (World.ownsRow.lt (h4 t ht) b hb).1)), h5⟩
theorem CopyOf.blocks {w : World} {base : Nat} {v : Value} {c : List TxnV} (h : CopyOf w base v c) : (∀ b, v.ownBlock = some b → base ≤ b ∧ b < w.heap.size) ∧ ∀ t ∈ c, ∀ b, t.v.ownBlock = some b → base ≤ b ∧ b < w.heap.size := by
  obtain ⟨b2, h1, h2, h3, h4, h5⟩ := h
  exact ⟨fun b hb => World.ownsRow.lt h2 b hb, fun t ht b hb => ⟨Nat.le_trans h1.1 (World.ownsRow.lt (h4 t ht) b hb).1, (World.ownsRow.lt (h4 t ht) b hb).2⟩⟩
theorem CopyOf.cells {w : World} {base g cap : Nat} {c : List TxnV} (h : CopyOf w base (.slice (some ⟨g, 0, none⟩) c.length cap) c) {i : Nat} (hi : i < c.length) :
    (w.cell? ⟨g, i * 4, none⟩ = some (.int .i64 c[i].s) ∧ w.frozen? ⟨g, i * 4, none⟩ = false) ∧ (w.cell? ⟨g, i * 4 + 2, none⟩ = some (.int .i64 c[i].c) ∧ w.frozen? ⟨g, i * 4 + 2, none⟩ = false) ∧ (w.cell? ⟨g, i * 4 + 3, none⟩ = some c[i].v ∧ w.frozen? ⟨g, i * 4 + 3, none⟩ = false) := by
  obtain ⟨b2, h1, h2, h3, h4, h5⟩ := h
  obtain ⟨q0, _, q2, q3⟩ := txV_at c i hi
  exact ⟨⟨(h2.at (by omega)).1.trans q0, (h2.at (by omega)).2⟩, ⟨(h2.at (by omega)).1.trans q2, (h2.at (by omega)).2⟩, ⟨(h2.at (by omega)).1.trans q3, (h2.at (by omega)).2⟩⟩
theorem CopyOf.own {w : World} {base g cap : Nat} {c : List TxnV} (h : CopyOf w base (.slice (some ⟨g, 0, none⟩) c.length cap) c) {i : Nat} (hi : i < c.length) : ∃ b2, (g < b2 ∧ b2 ≤ w.heap.size) ∧ Own w b2 c[i].v c[i].l := by
  obtain ⟨b2, h1, h2, h3, h4, h5⟩ := h
  exact ⟨b2, ⟨h3 g rfl, h1.2⟩, h4 _ (List.getElem_mem hi)⟩
theorem CopyOf.split {w : World} {base : Nat} {v : Value} {c : List TxnV} (h : CopyOf w base v c) (hn : 0 < c.length) : ∃ g cap, v = .slice (some ⟨g, 0, none⟩) c.length cap := by
  obtain ⟨b2, h1, h2, _⟩ := h
  rcases h2.split with ⟨_, rfl⟩ | ⟨g, cap, e, _⟩
  · simp at hn
  · exact ⟨g, cap, e⟩
theorem CopyOf.txns {w : World} {base : Nat} {v : Value} {c : List TxnV} (h : CopyOf w base v c) : Txns w v c := by
  obtain ⟨b2, h1, h2, h3, h4, h5⟩ := h
  exact ⟨h2.row, fun t ht => (h4 t ht).ops⟩
end Go.Proofs.YtfancjmhdbaoeaaDoor

namespace Go.Proofs.YtfancjmhdbaoeaaDoor
set_option maxRecDepth 100000
open Go.RowKit

/-- A transaction, its operations nowhere. -/
def zT (t : TxnV) : TxnV := ⟨t.s, t.b, t.c, .slice none 0 0, t.l⟩
theorem zT_of {c h : List TxnV} (e : c.map txE = h.map txE) : c.map zT = h.map zT := by
  have k : ∀ l : List TxnV, l.map zT = (l.map txE).map fun q => (⟨q.1, q.2.1, q.2.2.1, .slice none 0 0, q.2.2.2⟩ : TxnV) := fun l => by rw [List.map_map]; rfl
  rw [k, k, e]
theorem opsN_z (h : List TxnV) : opsN (h.map zT) = opsN h := by unfold opsN; rw [List.map_map]; rfl
theorem partsB_z (h : List TxnV) : partsB (h.map zT) = partsB h := by unfold partsB; rw [List.all_map]; rfl
theorem wvH_z (h : List TxnV) : wvH (h.map zT) = wvH h := by unfold wvH; rw [List.flatMap_map]; rfl
theorem opsAt_z (h : List TxnV) (k : Nat) : opsAt (h.map zT) k = opsAt h k := by unfold opsAt; rw [List.getElem?_map]; cases h[k]? <;> rfl
theorem wrTo_z (h : List TxnV) (k : Nat) : wrTo (h.map zT) k = wrTo h k := by
  unfold wrTo
  congr 1
  funext F j
  rw [opsAt_z]
theorem valuesB_z (h : List TxnV) : valuesB (h.map zT) = valuesB h := by
  unfold valuesB okW
  rw [wvH_z, List.all_map, List.length_map, wrTo_z]; rfl
theorem stampsB_z (h : List TxnV) : stampsB (h.map zT) = stampsB h := by
  have : stL (h.map zT) = stL h := by unfold stL; rw [List.flatMap_map]; rfl
  unfold stampsB; rw [this]
theorem endF_z (h : List TxnV) : endF (h.map zT) = endF h := by
  funext x
  unfold endF
  rw [List.filter_map, List.getLast?_map, Option.map_map]; rfl
theorem sesOk_z (h : List TxnV) (k : Nat) : sesOk (h.map zT) k = sesOk h k := by
  unfold sesOk
  rw [List.getElem?_map, ← List.map_take, endF_z]
  cases h[k]? <;> rfl
theorem sesB_z (h : List TxnV) : sesB (h.map zT) = sesB h := by
  unfold sesB
  rw [List.length_map]
  congr 1
  funext k
  exact sesOk_z h k
theorem checkI_z (h : List TxnV) : checkI (h.map zT) = checkI h := by
  unfold checkI rightB
  rw [List.length_map, opsN_z, partsB_z, valuesB_z, stampsB_z, sesB_z]
theorem checkI_txE {c h : List TxnV} (e : c.map txE = h.map txE) : checkI c = checkI h := by
  rw [← checkI_z c, ← checkI_z h, zT_of e]
end Go.Proofs.YtfancjmhdbaoeaaDoor

namespace Go.Proofs.YtfancjmhdbaoeaaDoor
set_option maxRecDepth 100000
open Go.RowKit

/-- A row of transactions that a call made: the row, and each one's operations, apart. -/
def OwnH (w : World) (b0 : Nat) (v : Value) (c : List TxnV) : Prop := OwnT w b0 v c ∧ (∀ t ∈ c, Own w b0 t.v t.l) ∧ c.Pairwise ApartT
section
variable {w w' : World} {b0 base : Nat} {v v' u : Value} {c : List TxnV}
theorem OwnH.below (h : OwnH w b0 v c) (hb : Below w.heap.size w w') : OwnH w' b0 v c := ⟨h.1.below hb, fun t ht => (h.2.1 t ht).below hb, h.2.2⟩
theorem OwnH.nil (w : World) (b0 : Nat) : OwnH w b0 (.slice none 0 0) [] := ⟨⟨rfl, .inl ⟨rfl, rfl⟩⟩, by simp, List.Pairwise.nil⟩
theorem OwnH.txns (h : OwnH w b0 v c) : Txns w v c := ⟨h.1.row, fun t ht => (h.2.1 t ht).ops⟩
theorem ownH_apart {b1 : Nat} {l : List OpV} (h : OwnT w b0 v c) (k : Own w b1 u l) : u.ownBlock = none ∨ u.ownBlock ≠ v.ownBlock := owns_apart k h (by decide)
theorem OwnH.add {s b d : Int} {l : List OpV} (h : OwnH w b0 v c) (hu : Own w base u l) (hlt : ∀ t ∈ c, ∀ g, t.v.ownBlock = some g → g < base) (hb : b0 ≤ base) (hO : OwnT w' b0 v' (c ++ [⟨s, b, d, u, l⟩])) (hg : w.grownBy w' v.ownBlock) : OwnH w' b0 v' (c ++ [⟨s, b, d, u, l⟩]) := by
  refine ⟨hO, fun t ht => ?_, ?_⟩
  · rcases List.mem_append.1 ht with ht | ht
    · exact World.ownsRow.kept (h.2.1 t ht) hg (ownH_apart h.1 (h.2.1 t ht))
    · obtain rfl := List.mem_singleton.1 ht
      exact World.ownsRow.kept (hu.base hb) hg (ownH_apart h.1 hu)
  · rw [List.pairwise_append]
    refine ⟨h.2.2, List.pairwise_singleton _ _, fun t ht x hx => ?_⟩
    obtain rfl := List.mem_singleton.1 hx
    intro g h1 h2
    have q1 := hlt t ht g h1
    have q2 := (World.ownsRow.lt hu g h2).1
    omega
theorem OwnH.lt (h : OwnH w b0 v c) : ∀ t ∈ c, ∀ g, t.v.ownBlock = some g → g < w.heap.size := fun t ht g hg => (World.ownsRow.lt (h.2.1 t ht) g hg).2
end
/-- What is left of such a row from number k on. -/
def OwnN (w : World) (gv b0 k : Nat) (D : List TxnV) : Prop := ∀ j (hj : j < D.length), k ≤ j → (∀ i, i < 4 → w.cell? ⟨gv, j * 4 + i, none⟩ = (txV D)[j * 4 + i]? ∧ w.frozen? ⟨gv, j * 4 + i, none⟩ = false) ∧ Own w b0 D[j].v D[j].l
section
variable {w w' : World} {gv b0 k : Nat} {D : List TxnV}
theorem OwnN.first {cap : Nat} (h : OwnH w b0 (.slice (some ⟨gv, 0, none⟩) D.length cap) D) : OwnN w gv b0 0 D := fun j hj _ => ⟨fun i hi => h.1.at (by omega), h.2.1 _ (List.getElem_mem hj)⟩
theorem OwnN.below (h : OwnN w gv b0 k D) (hb : Below w.heap.size w w') : OwnN w' gv b0 k D := fun j hj hk => ⟨fun i hi => by
  obtain ⟨q0, _⟩ := txV_at D j hj
  have hl := block_lt (((h j hj hk).1 0 (by omega)).1.trans q0)
  rw [hb.cell (p := ⟨gv, j * 4 + i, none⟩) hl, hb.frozen (p := ⟨gv, j * 4 + i, none⟩) hl]; exact (h j hj hk).1 i hi, (h j hj hk).2.below hb⟩
theorem OwnN.step {g2 o : Nat} {x y : Value} (h : OwnN w gv b0 k D) (hk : k < D.length) (hp : D.Pairwise ApartT) (hv : D[k].v.ownBlock = some g2) (hne : ∀ t ∈ D, t.v.ownBlock ≠ some gv) :
    OwnN ((w.setCell ⟨gv, k * 4, none⟩ x).setCell ⟨g2, o, none⟩ y) gv b0 (k + 1) D := by
  intro j hj hkj
  obtain ⟨h1, h2⟩ := h j hj (by omega)
  have e : g2 ≠ gv := fun e => hne D[k] (List.getElem_mem hk) (by rw [hv, e])
  refine ⟨fun i hi => ?_, ?_⟩
  · rw [World.frozen?_setCell, World.frozen?_setCell, World.cell?_setCell_other _ _ _ _ (fun q => by injection q with q1 q2; exact e q1), World.cell?_setCell_other _ _ _ _ (fun q => by injection q with q1 q2; omega)]
    exact h1 i hi
  · have k1 := World.ownsRow.kept h2 (grown_setC w ⟨gv, k * 4, none⟩ x) (.inr (hne _ (List.getElem_mem hj)))
    have hb := apart_at hp hk hj (by omega)
    rw [hv] at hb
    exact World.ownsRow.kept k1 (grown_setC _ ⟨g2, o, none⟩ y) hb
theorem OwnN.cells (h : OwnN w gv b0 k D) (hk : k < D.length) : (w.cell? ⟨gv, k * 4, none⟩ = some (.int .i64 D[k].s) ∧ w.frozen? ⟨gv, k * 4, none⟩ = false) ∧ w.cell? ⟨gv, k * 4 + 1, none⟩ = some (.int .i64 D[k].b) ∧ w.cell? ⟨gv, k * 4 + 2, none⟩ = some (.int .i64 D[k].c) ∧ w.cell? ⟨gv, k * 4 + 3, none⟩ = some D[k].v := by
  obtain ⟨q0, q1, q2, q3⟩ := txV_at D k hk
  obtain ⟨h1, _⟩ := h k hk (Nat.le_refl _)
  exact ⟨⟨(h1 0 (by omega)).1.trans q0, (h1 0 (by omega)).2⟩, (h1 1 (by omega)).1.trans q1, (h1 2 (by omega)).1.trans q2, (h1 3 (by omega)).1.trans q3⟩
end
theorem Own.head {w : World} {base : Nat} {v : Value} {x : OpV} {r : List OpV} (h : Own w base v (x :: r)) : ∃ g cap, v = .slice (some ⟨g, 0, none⟩) (r.length + 1) cap ∧ w.cell? ⟨g, 1, none⟩ = some (.int .i64 x.key) ∧ w.frozen? ⟨g, 1, none⟩ = false ∧ base ≤ g ∧ g < w.heap.size := by
  have hr := Row.of_owns h
  have hl := World.ownsRow.lt h
  obtain ⟨h1, h2⟩ := h
  rcases h2 with ⟨_, e⟩ | ⟨g, cap, cur, e1, e2, hb, _⟩
  · cases e
  subst e1
  obtain ⟨_, ao, cap', e, _, _, hc⟩ := hr
  cases e
  obtain ⟨b, off, e, hcell⟩ := hc (by simp)
  cases e
  refine ⟨g, cap, rfl, ?_, by simp [World.frozen?, hb], (hl g rfl).1, (hl g rfl).2⟩
  have := hcell 1 (by simp; omega)
  simpa [opV] using this
theorem txE_mem {c h : List TxnV} (e : c.map txE = h.map txE) {t : TxnV} (ht : t ∈ c) : ∃ u ∈ h, txE u = txE t := by
  have : txE t ∈ h.map txE := by rw [← e]; exact List.mem_map.2 ⟨t, ht, rfl⟩
  obtain ⟨u, hu, h2⟩ := List.mem_map.1 this
  exact ⟨u, hu, h2⟩
theorem txE_at {c h : List TxnV} (e : c.map txE = h.map txE) {k : Nat} (hc : k < c.length) (hh : k < h.length) : c[k].s = h[k].s ∧ c[k].b = h[k].b ∧ c[k].c = h[k].c ∧ c[k].l = h[k].l := by
  have := congrArg (·[k]?) e
  simp only [List.getElem?_map, List.getElem?_eq_getElem hc, List.getElem?_eq_getElem hh, Option.map_some] at this
  have := Option.some.inj this
  unfold txE at this
  simp only [Prod.mk.injEq] at this
  exact this
theorem ok_txE {c h : List TxnV} (e : c.map txE = h.map txE) (hok : ∀ t ∈ h, t.ok) : ∀ t ∈ c, t.ok := fun t ht => by
  obtain ⟨u, hu, h2⟩ := txE_mem e ht
  have h3 := hok u hu
  unfold txE at h2
  simp only [Prod.mk.injEq] at h2
  obtain ⟨q1, q2, q3, q4⟩ := h2
  unfold TxnV.ok at *
  rw [← q1, ← q2, ← q3, ← q4]; exact h3
theorem short_txE {c h : List TxnV} (e : c.map txE = h.map txE) (hs : Short h) : Short c := fun t ht => by
  obtain ⟨u, hu, h2⟩ := txE_mem e ht
  have h3 := hs u hu
  unfold txE at h2
  simp only [Prod.mk.injEq] at h2
  rw [← h2.2.2.2]; exact h3
end Go.Proofs.YtfancjmhdbaoeaaDoor

namespace Go.Proofs.YtfancjmhdbaoeaaDoor
set_option maxRecDepth 100000
open Go.RowKit

def mV (i : Nat) (v : Value) : TxnV := ⟨0, ((2 * i : Nat) : Int), ((2 * i + 1 : Nat) : Int), v, [⟨true, 0, ((i + 1 : Nat) : Int)⟩]⟩
def manyH (n : Nat) : List TxnV := (List.range n).map fun i => mV i (.slice none 0 0)
theorem manyH_succ (n : Nat) : manyH (n + 1) = manyH n ++ [mV n (.slice none 0 0)] := by unfold manyH; rw [List.range_succ, List.map_append]; rfl
theorem manyH_len (n : Nat) : (manyH n).length = n := by unfold manyH; simp
set_option maxRecDepth 100000 in
theorem many_check : ∀ n : Nat, n ≤ 64 → checkI (manyH n) = 0 := by decide +kernel
theorem many_big {n : Nat} (h : 64 < n) : checkI (manyH n) = 3 := by
  unfold checkI; rw [if_pos (.inl (by rw [manyH_len]; exact h))]
theorem many_ok {n : Nat} (hn : n ≤ 1000) : ∀ t ∈ manyH n, t.ok := by
  intro t ht
  obtain ⟨i, hi, rfl⟩ := List.mem_map.1 ht
  have hi := List.mem_range.1 hi
  refine ⟨⟨?_, ?_, ?_⟩, fun o ho => ?_⟩
  · simp [mV, IntOk]
  · simp only [mV, IntOk]; omega
  · simp only [mV, IntOk]; omega
  · simp only [mV, List.mem_singleton] at ho
    subst ho
    refine ⟨?_, ?_⟩ <;> simp only [IntOk] <;> omega
theorem many_short (n : Nat) : Short (manyH n) := by
  intro t ht
  obtain ⟨i, _, rfl⟩ := List.mem_map.1 ht
  simp [mV]
end Go.Proofs.YtfancjmhdbaoeaaDoor

namespace Go.Proofs.YtfancjmhdbaoeaaDoor
set_option maxRecDepth 100000
open Go.RowKit

/-- What lies in the block of a witness. -/
def WitS (p : Nat) (vo vs : Value) (w : World) : Prop := w.cell? ⟨p, 0, none⟩ = some vo ∧ w.cell? ⟨p, 1, none⟩ = some vs
theorem WitS.below {p : Nat} {vo vs : Value} {w w' : World} (h : WitS p vo vs w) (hb : Below w.heap.size w w') : WitS p vo vs w' := ⟨(hb.cell (p := ⟨p, 0, none⟩) (block_lt h.1)).trans h.1, (hb.cell (p := ⟨p, 1, none⟩) (block_lt h.2)).trans h.2⟩
end Go.Proofs.YtfancjmhdbaoeaaDoor

namespace Go.Proofs.YtfancjmhdbaoeaaDoor
set_option maxRecDepth 100000
open Go.RowKit

theorem nilIn (w : World) : Sem.run Tryd.prog (binOp .eql 36 (.slice none 0 0) (.slice none 0 0)) w = .ok (.bool true) w := by kernel_rfl
theorem someIn (w : World) (a : Addr) (n c : Nat) : Sem.run Tryd.prog (binOp .eql 36 (.slice (some a) n c) (.slice none 0 0)) w = .ok (.bool false) w := by kernel_rfl
set_option maxHeartbeats 4000000 in
theorem clone_ints (va : Value) (l : List Int) (w : World) (ha : Ints w va l) (hl : l.length ≤ 100000) :
    Calls Tryd.prog 69 #[va] w fun e w' => ∃ v, e = .returned v ∧ w'.ownsRow w.heap.size 3 1 v l.length (l.map (Value.int .i64)) ∧ Below w.heap.size w w' := by
  obtain ⟨i0, hi, hz0, hz1, hz2⟩ := info_parts infoInt
  obtain ⟨ao, cap, rfl, hal⟩ := ha.form
  cases ao with
  | none =>
    have h0 : l = [] := by
      obtain ⟨_, ao', cap', e, _, hno, _⟩ := ha
      cases e
      exact List.eq_nil_of_length_eq_zero (hno rfl).1
    subst h0
    have hc0 : cap = 0 := by
      obtain ⟨_, ao', cap', e, _, hno, _⟩ := ha
      cases e
      exact (hno rfl).2
    subst hc0
    have e1 := nilIn
    have e2 := fun w a n c => someIn w a n c
    go_enter Tryd.func69, Tryd.ntmps69
    go_wp2_with fail
    go_ret
    exact ⟨_, rfl, World.ownsRow_nil _ _ _ _, Below.refl _ _⟩
  | some ad =>
    have e1 := nilIn
    have e2 := fun w a n c => someIn w a n c
    go_enter Tryd.func69, Tryd.ntmps69
    go_wp2_with (first | (at_builtin; refine wpList_append_row rfl _ _ 36 rfl w.heap.size 3 i0 (.int .i64 0) 1 8 Tryd.underlying36 hi hz0 hz1 hz2 rfl (by decide) _ 0 [] rfl (World.ownsRow_lit _ _ _ (Nat.le_refl _) (by decide) rfl) _ l.length _ rfl (ha.below ((Below.refl _ _).alloc (Nat.le_refl _) _)) ?d1 ?d2 ?d3 ?d4 ?_) | go_in)
    case d1 => intro u hu; obtain ⟨x, _, rfl⟩ := List.mem_map.1 hu; rfl
    case d2 => unfold maxLen; omega
    case d3 => omega
    case d4 => first | omega | simp
    intro v5 w5 hown5 hg5
    have hO5 : w5.ownsRow w.heap.size 3 1 v5 l.length (l.map (Value.int .i64)) := by simpa using hown5
    have hb5 := ((Below.refl w.heap.size w).alloc (Nat.le_refl _) (.cells #[] 3)).grown hg5 (by simp) (by intro k hk; simp [Value.ownBlock] at hk; omega)
    clear hown5 hg5
    go_wp2_with fail
    go_ret
    exact ⟨_, rfl, hO5, hb5⟩
theorem infoIntsL : (Tryd.prog.info? 36).map (fun i => (i.zero, i.size, i.bytes)) = some (some (.slice none 0 0), 1, 24) := by kernel_rfl
/-- Whom each sees, in lists. -/
def seesL (V : Mat) (n : Nat) : List (List Int) := (List.range n).map fun (i : Nat) => (lst (seeTo V (i : Int) 64)).map Int.ofNat
theorem seesL_succ (V : Mat) (n : Nat) : seesL V (n + 1) = seesL V n ++ [(lst (seeTo V (n : Int) 64)).map Int.ofNat] := by
  unfold seesL; rw [List.range_succ, List.map_append]; rfl
/-- A row of rows of ints that the call itself made. -/
structure OwnK (b : Nat) (w : World) (v : Value) (K : List KRow) : Prop where
  kr : w.ownsRow b 36 1 v K.length (K.map (·.1))
  ke : ∀ p ∈ K, w.ownsRow b 3 1 p.1 p.2.length (p.2.map (Value.int .i64))
theorem OwnK.nil (b : Nat) (w : World) : OwnK b w (.slice none 0 0) [] := ⟨World.ownsRow_nil _ _ _ _, fun p hp => (by cases hp)⟩
theorem OwnK.below {b : Nat} {w w' : World} {v : Value} {K : List KRow} (h : OwnK b w v K) (hb : Below w.heap.size w w') : OwnK b w' v K := ⟨owns_below h.kr hb, fun p hp => owns_below (h.ke p hp) hb⟩
theorem OwnK.add {b : Nat} {w w2 : World} {o : Obj} {v v' u : Value} {K : List KRow} {l : List Int} (h : OwnK b w v K) (hv : w.ownsRow b 3 1 u l.length (l.map (Value.int .i64))) (hown : w2.ownsRow b 36 1 v' (K.length + 1) (K.map (·.1) ++ [u]))
    (hg : (w.alloc o).grownBy w2 v.ownBlock) : OwnK b w2 v' (K ++ [(u, l)]) := by
  refine ⟨by simpa using hown, fun p hp => ?_⟩
  rcases List.mem_append.1 hp with hp | hp
  · exact ((h.ke p hp).alloc o).kept hg (owns_apart (h.ke p hp) h.kr (by decide))
  · obtain rfl := List.mem_singleton.1 hp
    exact (hv.alloc o).kept hg (owns_apart hv h.kr (by decide))
theorem OwnK.lists {b : Nat} {w : World} {v : Value} {K : List KRow} (h : OwnK b w v K) : Lists w v (K.map (·.2)) := by
  refine ⟨K.map (·.1), by have := Row.of_owns h.kr; rwa [List.length_map], fun k hk => ?_⟩
  rw [List.length_map] at hk
  refine ⟨K[k].1, by rw [List.getElem?_map, List.getElem?_eq_getElem hk]; rfl, ?_⟩
  rw [List.getElem_map]
  exact Ints.of_owns (h.ke _ (List.getElem_mem hk))
/-- What lies in a block of another type isn't an own row's. -/
theorem own_far {w : World} {b e size n p : Nat} {v : Value} {xs : List Value} {cs : Array Value} {t : TypeId} {fr : Nat × Nat} (h : w.ownsRow b e size v n xs) (hp : w.heap[p]? = some (.cells cs t fr)) (hne : e ≠ t) : some p ≠ v.ownBlock := by
  obtain ⟨_, h⟩ := h
  rcases h with ⟨rfl, _⟩ | ⟨g, c, cur, rfl, _, hh, _⟩
  · simp [Value.ownBlock]
  · intro e2
    simp [Value.ownBlock] at e2
    subst e2
    rw [hp] at hh
    injection hh with hh
    injection hh with h1 h2 h3
    exact hne h2.symm
/-- What lies there while a witness is made. -/
structure WI (b p5 : Nat) (V : Mat) (vo : Value) (l : List Int) (vs : Value) (K : List KRow) (w0 w : World) : Prop where
  rel : RelAt w b 73 V
  res : At w (b + 1) (.cells #[.slice none 0 0, .slice none 0 0] 39)
  box : At w p5 (.cells #[vo, vs] 39)
  own : OwnK b w vs K
  ord : w.ownsRow b 3 1 vo l.length (l.map (Value.int .i64))
  bel : Below b w0 w
theorem grown_setW (w : World) (a : Addr) (u : Value) : w.grownBy (w.setCell a u) (some a.block) :=
  ⟨rfl, rfl, rfl, by simp, fun k _ hk => Below.heap_setCell w a u k (fun e => hk (by rw [e]))⟩
theorem lit_newS (w : World) (x : Value) (t : TypeId) : ∀ j u, [x][j]? = some u → (w.alloc (.cells #[x] t)).cell? ((⟨w.heap.size, 0, none⟩ : Addr).add j) = some u := fun j u hu => by
  match j, hu with
  | 0, hu =>
    simp at hu; subst hu
    rw [Addr.add_lit, Nat.add_zero, cell_of_row _ _ _ _ _ _ (heap_alloc_new w _)]; rfl
  | j + 1, hu => simp at hu
theorem own_none {w : World} {b e size n p : Nat} {v : Value} {xs : List Value} {cs : Array Value} {t : TypeId} {fr : Nat × Nat} (h : w.ownsRow b e size v n xs) (hp : w.heap[p]? = some (.cells cs t fr)) (hne : e ≠ t) : v.ownBlock = none ∨ v.ownBlock ≠ some p := .inr (fun e2 => own_far h hp hne e2.symm)
theorem WI.below {b p5 : Nat} {V : Mat} {vo : Value} {l : List Int} {vs : Value} {K : List KRow} {w0 w w' : World} (h : WI b p5 V vo l vs K w0 w) (hb : Below w.heap.size w w') : WI b p5 V vo l vs K w0 w' :=
  ⟨h.rel.below hb h.rel.lt, h.res.below hb, h.box.below hb, h.own.below hb, owns_below h.ord hb, h.bel.trans (hb.mono (Nat.le_of_lt h.rel.lt))⟩
theorem WI.add {b p5 : Nat} {V : Mat} {vo : Value} {l : List Int} {vs v' u : Value} {K : List KRow} {s : List Int} {w0 W w5 : World} {o : Obj} (hp : b + 2 ≤ p5) (h : WI b p5 V vo l vs K w0 W) (hv : W.ownsRow b 3 1 u s.length (s.map (Value.int .i64)))
    (hown : w5.ownsRow b 36 1 v' (K.length + 1) (K.map (·.1) ++ [u])) (hg : (W.alloc o).grownBy w5 vs.ownBlock) :
    RelAt w5 b 73 V ∧ w5.cell? ⟨p5, 1, none⟩ = some vs ∧ w5.frozen? ⟨p5, 1, none⟩ = false ∧ RelAt (w5.setCell ⟨p5, 1, none⟩ v') b 73 V ∧ WI b p5 V vo l v' (K ++ [(u, s)]) w0 (w5.setCell ⟨p5, 1, none⟩ v') := by
  have kr := h.own.kr.alloc o
  have r1 : At w5 b (.cells (rowsA V) 73) := At.grown (h.rel.alloc o) hg (own_far kr (h.rel.alloc o) (by decide))
  have r2 := At.grown (h.res.alloc o) hg (own_far kr (h.res.alloc o) (by decide))
  have r3 := At.grown (h.box.alloc o) hg (own_far kr (h.box.alloc o) (by decide))
  have r4 := h.own.add hv hown hg
  have r5 := (h.ord.alloc o).kept hg (owns_apart h.ord h.own.kr (by decide))
  have d5 := (h.bel.alloc (Nat.le_of_lt h.rel.lt) o).grown hg (by have := h.rel.lt; simp; omega) (fun k hk => (kr.lt k hk).1)
  have gs := grown_setW w5 ⟨p5, 1, none⟩ v'
  have hc : w5.cell? ⟨p5, 1, none⟩ = some vs := by unfold At at r3; simp [World.cell?, r3]
  have q1 := At.grown r1 gs (by simp; omega)
  refine ⟨r1, hc, frozen_of_row w5 p5 1 _ _ r3, q1, q1, At.grown r2 gs (by simp; omega), ?_, ⟨r4.kr.kept gs (own_none r4.kr r3 (by decide)), fun p hp => (r4.ke p hp).kept gs (own_none (r4.ke p hp) r3 (by decide))⟩, r5.kept gs (own_none r5 r3 (by decide)), d5.setCell (p := ⟨p5, 1, none⟩) (by show b ≤ p5; omega) v'⟩
  unfold At at r3 ⊢
  simp [World.setCell, Array.getElem?_modify, r3]
theorem At.second {w : World} {p : Nat} {x y : Value} {t : TypeId} (h : At w p (.cells #[x, y] t)) (z : Value) : At (w.setCell ⟨p, 1, none⟩ z) p (.cells #[x, z] t) := by
  unfold At at h ⊢
  simp [World.setCell, Array.getElem?_modify, h]
theorem WI.done {b p5 : Nat} {V : Mat} {vo : Value} {l : List Int} {vs : Value} {K : List KRow} {w0 w : World} (h : WI b p5 V vo l vs K w0 w) :
    At ((w.setCell ⟨b + 1, 0, none⟩ vo).setCell ⟨b + 1, 1, none⟩ vs) (b + 1) (.cells #[vo, vs] 39) ∧ ((w.setCell ⟨b + 1, 0, none⟩ vo).setCell ⟨b + 1, 1, none⟩ vs).ownsRow b 3 1 vo l.length (l.map (Value.int .i64)) ∧ OwnK b ((w.setCell ⟨b + 1, 0, none⟩ vo).setCell ⟨b + 1, 1, none⟩ vs) vs K ∧ Below b w0 ((w.setCell ⟨b + 1, 0, none⟩ vo).setCell ⟨b + 1, 1, none⟩ vs) := by
  have g1 := grown_setW w ⟨b + 1, 0, none⟩ vo
  have a1 : At (w.setCell ⟨b + 1, 0, none⟩ vo) (b + 1) (.cells #[vo, .slice none 0 0] 39) := by
    have := h.res
    unfold At at this ⊢
    simp [World.setCell, Array.getElem?_modify, this]
  have g2 := grown_setW (w.setCell ⟨b + 1, 0, none⟩ vo) ⟨b + 1, 1, none⟩ vs
  have o1 := h.ord.kept g1 (own_none h.ord h.res (by decide))
  have o2 := o1.kept g2 (own_none o1 a1 (by decide))
  have k1 := h.own.kr.kept g1 (own_none h.own.kr h.res (by decide))
  have k2 := k1.kept g2 (own_none k1 a1 (by decide))
  have hk : OwnK b ((w.setCell ⟨b + 1, 0, none⟩ vo).setCell ⟨b + 1, 1, none⟩ vs) vs K := ⟨k2, fun p hp => by
    have q1 := (h.own.ke p hp).kept g1 (own_none (h.own.ke p hp) h.res (by decide))
    exact q1.kept g2 (own_none q1 a1 (by decide))⟩
  refine ⟨?_, o2, hk, (h.bel.setCell (p := ⟨b + 1, 0, none⟩) (by show b ≤ b + 1; omega) vo).setCell (p := ⟨b + 1, 1, none⟩) (by show b ≤ b + 1; omega) vs⟩
  exact a1.second vs
set_option maxRecDepth 100000 in
set_option maxHeartbeats 16000000 in
theorem awitness_own (va : Value) (l : List Int) (V : Mat) (w : World) (ht : Tab w) (hI : Ints w va l) (hl : l.length ≤ 64) :
    Calls Tryd.prog 37 #[va, .agg (rowsA V)] w fun e w' => (∃ vo vs K, e = .returned (.agg #[vo, vs]) ∧ w'.ownsRow w.heap.size 3 1 vo l.length (l.map (Value.int .i64)) ∧ OwnK w.heap.size w' vs K ∧ K.map (fun p : KRow => p.2) = seesL V l.length) ∧ Below w.heap.size w w' := by
  have hg := ht.pos
  obtain ⟨i0, hi, hz0, hz1, hz2⟩ := info_parts infoIntsL
  have HT : Hid (∀ wx, Below w.heap.size w wx → Tab wx) := Lib.hid (fun wx hb => ht.below hb hg)
  have HI := Lib.hid (fun wx (hx : Below w.heap.size w wx) => hI.below hx)
  obtain ⟨ao, cap, rfl, hal⟩ := hI.form
  have r0 : RelAt (w.alloc (.cells (rowsA V) 73)) w.heap.size 73 V := RelAt.made w _ _ rfl rfl
  have hb0 := box_below w (.cells (rowsA V) 73)
  clear ht hI
  go_enter Tryd.func37, Tryd.ntmps37
  go_upto_region 1 with fail
  generalize hw0 : w.alloc (.cells (rowsA V) 73) = w0 at *
  have hs0 : w0.heap.size = w.heap.size + 1 := by rw [← hw0]; simp
  clear hw0
  have a4 := At.new w0 (.cells #[.slice none 0 0, .slice none 0 0] 39)
  rw [hs0] at a4
  have r0 := r0.alloc (.cells #[.slice none 0 0, .slice none 0 0] 39)
  have hb1 := hb0.alloc (by omega) (.cells #[.slice none 0 0, .slice none 0 0] 39)
  have hs1 : (w0.alloc (.cells #[.slice none 0 0, .slice none 0 0] 39)).heap.size = w.heap.size + 2 := by simp [hs0]
  generalize w0.alloc (.cells #[.slice none 0 0, .slice none 0 0] 39) = w1 at *
  have CC := Lib.hid (clone_ints _ l w1 (HI.out _ hb1) (by omega))
  clear hb0 hs0
  go_wp2_with fail
  refine (CC.out).mono ?_
  rintro e w2 ⟨vo, rfl, hO2, h2⟩
  have r2 := r0.below h2 r0.lt
  have a4 := a4.below h2
  have hb2 := below_then hb1 h2
  have hp5 : w.heap.size + 2 ≤ w2.heap.size := by have := h2.size; omega
  obtain ⟨oo, oc, rfl⟩ := owns_form hO2
  go_upto_region 2 with fail
  have hWI : WI w.heap.size w2.heap.size V (.slice oo l.length oc) l (.slice none 0 0) [] w (w2.alloc (.cells #[.slice oo l.length oc, .slice none 0 0] 39)) :=
    ⟨r2.alloc _, a4.alloc _, At.new w2 _, OwnK.nil _ _, own_base' (hO2.alloc _) (by omega), hb2.alloc hb2.size _⟩
  generalize w2.alloc (.cells #[.slice oo l.length oc, .slice none 0 0] 39) = w3 at *
  generalize w2.heap.size = p5 at *
  clear r0 r2 a4 hb1 hb2 hO2 h2 hs1 CC
  go_wp2_with fail
  go_loopw [12] (fun iv wr => ∃ (k : Nat) (vs : Value) (K : List KRow), k ≤ l.length ∧ iv = .int .i64 k ∧ K.map (fun p : KRow => p.2) = seesL V k ∧ WI w.heap.size p5 V (.slice oo l.length oc) l vs K w wr) (fun iv _ => l.length - (intOf iv).toNat)
  case atStart => exact ⟨0, .slice none 0 0, [], by omega, rfl, rfl, hWI⟩
  case round =>
    clear hWI
    obtain ⟨k, vs, K, hk, rfl, hK, hW⟩ := hrel
    by_cases hlt : k < l.length
    · have hki : (k : Int) < (l.length : Int) := by omega
      have hKl : K.length = k := by have := congrArg List.length hK; simpa [seesL] using this
      obtain ⟨vsa, vsc, rfl⟩ := owns_form hW.own.kr
      have HNX : Hid (∀ u, (K ++ [(u, (lst (seeTo V (k : Int) 64)).map Int.ofNat)]).map (fun p : KRow => p.2) = seesL V (k + 1)) := Lib.hid (fun u => by rw [List.map_append, hK, seesL_succ]; rfl)
      have CS := Lib.hid (fun wx => asees_any V (k : Int) wx)
      have CL : Hid (∀ wx, Below wr.heap.size wr wx → Calls Tryd.prog 47 #[.int .u64 ((seeTo V (k : Int) 64 : Nat) : Int)] wx fun e w' => ∃ v, e = .returned v ∧ w'.ownsRow w.heap.size 3 1 v ((lst (seeTo V (k : Int) 64)).map Int.ofNat).length (((lst (seeTo V (k : Int) 64)).map Int.ofNat).map (Value.int .i64)) ∧ Below wx.heap.size wx w') := Lib.hid (fun wx hx => (list_any (seeTo V (k : Int) 64) wx (seeTo_set V _ 64) (HT.out _ (hW.bel.trans (hx.mono (Nat.le_of_lt hW.rel.lt))))).mono (by
        rintro e w' ⟨v, he, ho, hb⟩
        refine ⟨v, he, own_base' ?_ (show w.heap.size ≤ wx.heap.size by have h1 := hx.size; have h2 := hW.rel.lt; omega), hb⟩
        rw [List.length_map, List.map_map]
        exact ho))
      have HW := Lib.hid (fun wx (hx : Below wr.heap.size wr wx) => hW.below hx)
      have HSR : Hid (∀ wx, Below wr.heap.size wr wx → RelAt wx w.heap.size 73 V) := Lib.hid (fun wx hx => (hW.below hx).rel)
      have HCL : Hid (∀ wx, Below wr.heap.size wr wx → wx.cell? ⟨p5, 1, none⟩ = some (.slice vsa K.length vsc)) := Lib.hid (fun wx hx => by have r3 := (hW.below hx).box; unfold At at r3; simp [World.cell?, r3])
      have HSZ : Hid (∀ wx (o : Obj), Below wr.heap.size wr wx → w.heap.size ≤ (wx.alloc o).heap.size) := Lib.hid (fun wx o hx => by have h1 := hx.size; have h2 := hW.rel.lt; simp; omega)
      have n3 : Hid (K.length + 1 ≤ maxLen) := Lib.hid (by unfold maxLen; omega)
      have n4 : Hid ((K.length + 1) * 24 ≤ 140737488355328) := Lib.hid (by omega)
      generalize hLs : (lst (seeTo V (k : Int) 64)).map Int.ofNat = ls at *
      clear hLs
      have kd := (Below.refl wr.heap.size wr).drew
      clear hW hK hKl
      go_upto_region 5 with fail

      refine wp_region_held_drew (S := fun wx => RelAt wx w.heap.size 73 V) (by kernel_rfl) (HSR.out _ kd) (fun hS0 => ?_)
      refine takeG (some 15) (i := 0) (v := ?vw0) rfl rfl (by kernel_rfl) (by kernel_rfl) (by kernel_rfl) (fun _ _ _ h => h) (Or.inl ⟨by rfl, ?hw0⟩) hS0 ?rw0
      case hw0 => (intro w _; go_simp; try (with_reducible rfl))
      try simp only [Act.put, List.setIfInBounds_toArray, List.set_cons_zero, List.set_cons_succ]
      refine takeG (some 18) (i := 3) (v := ?vw3) rfl rfl (by kernel_rfl) (by kernel_rfl) (by kernel_rfl) (fun _ _ _ h => h) (Or.inl ⟨by rfl, ?hw3⟩) hS0 ?rw3
      case hw3 => (intro w _; go_simp; try (with_reducible rfl))
      try simp only [Act.put, List.setIfInBounds_toArray, List.set_cons_zero, List.set_cons_succ]
      refine takeG (some 17) (i := 2) (v := _) rfl rfl (by kernel_rfl) (by kernel_rfl) (by kernel_rfl) (fun _ _ _ h => h) (yields_rel (by rfl) _ rfl rfl (fun w hw => hw)) hS0 ?_
      try simp only [Act.put, List.setIfInBounds_toArray, List.set_cons_zero, List.set_cons_succ]
      generalize wr.drew = wd at *
      refine wpAnyH_ready (rs := [1, 4]) (by kernel_rfl) (by simp) ?_
      refine AllReadyH.cons rfl (fun K' hK' => ?_) (AllReadyH.cons rfl (fun K' hK' => ?_) AllReadyH.nil)
      ·
        have hc1 := HCL.out _ kd
        go_simp
        refine hK'.out _ _ hS0 (fun _ => ?_)
        clear hK' K' hc1
        refine wpAnyH_ready (rs := [4]) (by kernel_rfl) (by simp) ?_
        refine AllReadyH.cons rfl (fun K' hK' => ?_) AllReadyH.nil
        go_simp
        refine (CS.out _).mono ?_
        rintro e q2 ⟨rfl, j2⟩
        show K' _ _
        have k2 := below_then kd j2
        have s2 := HSR.out _ k2
        refine hK'.out _ _ s2 (fun _ => ?_)
        clear hK' K'
        refine wpAnyH_ready (rs := [5]) (by kernel_rfl) (by simp) ?_
        refine AllReadyH.cons rfl (fun K' hK' => ?_) AllReadyH.nil
        go_simp
        refine (CL.out _ k2).mono ?_
        rintro e q3 ⟨vx, rfl, hox, j3⟩
        obtain ⟨ax, cx, hvx⟩ := owns_form hox
        subst hvx
        show K' _ _
        have k3 := below_then k2 j3
        have s3 := HSR.out _ k3
        refine hK'.out _ _ s3 (fun _ => ?_)
        clear hK' K'
        refine wpAnyH_ready (rs := [6]) (by kernel_rfl) (by simp) ?_
        refine AllReadyH.cons rfl (fun K' hK' => ?_) AllReadyH.nil
        go_simp
        have s4 := s3.alloc (.cells #[.slice ax ls.length cx] 36)
        have HCA4 := HCL.out _ (k3.alloc k3.size (.cells #[.slice ax ls.length cx] 36))
        refine hK'.out _ _ s4 (fun _ => ?_)
        clear hK' K'
        refine wpAnyH_ready (rs := [7]) (by kernel_rfl) (by simp) ?_
        refine AllReadyH.cons rfl (fun K' hK' => ?_) AllReadyH.nil
        refine step_app _ rfl (.tmp 16) (.tmp 21) 37 rfl w.heap.size 36 i0 (.slice none 0 0) 1 24 Tryd.underlying37 hi hz0 hz1 hz2 rfl (by decide) (.slice vsa K.length vsc) K.length (K.map (·.1)) (by simp [Act.eval]) ((HW.out _ k3).own.kr.alloc _) ⟨q3.heap.size, 0, none⟩ 1 1 [.slice ax ls.length cx] (by simp [Act.eval]) rfl ?c1x5 ?c2x5 ?c3x5 ?c4x5 ?c5x5 ?c6x5
        case c1x5 => exact lit_newS _ _ _
        case c2x5 => intro u hu; simp at hu; subst hu; rfl
        case c3x5 => exact n3.out
        case c4x5 => exact n4.out
        case c5x5 => exact HSZ.out _ _ k3
        case c6x5 =>
          intro v5 w5 hown5 hg5
          obtain ⟨a5, c5, hv5⟩ := owns_form hown5
          subst hv5
          obtain ⟨hS5, hcz, hfz, hS6, hF5⟩ := WI.add hp5 (HW.out _ k3) hox hown5 hg5
          show K' _ _
          refine hK'.out _ _ hS5 (fun _ => ?_)
          clear hK' K'
          refine takeG (some 23) (i := 8) (v := ?vw5x8) rfl rfl (by kernel_rfl) (by kernel_rfl) (by kernel_rfl) (fun _ _ _ h => h) (Or.inl ⟨by rfl, ?hw5x8⟩) hS5 ?rw5x8
          case hw5x8 => (intro w _; go_simp; try (with_reducible rfl))
          try simp only [Act.put, List.setIfInBounds_toArray]
          refine wpAnyH_ready (rs := [9]) (by kernel_rfl) (by simp) ?_
          refine AllReadyH.cons rfl (fun K' hK' => ?_) AllReadyH.nil
          go_simp
          refine hK'.out _ _ hS6 (fun _ => ?_)
          clear hK' K'
          refine wpAnyH_done (by kernel_rfl) ?_ _
          go_wp2_with fail
          go_roundw
          case rel => exact ⟨k + 1, _, _, by omega, by go_num, HNX.out _, hF5⟩
          case measure => simp [intOf]; omega
      ·
        go_simp
        refine (CS.out _).mono ?_
        rintro e q7 ⟨rfl, j7⟩
        show K' _ _
        have k7 := below_then kd j7
        have s7 := HSR.out _ k7
        refine hK'.out _ _ s7 (fun _ => ?_)
        clear hK' K'
        refine wpAnyH_ready (rs := [1, 5]) (by kernel_rfl) (by simp) ?_
        refine AllReadyH.cons rfl (fun K' hK' => ?_) (AllReadyH.cons rfl (fun K' hK' => ?_) AllReadyH.nil)
        ·
          have hc8 := HCL.out _ k7
          go_simp
          refine hK'.out _ _ s7 (fun _ => ?_)
          clear hK' K' hc8
          refine wpAnyH_ready (rs := [5]) (by kernel_rfl) (by simp) ?_
          refine AllReadyH.cons rfl (fun K' hK' => ?_) AllReadyH.nil
          go_simp
          refine (CL.out _ k7).mono ?_
          rintro e q9 ⟨vx, rfl, hox, j9⟩
          obtain ⟨ax, cx, hvx⟩ := owns_form hox
          subst hvx
          show K' _ _
          have k9 := below_then k7 j9
          have s9 := HSR.out _ k9
          refine hK'.out _ _ s9 (fun _ => ?_)
          clear hK' K'
          refine wpAnyH_ready (rs := [6]) (by kernel_rfl) (by simp) ?_
          refine AllReadyH.cons rfl (fun K' hK' => ?_) AllReadyH.nil
          go_simp
          have s10 := s9.alloc (.cells #[.slice ax ls.length cx] 36)
          have HCA10 := HCL.out _ (k9.alloc k9.size (.cells #[.slice ax ls.length cx] 36))
          refine hK'.out _ _ s10 (fun _ => ?_)
          clear hK' K'
          refine wpAnyH_ready (rs := [7]) (by kernel_rfl) (by simp) ?_
          refine AllReadyH.cons rfl (fun K' hK' => ?_) AllReadyH.nil
          refine step_app _ rfl (.tmp 16) (.tmp 21) 37 rfl w.heap.size 36 i0 (.slice none 0 0) 1 24 Tryd.underlying37 hi hz0 hz1 hz2 rfl (by decide) (.slice vsa K.length vsc) K.length (K.map (·.1)) (by simp [Act.eval]) ((HW.out _ k9).own.kr.alloc _) ⟨q9.heap.size, 0, none⟩ 1 1 [.slice ax ls.length cx] (by simp [Act.eval]) rfl ?c1x11 ?c2x11 ?c3x11 ?c4x11 ?c5x11 ?c6x11
          case c1x11 => exact lit_newS _ _ _
          case c2x11 => intro u hu; simp at hu; subst hu; rfl
          case c3x11 => exact n3.out
          case c4x11 => exact n4.out
          case c5x11 => exact HSZ.out _ _ k9
          case c6x11 =>
            intro v5 w5 hown5 hg5
            obtain ⟨a5, c5, hv5⟩ := owns_form hown5
            subst hv5
            obtain ⟨hS5, hcz, hfz, hS6, hF5⟩ := WI.add hp5 (HW.out _ k9) hox hown5 hg5
            show K' _ _
            refine hK'.out _ _ hS5 (fun _ => ?_)
            clear hK' K'
            refine takeG (some 23) (i := 8) (v := ?vw11x8) rfl rfl (by kernel_rfl) (by kernel_rfl) (by kernel_rfl) (fun _ _ _ h => h) (Or.inl ⟨by rfl, ?hw11x8⟩) hS5 ?rw11x8
            case hw11x8 => (intro w _; go_simp; try (with_reducible rfl))
            try simp only [Act.put, List.setIfInBounds_toArray]
            refine wpAnyH_ready (rs := [9]) (by kernel_rfl) (by simp) ?_
            refine AllReadyH.cons rfl (fun K' hK' => ?_) AllReadyH.nil
            go_simp
            refine hK'.out _ _ hS6 (fun _ => ?_)
            clear hK' K'
            refine wpAnyH_done (by kernel_rfl) ?_ _
            go_wp2_with fail
            go_roundw
            case rel => exact ⟨k + 1, _, _, by omega, by go_num, HNX.out _, hF5⟩
            case measure => simp [intOf]; omega
        ·
          go_simp
          refine (CL.out _ k7).mono ?_
          rintro e q13 ⟨vx, rfl, hox, j13⟩
          obtain ⟨ax, cx, hvx⟩ := owns_form hox
          subst hvx
          show K' _ _
          have k13 := below_then k7 j13
          have s13 := HSR.out _ k13
          refine hK'.out _ _ s13 (fun _ => ?_)
          clear hK' K'
          refine wpAnyH_ready (rs := [1, 6]) (by kernel_rfl) (by simp) ?_
          refine AllReadyH.cons rfl (fun K' hK' => ?_) (AllReadyH.cons rfl (fun K' hK' => ?_) AllReadyH.nil)
          ·
            have hc14 := HCL.out _ k13
            go_simp
            refine hK'.out _ _ s13 (fun _ => ?_)
            clear hK' K' hc14
            refine wpAnyH_ready (rs := [6]) (by kernel_rfl) (by simp) ?_
            refine AllReadyH.cons rfl (fun K' hK' => ?_) AllReadyH.nil
            go_simp
            have s15 := s13.alloc (.cells #[.slice ax ls.length cx] 36)
            have HCA15 := HCL.out _ (k13.alloc k13.size (.cells #[.slice ax ls.length cx] 36))
            refine hK'.out _ _ s15 (fun _ => ?_)
            clear hK' K'
            refine wpAnyH_ready (rs := [7]) (by kernel_rfl) (by simp) ?_
            refine AllReadyH.cons rfl (fun K' hK' => ?_) AllReadyH.nil
            refine step_app _ rfl (.tmp 16) (.tmp 21) 37 rfl w.heap.size 36 i0 (.slice none 0 0) 1 24 Tryd.underlying37 hi hz0 hz1 hz2 rfl (by decide) (.slice vsa K.length vsc) K.length (K.map (·.1)) (by simp [Act.eval]) ((HW.out _ k13).own.kr.alloc _) ⟨q13.heap.size, 0, none⟩ 1 1 [.slice ax ls.length cx] (by simp [Act.eval]) rfl ?c1x16 ?c2x16 ?c3x16 ?c4x16 ?c5x16 ?c6x16
            case c1x16 => exact lit_newS _ _ _
            case c2x16 => intro u hu; simp at hu; subst hu; rfl
            case c3x16 => exact n3.out
            case c4x16 => exact n4.out
            case c5x16 => exact HSZ.out _ _ k13
            case c6x16 =>
              intro v5 w5 hown5 hg5
              obtain ⟨a5, c5, hv5⟩ := owns_form hown5
              subst hv5
              obtain ⟨hS5, hcz, hfz, hS6, hF5⟩ := WI.add hp5 (HW.out _ k13) hox hown5 hg5
              show K' _ _
              refine hK'.out _ _ hS5 (fun _ => ?_)
              clear hK' K'
              refine takeG (some 23) (i := 8) (v := ?vw16x8) rfl rfl (by kernel_rfl) (by kernel_rfl) (by kernel_rfl) (fun _ _ _ h => h) (Or.inl ⟨by rfl, ?hw16x8⟩) hS5 ?rw16x8
              case hw16x8 => (intro w _; go_simp; try (with_reducible rfl))
              try simp only [Act.put, List.setIfInBounds_toArray]
              refine wpAnyH_ready (rs := [9]) (by kernel_rfl) (by simp) ?_
              refine AllReadyH.cons rfl (fun K' hK' => ?_) AllReadyH.nil
              go_simp
              refine hK'.out _ _ hS6 (fun _ => ?_)
              clear hK' K'
              refine wpAnyH_done (by kernel_rfl) ?_ _
              go_wp2_with fail
              go_roundw
              case rel => exact ⟨k + 1, _, _, by omega, by go_num, HNX.out _, hF5⟩
              case measure => simp [intOf]; omega
          ·
            go_simp
            have s18 := s13.alloc (.cells #[.slice ax ls.length cx] 36)
            have HCA18 := HCL.out _ (k13.alloc k13.size (.cells #[.slice ax ls.length cx] 36))
            refine hK'.out _ _ s18 (fun _ => ?_)
            clear hK' K'
            refine wpAnyH_ready (rs := [1]) (by kernel_rfl) (by simp) ?_
            refine AllReadyH.cons rfl (fun K' hK' => ?_) AllReadyH.nil
            have hc19 := HCA18
            go_simp
            refine hK'.out _ _ s18 (fun _ => ?_)
            clear hK' K' hc19
            refine wpAnyH_ready (rs := [7]) (by kernel_rfl) (by simp) ?_
            refine AllReadyH.cons rfl (fun K' hK' => ?_) AllReadyH.nil
            refine step_app _ rfl (.tmp 16) (.tmp 21) 37 rfl w.heap.size 36 i0 (.slice none 0 0) 1 24 Tryd.underlying37 hi hz0 hz1 hz2 rfl (by decide) (.slice vsa K.length vsc) K.length (K.map (·.1)) (by simp [Act.eval]) ((HW.out _ k13).own.kr.alloc _) ⟨q13.heap.size, 0, none⟩ 1 1 [.slice ax ls.length cx] (by simp [Act.eval]) rfl ?c1x20 ?c2x20 ?c3x20 ?c4x20 ?c5x20 ?c6x20
            case c1x20 => exact lit_newS _ _ _
            case c2x20 => intro u hu; simp at hu; subst hu; rfl
            case c3x20 => exact n3.out
            case c4x20 => exact n4.out
            case c5x20 => exact HSZ.out _ _ k13
            case c6x20 =>
              intro v5 w5 hown5 hg5
              obtain ⟨a5, c5, hv5⟩ := owns_form hown5
              subst hv5
              obtain ⟨hS5, hcz, hfz, hS6, hF5⟩ := WI.add hp5 (HW.out _ k13) hox hown5 hg5
              show K' _ _
              refine hK'.out _ _ hS5 (fun _ => ?_)
              clear hK' K'
              refine takeG (some 23) (i := 8) (v := ?vw20x8) rfl rfl (by kernel_rfl) (by kernel_rfl) (by kernel_rfl) (fun _ _ _ h => h) (Or.inl ⟨by rfl, ?hw20x8⟩) hS5 ?rw20x8
              case hw20x8 => (intro w _; go_simp; try (with_reducible rfl))
              try simp only [Act.put, List.setIfInBounds_toArray]
              refine wpAnyH_ready (rs := [9]) (by kernel_rfl) (by simp) ?_
              refine AllReadyH.cons rfl (fun K' hK' => ?_) AllReadyH.nil
              go_simp
              refine hK'.out _ _ hS6 (fun _ => ?_)
              clear hK' K'
              refine wpAnyH_done (by kernel_rfl) ?_ _
              go_wp2_with fail
              go_roundw
              case rel => exact ⟨k + 1, _, _, by omega, by go_num, HNX.out _, hF5⟩
              case measure => simp [intOf]; omega
    · have hkn : k = l.length := by omega
      have hnk : ¬ (k : Int) < (l.length : Int) := by omega
      rw [hkn] at hK
      have HL := Lib.hid hK
      clear hK
      have b1 := hW.box
      have b2 := hW.res
      obtain ⟨vsa, vsc, rfl⟩ := owns_form hW.own.kr
      have c0 : wr.cell? ⟨p5, 0, none⟩ = some (.slice oo l.length oc) := by unfold At at b1; simp [World.cell?, b1]
      have c1 : wr.cell? ⟨p5, 1, none⟩ = some (.slice vsa K.length vsc) := by unfold At at b1; simp [World.cell?, b1]
      have c2 : wr.cell? ⟨w.heap.size + 1, 0, none⟩ = some (.slice none 0 0) := by unfold At at b2; simp [World.cell?, b2]
      have c3 : wr.cell? ⟨w.heap.size + 1, 1, none⟩ = some (.slice none 0 0) := by unfold At at b2; simp [World.cell?, b2]
      have f2 := frozen_of_row wr (w.heap.size + 1) 0 _ _ b2
      have f3 := frozen_of_row wr (w.heap.size + 1) 1 _ _ b2
      have HW := Lib.hid hW
      clear hW b1 b2
      go_wp2_with fail
      obtain ⟨e1, e2, e3, e4⟩ := WI.done HW.out
      generalize (wr.setCell ⟨w.heap.size + 1, 0, none⟩ (.slice oo l.length oc)).setCell ⟨w.heap.size + 1, 1, none⟩ (.slice vsa K.length vsc) = w7 at *
      have d0 : w7.cell? ⟨w.heap.size + 1, 0, none⟩ = some (.slice oo l.length oc) := by unfold At at e1; simp [World.cell?, e1]
      have d1 : w7.cell? ⟨w.heap.size + 1, 1, none⟩ = some (.slice vsa K.length vsc) := by unfold At at e1; simp [World.cell?, e1]
      clear c0 c1 c2 c3 f2 f3
      refine bodyPost_ret (v := .agg #[.slice oo l.length oc, .slice vsa K.length vsc]) ?_ rfl ⟨⟨_, _, rfl, e2, K, e3, HL.out⟩, e4⟩
      simp [results, Tryd.results37, go_sem, d0, d1]
end Go.Proofs.YtfancjmhdbaoeaaDoor

namespace Go.Proofs.YtfancjmhdbaoeaaDoor
set_option maxRecDepth 100000
open Go.RowKit Go.Shelf

theorem info50 : (Tryd.prog.info? 39).map (·.size) = some 2 := by kernel_rfl
theorem run_load_wit {w : World} {g : Nat} {vo vs : Value} (h0 : w.cell? ⟨g, 0, none⟩ = some vo) (h1 : w.cell? ⟨g, 1, none⟩ = some vs) : (loadVar 39 ⟨g, 0, none⟩).run Tryd.prog w = .ok (.agg #[vo, vs]) w := by
  have hl : (loadCells ⟨g, 0, none⟩ [vo, vs].length).run Tryd.prog w = .ok [vo, vs].toArray w :=
    run_loadCells_list (P := Tryd.prog) w ⟨g, 0, none⟩ [vo, vs] (fun j v hv => by
      have hadd : (⟨g, 0, none⟩ : Addr).add j = ⟨g, j, none⟩ := by unfold Addr.add; split <;> simp_all
      rw [hadd]
      match j, hv with
      | 0, hv => rw [h0]; exact hv
      | 1, hv => rw [h1]; exact hv
      | j + 2, hv => simp at hv)
  cases hq : Tryd.prog.info? 39 with
  | none => have := info50; simp [hq] at this
  | some i =>
    have hs : i.size = 2 := by have := info50; simpa [hq] using this
    have hagg : (isAgg 39).run Tryd.prog w = .ok true w := by
      unfold isAgg
      rw [Sem.run_bind, run_underlying Tryd.underlying39 w]
      rfl
    simp only [List.length_cons, List.length_nil, Nat.zero_add, Nat.reduceAdd] at hl
    simp [loadVar, Sem.run_bind, hagg, sizeOf, typeInfo, hq, hs, hl]
theorem run_load_bool {w : World} {g : Nat} {v : Value} (h0 : w.cell? ⟨g, 0, none⟩ = some v) : (loadVar 4 ⟨g, 0, none⟩).run Tryd.prog w = .ok v w := by
  have hagg : (isAgg 4).run Tryd.prog w = .ok false w := by
    unfold isAgg
    rw [Sem.run_bind, run_underlying Tryd.underlying4 w]
    rfl
  simp [loadVar, Sem.run_bind, hagg, h0]
theorem results_dec {fn : Func} {p q u : Tmp} (h : fn.results = #[.cell p 39, .cell q 4, .cell u 4]) (tmps : Array Value) (w : World) (g1 g2 g3 : Nat) (vo vs b1 b2 : Value)
    (hp : tmps.getD p undef = .pointer (some ⟨g1, 0, none⟩)) (hq : tmps.getD q undef = .pointer (some ⟨g2, 0, none⟩)) (hu : tmps.getD u undef = .pointer (some ⟨g3, 0, none⟩))
    (h0 : w.cell? ⟨g1, 0, none⟩ = some vo) (h1 : w.cell? ⟨g1, 1, none⟩ = some vs) (h2 : w.cell? ⟨g2, 0, none⟩ = some b1) (h3 : w.cell? ⟨g3, 0, none⟩ = some b2) : (results fn tmps).run Tryd.prog w = .ok (.tuple #[.agg #[vo, vs], b1, b2]) w := by
  have hp' : tmps[p]?.getD undef = .pointer (some ⟨g1, 0, none⟩) := by simpa using hp
  have hq' : tmps[q]?.getD undef = .pointer (some ⟨g2, 0, none⟩) := by simpa using hq
  have hu' : tmps[u]?.getD undef = .pointer (some ⟨g3, 0, none⟩) := by simpa using hu
  simp [results, h, hp', hq', hu', asAddr, Sem.run_bind, run_load_wit h0 h1, run_load_bool h2, run_load_bool h3, Result.andThen]
/-- What Decide hands back: nothing; or the first order by which the level is kept, and what is seen at least. -/
def DecRes (h : List TxnV) (lv : Int) (v : Value) (w : World) : Prop :=
  if h.length ≤ 8 then
    match (ordersN h.length).find? (keptL h lv) with
    | none => v = .tuple #[.agg #[.slice none 0 0, .slice none 0 0], .bool false, .bool true]
    | some r => ∃ vo vs X, v = .tuple #[.agg #[vo, vs], .bool true, .bool true] ∧ LeastIs h (askN lv) (r.map Int.ofNat) X ∧ Ints w vo (r.map Int.ofNat) ∧ Lists w vs (seesL X (r.map Int.ofNat).length)
  else v = .tuple #[.agg #[.slice none 0 0, .slice none 0 0], .bool false, .bool false]
/-- What stands in the loop's own cells: of what was handed in, and of what is to be handed back. -/
structure DecI (s B : Nat) (lv : Int) (vo vs b1 b2 : Value) (w W : World) : Prop where
  c0 : W.cell? ⟨s, 0, none⟩ = some (.pointer (some ⟨B, 0, none⟩))
  c1 : W.cell? ⟨s + 1, 0, none⟩ = some (.int .i64 lv)
  c2 : W.cell? ⟨s + 1 + 1, 0, none⟩ = some vo
  d2 : W.cell? ⟨s + 1 + 1, 1, none⟩ = some vs
  c3 : W.cell? ⟨s + 1 + 1 + 1, 0, none⟩ = some b1
  c4 : W.cell? ⟨s + 1 + 1 + 1 + 1, 0, none⟩ = some b2
  f2 : W.frozen? ⟨s + 1 + 1, 0, none⟩ = false
  g2 : W.frozen? ⟨s + 1 + 1, 1, none⟩ = false
  f3 : W.frozen? ⟨s + 1 + 1 + 1, 0, none⟩ = false
  f4 : W.frozen? ⟨s + 1 + 1 + 1 + 1, 0, none⟩ = false
  bel : Below s w W
section
variable {s B D : Nat} {lv : Int} {vo vs b1 b2 : Value} {w W W' : World}
theorem DecI.below (q : DecI s B lv vo vs b1 b2 w W) (hb : Below D W W') (hD : s + 6 ≤ D) : DecI s B lv vo vs b1 b2 w W' :=
  ⟨(hb.cell (p := ⟨s, 0, none⟩) (by show s < D; omega)).trans q.c0, (hb.cell (p := ⟨s + 1, 0, none⟩) (by show s + 1 < D; omega)).trans q.c1, (hb.cell (p := ⟨s + 1 + 1, 0, none⟩) (by show s + 1 + 1 < D; omega)).trans q.c2, (hb.cell (p := ⟨s + 1 + 1, 1, none⟩) (by show s + 1 + 1 < D; omega)).trans q.d2,
    (hb.cell (p := ⟨s + 1 + 1 + 1, 0, none⟩) (by show s + 1 + 1 + 1 < D; omega)).trans q.c3, (hb.cell (p := ⟨s + 1 + 1 + 1 + 1, 0, none⟩) (by show s + 1 + 1 + 1 + 1 < D; omega)).trans q.c4,
    (hb.frozen (p := ⟨s + 1 + 1, 0, none⟩) (by show s + 1 + 1 < D; omega)).trans q.f2, (hb.frozen (p := ⟨s + 1 + 1, 1, none⟩) (by show s + 1 + 1 < D; omega)).trans q.g2,
    (hb.frozen (p := ⟨s + 1 + 1 + 1, 0, none⟩) (by show s + 1 + 1 + 1 < D; omega)).trans q.f3, (hb.frozen (p := ⟨s + 1 + 1 + 1 + 1, 0, none⟩) (by show s + 1 + 1 + 1 + 1 < D; omega)).trans q.f4, q.bel.trans (hb.mono (by omega))⟩
/-- All four are written. -/
theorem DecI.put (q : DecI s B lv vo vs b1 b2 w W) (uo us u1 u2 : Value) :
    DecI s B lv uo us u1 u2 w ((((W.setCell ⟨s + 1 + 1, 0, none⟩ uo).setCell ⟨s + 1 + 1, 1, none⟩ us).setCell ⟨s + 1 + 1 + 1, 0, none⟩ u1).setCell ⟨s + 1 + 1 + 1 + 1, 0, none⟩ u2) := by
  obtain ⟨c0, c1, c2, d2, c3, c4, f2, g2, f3, f4, bel⟩ := q
  refine ⟨?_, ?_, ?_, ?_, ?_, ?_, ?_, ?_, ?_, ?_, ?_⟩
  · simp [World.cell?_setCell_other, c0]
  · simp [World.cell?_setCell_other, c1]
  · rw [World.cell?_setCell_other _ _ _ _ (by simp), World.cell?_setCell_other _ _ _ _ (by simp), World.cell?_setCell_other _ _ _ _ (by simp)]
    exact World.cell?_setCell_same _ _ _ c2
  · rw [World.cell?_setCell_other _ _ _ _ (by simp), World.cell?_setCell_other _ _ _ _ (by simp)]
    exact World.cell?_setCell_same _ _ _ (by rw [World.cell?_setCell_other _ _ _ _ (by simp)]; exact d2)
  · rw [World.cell?_setCell_other _ _ _ _ (by simp)]
    exact World.cell?_setCell_same _ _ _ (by rw [World.cell?_setCell_other _ _ _ _ (by simp), World.cell?_setCell_other _ _ _ _ (by simp)]; exact c3)
  · exact World.cell?_setCell_same _ _ _ (by rw [World.cell?_setCell_other _ _ _ _ (by simp), World.cell?_setCell_other _ _ _ _ (by simp), World.cell?_setCell_other _ _ _ _ (by simp)]; exact c4)
  · simp only [World.frozen?_setCell]; exact f2
  · simp only [World.frozen?_setCell]; exact g2
  · simp only [World.frozen?_setCell]; exact f3
  · simp only [World.frozen?_setCell]; exact f4
  · exact (((bel.setCell (p := ⟨s + 1 + 1, 0, none⟩) (by show s ≤ s + 1 + 1; omega) _).setCell (p := ⟨s + 1 + 1, 1, none⟩) (by show s ≤ s + 1 + 1; omega) _).setCell (p := ⟨s + 1 + 1 + 1, 0, none⟩) (by show s ≤ s + 1 + 1 + 1; omega) _).setCell (p := ⟨s + 1 + 1 + 1 + 1, 0, none⟩) (by show s ≤ s + 1 + 1 + 1 + 1; omega) _
theorem keeps_four (W : World) (uo us u1 u2 : Value) (hD : s + 6 ≤ D) : KeepsHi D W ((((W.setCell ⟨s + 1 + 1, 0, none⟩ uo).setCell ⟨s + 1 + 1, 1, none⟩ us).setCell ⟨s + 1 + 1 + 1, 0, none⟩ u1).setCell ⟨s + 1 + 1 + 1 + 1, 0, none⟩ u2) :=
  (((KeepsHi.setCell W ⟨s + 1 + 1, 0, none⟩ uo (by show s + 1 + 1 < D; omega)).trans (KeepsHi.setCell _ ⟨s + 1 + 1, 1, none⟩ us (by show s + 1 + 1 < D; omega))).trans (KeepsHi.setCell _ ⟨s + 1 + 1 + 1, 0, none⟩ u1 (by show s + 1 + 1 + 1 < D; omega))).trans (KeepsHi.setCell _ ⟨s + 1 + 1 + 1 + 1, 0, none⟩ u2 (by show s + 1 + 1 + 1 + 1 < D; omega))
end
theorem six_boxes (w : World) (B : Nat) (lv n : Int) (t1 t2 t3 t4 t5 t6 : TypeId) : ∀ w6, w6 = (((((w.alloc (.cells #[.pointer (some ⟨B, 0, none⟩)] t1)).alloc (.cells #[.int .i64 lv] t2)).alloc (.cells #[.slice none 0 0, .slice none 0 0] t3)).alloc (.cells #[.bool false] t4)).alloc (.cells #[.bool false] t5)).alloc (.cells #[.int .i64 n] t6) →
    DecI w.heap.size B lv (.slice none 0 0) (.slice none 0 0) (.bool false) (.bool false) w w6 ∧ w6.cell? ⟨w.heap.size + 5, 0, none⟩ = some (.int .i64 n) ∧ w6.heap.size = w.heap.size + 6 := by
  obtain ⟨w1, e1⟩ : ∃ x, x = w.alloc (.cells #[.pointer (some ⟨B, 0, none⟩)] t1) := ⟨_, rfl⟩
  obtain ⟨w2, e2⟩ : ∃ x, x = w1.alloc (.cells #[.int .i64 lv] t2) := ⟨_, rfl⟩
  obtain ⟨w3, e3⟩ : ∃ x, x = w2.alloc (.cells #[.slice none 0 0, .slice none 0 0] t3) := ⟨_, rfl⟩
  obtain ⟨w4, e4⟩ : ∃ x, x = w3.alloc (.cells #[.bool false] t4) := ⟨_, rfl⟩
  obtain ⟨w5, e5⟩ : ∃ x, x = w4.alloc (.cells #[.bool false] t5) := ⟨_, rfl⟩
  rw [← e1, ← e2, ← e3, ← e4, ← e5]
  intro w6 e6
  have s1 : w1.heap.size = w.heap.size + 1 := by rw [e1]; simp
  have s2 : w2.heap.size = w.heap.size + 1 + 1 := by rw [e2]; simp [s1]
  have s3 : w3.heap.size = w.heap.size + 1 + 1 + 1 := by rw [e3]; simp [s2]
  have s4 : w4.heap.size = w.heap.size + 1 + 1 + 1 + 1 := by rw [e4]; simp [s3]
  have s5 : w5.heap.size = w.heap.size + 5 := by rw [e5]; simp [s4]
  have s6 : w6.heap.size = w.heap.size + 6 := by rw [e6]; simp [s5]
  have b1 : Below w.heap.size w w1 := by rw [e1]; exact (Below.refl _ _).alloc (Nat.le_refl _) _
  have b2 : Below w1.heap.size w1 w2 := by rw [e2]; exact (Below.refl _ _).alloc (Nat.le_refl _) _
  have b3 : Below w2.heap.size w2 w3 := by rw [e3]; exact (Below.refl _ _).alloc (Nat.le_refl _) _
  have b4 : Below w3.heap.size w3 w4 := by rw [e4]; exact (Below.refl _ _).alloc (Nat.le_refl _) _
  have b5 : Below w4.heap.size w4 w5 := by rw [e5]; exact (Below.refl _ _).alloc (Nat.le_refl _) _
  have b6 : Below w5.heap.size w5 w6 := by rw [e6]; exact (Below.refl _ _).alloc (Nat.le_refl _) _
  have x4 : Below w4.heap.size w4 w6 := b5.trans (b6.mono b5.size)
  have x3 : Below w3.heap.size w3 w6 := b4.trans (x4.mono b4.size)
  have x2 : Below w2.heap.size w2 w6 := b3.trans (x3.mono b3.size)
  have x1 : Below w1.heap.size w1 w6 := b2.trans (x2.mono b2.size)
  have h1 := heap_alloc_new w (.cells #[.pointer (some ⟨B, 0, none⟩)] t1)
  have h2 := heap_alloc_new w1 (.cells #[.int .i64 lv] t2)
  have h3 := heap_alloc_new w2 (.cells #[.slice none 0 0, .slice none 0 0] t3)
  have h4 := heap_alloc_new w3 (.cells #[.bool false] t4)
  have h5 := heap_alloc_new w4 (.cells #[.bool false] t5)
  have h6 := heap_alloc_new w5 (.cells #[.int .i64 n] t6)
  rw [← e1] at h1; rw [← e2] at h2; rw [← e3] at h3; rw [← e4] at h4; rw [← e5] at h5; rw [← e6] at h6
  have k1 := (x1.block w.heap.size (by omega)).trans h1
  have k2 := (x2.block w1.heap.size (by omega)).trans h2
  have k3 := (x3.block w2.heap.size (by omega)).trans h3
  have k4 := (x4.block w3.heap.size (by omega)).trans h4
  have k5 := (b6.block w4.heap.size (by omega)).trans h5
  rw [s1] at k2; rw [s2] at k3; rw [s3] at k4; rw [s4] at k5; rw [s5] at h6
  refine ⟨⟨?_, ?_, ?_, ?_, ?_, ?_, frozen_of_row _ _ _ _ _ k3, frozen_of_row _ _ _ _ _ k3, frozen_of_row _ _ _ _ _ k4, frozen_of_row _ _ _ _ _ k5, b1.trans (x1.mono b1.size)⟩, ?_, s6⟩
  · rw [cell_of_row _ _ _ _ _ _ k1]; rfl
  · rw [cell_of_row _ _ _ _ _ _ k2]; rfl
  · rw [cell_of_row _ _ _ _ _ _ k3]; rfl
  · rw [cell_of_row _ _ _ _ _ _ k3]; rfl
  · rw [cell_of_row _ _ _ _ _ _ k4]; rfl
  · rw [cell_of_row _ _ _ _ _ _ k5]; rfl
  · rw [cell_of_row _ _ _ _ _ _ h6]; rfl
end Go.Proofs.YtfancjmhdbaoeaaDoor
