/- Walks and plain facts that the proof of the statement WholeLeast uses, joined: AxiG TopB. Conditions: each theorem's own. -/
import Derived.Test.YtkaldidcekcpnaaDoorPWholeLeast6
namespace Go.Proofs.YtkaldidcekcpnaaDoor
set_option maxRecDepth 100000
open Go.RowKit

theorem hasB_nat {s : Nat} {n : Nat} (hn : n < 64) : hasB s (n : Int) = s.testBit n := by
  unfold hasB
  rw [decide_eq_true (by omega), Bool.true_and, Int.toNat_natCast]
theorem lastI_snoc (l : List Int) (a : Int) (s : Nat) : lastI (l ++ [a]) s = if hasB s a then a else lastI l s := by
  unfold lastI lastTo
  rw [List.take_length, List.take_length, List.foldl_append]
  rfl
theorem lastI_has : ∀ (r : List Int) (s : Nat), lastI r.reverse s = -1 ∨ hasB s (lastI r.reverse s) = true
  | [], s => .inl rfl
  | a :: r, s => by
    rw [List.reverse_cons, lastI_snoc]
    cases ha : hasB s a with
    | true => rw [if_pos rfl]; exact .inr ha
    | false => rw [if_neg (by decide)]; exact lastI_has r s
theorem lastI_sub {s t : Nat} (hs : ∀ a, hasB t a = true → hasB s a = true) : ∀ (r : List Int), (hasB s (lastI r.reverse s) = true → hasB t (lastI r.reverse s) = true) → lastI r.reverse t = lastI r.reverse s
  | [], _ => rfl
  | a :: r, hf => by
    rw [List.reverse_cons, lastI_snoc] at hf
    rw [List.reverse_cons, lastI_snoc, lastI_snoc]
    cases ha : hasB s a with
    | true =>
      rw [ha, if_pos rfl] at hf
      rw [hf ha]
      rfl
    | false =>
      rw [ha, if_neg (by decide)] at hf
      have hb : hasB t a = false := by
        cases hb : hasB t a with
        | false => rfl
        | true => rw [hs a hb] at ha; cases ha
      rw [hb, if_neg (by decide), if_neg (by decide)]
      exact lastI_sub hs r hf
theorem hasB_range {s : Nat} {a : Int} (h : hasB s a = true) : ∃ n : Nat, n < 64 ∧ a = (n : Int) ∧ s.testBit n = true := by
  unfold hasB at h
  rw [Bool.and_eq_true, decide_eq_true_eq] at h
  exact ⟨a.toNat, by omega, by omega, h.2⟩
theorem seen_bit {V : Mat} {h : List TxnV} {y : Int} {i n : Nat} (hi : i < 64) (hn : n < 64) : (seeTo V (i : Int) 64 &&& wrtN h y).testBit n = (V n i && (wrtN h y).testBit n) := by
  rw [Nat.testBit_and, seeTo_bit V (i : Int) n 64 (Nat.le_refl 64), decide_eq_true hn, Bool.true_and, hasR_nat V n i hn hi]
/-- Whom one reads of is seen, where all is right. -/
theorem right_from {h : List TxnV} {l : List Int} {V : Mat} (hr : rightM h l V = true) {i j : Nat} (hi : i < 64) (hj : j < 64) (hf : froM h i j = true) : V i j = true := by
  obtain ⟨h1, h2, h3⟩ := (prsTo_iff (froP h) h.length i j hi hj h.length).1 hf
  unfold froP at h3
  rw [List.any_eq_true] at h3
  obtain ⟨r, hr1, hr2⟩ := h3
  rw [decide_eq_true_eq] at hr2
  unfold rightM at hr
  simp only [Bool.and_eq_true] at hr
  have hrt := hr.2.2
  unfold rightTo at hrt
  rw [List.all_eq_true] at hrt
  have h5 := List.all_eq_true.1 (hrt j (List.mem_range.2 (by omega))) r hr1
  unfold readOk at h5
  rw [decide_eq_true_eq, hr2] at h5
  have h6 := lastI_has l.reverse (seeTo V (j : Int) 64 &&& wrtN h r.1)
  rw [List.reverse_reverse, h5] at h6
  rcases h6 with h6 | h6
  · omega
  · rw [hasB_nat hi, seen_bit hj hi, Bool.and_eq_true] at h6
    exact h6.1
theorem least_base {h : List TxnV} {x : Nat} {l : List Int} {R : Mat} (hx : x < 9223372036854775808) (hR : LeastIs h x l R) {i j : Nat} (hi : i < 64) (hj : j < 64)
    (hb : froM h i j = true ∨ (x.testBit 0 = true ∧ sesM h i j = true) ∨ (x.testBit 5 = true ∧ timM h i j = true) ∨ (x.testBit 3 = true ∧ rivM h (chainR l) i j = true) ∨ (x.testBit 4 = true ∧ chainR l i j = true)) : R i j = true := by
  refine (hR i j hi hj).2 (.base ((startM_iff h x hx _ i j).2 ?_))
  rw [baseM_iff h x hx]
  rcases hb with hb | hb | hb | hb | hb
  · exact .inl (.inl hb)
  · exact .inl (.inr (.inl hb))
  · exact .inl (.inr (.inr hb))
  · exact .inr (.inl hb)
  · exact .inr (.inr hb)
theorem least_in {h : List TxnV} {x : Int} {l : List Int} {V R : Mat} (hV : holdsB h x l V = true) (hR : LeastIs h (askN x) l R) : inM R V = true := by
  have hlt := askN_lt x
  have hx : askN x < 9223372036854775808 := by omega
  unfold holdsB at hV
  simp only [Bool.and_eq_true, decide_eq_true_eq] at hV
  obtain ⟨_, _, hr, hk⟩ := hV
  have hk := (lack_iff _ _).1 hk
  have K : ∀ k, k < 6 → (askN x).testBit k = true → ∀ i j, i < 64 → j < 64 → keptM h (chainR l) V k i j = true → V i j = true := fun k hk6 hb => (inM_iff _ _).1 ((kept_bit h l V hk6).symm.trans (hk k hb))
  rw [inM_iff]
  intro i j hi hj hr2
  refine must_in (V := fun i j => V i j = true) ?_ ?_ ?_ ((hR i j hi hj).1 hr2) hi hj
  · intro i j hi hj hs
    rw [startM_iff h _ hx, baseM_iff h _ hx] at hs
    rcases hs with (hs | ⟨h1, h2⟩ | ⟨h1, h2⟩) | ⟨h1, h2⟩ | ⟨h1, h2⟩
    · exact right_from hr hi hj hs
    · exact K 0 (by omega) h1 i j hi hj h2
    · exact K 5 (by omega) h1 i j hi hj h2
    · exact K 3 (by omega) h1 i j hi hj h2
    · exact K 4 (by omega) h1 i j hi hj h2
  · intro ht i m j hi hm hj h1 h2
    rw [trB_bit _ hx] at ht
    exact K 1 (by omega) ht i j hi hj ((thenR_iff V V i j).2 ⟨m, hm, h1, h2⟩)
  · intro hp i m j hi hm hj h1 h2
    rw [pfB_bit _ hx] at hp
    exact K 2 (by omega) hp i j hi hj ((thenR_iff _ V i j).2 ⟨m, hm, h1, h2⟩)
theorem least_holds {h : List TxnV} {x : Int} {l : List Int} {V R : Mat} (hlen : h.length ≤ 64) (hV : holdsB h x l V = true) (hR : LeastIs h (askN x) l R) : holdsB h x l R = true := by
  have hin := least_in hV hR
  have hin' := (inM_iff _ _).1 hin
  have hlt := askN_lt x
  have hx : askN x < 9223372036854775808 := by omega
  unfold holdsB at *
  simp only [Bool.and_eq_true, decide_eq_true_eq] at hV ⊢
  obtain ⟨h1, h2, hr, hk⟩ := hV
  refine ⟨h1, h2, ?_, ?_⟩
  · have hr0 := hr
    unfold rightM at hr ⊢
    simp only [Bool.and_eq_true] at hr ⊢
    obtain ⟨hr1, hr2, hr3⟩ := hr
    refine ⟨hr1, inM_trans hin hr2, ?_⟩
    unfold rightTo at hr3 ⊢
    rw [List.all_eq_true] at hr3 ⊢
    intro i hi
    have hi' : i < h.length := List.mem_range.1 hi
    rw [List.all_eq_true]
    intro r hrd
    have h5 := List.all_eq_true.1 (hr3 i hi) r hrd
    unfold readOk at h5 ⊢
    rw [decide_eq_true_eq] at h5 ⊢
    have h6 := lastI_sub (s := seeTo V (i : Int) 64 &&& wrtN h r.1) (t := seeTo R (i : Int) 64 &&& wrtN h r.1) ?_ l.reverse ?_
    · rw [List.reverse_reverse] at h6; rw [h6]; exact h5
    · intro a ha
      obtain ⟨n, hn, rfl, hb⟩ := hasB_range ha
      rw [seen_bit (by omega) hn, Bool.and_eq_true] at hb
      rw [hasB_nat hn, seen_bit (by omega) hn, hin' n i hn (by omega) hb.1, hb.2]; rfl
    · rw [List.reverse_reverse, h5]
      intro ha
      obtain ⟨n, hn, e, hb⟩ := hasB_range ha
      rw [e]
      rw [seen_bit (by omega) hn, Bool.and_eq_true] at hb
      have hw := hb.2
      have hnl : n < h.length := by
        unfold wrtN at hw
        rw [← hasB_nat hn, hasB_mkS _ _ hn, Bool.and_eq_true, decide_eq_true_eq] at hw
        exact hw.1
      have hfr : froM h n i = true := (prsTo_iff (froP h) h.length n i hn (by omega) h.length).2 ⟨by omega, by omega, by
        unfold froP; rw [List.any_eq_true]; exact ⟨r, hrd, by rw [decide_eq_true_eq]; exact e⟩⟩
      rw [hasB_nat hn, seen_bit (by omega) hn, least_base hx hR hn (by omega) (.inl hfr), hw]; rfl
  · rw [lack_iff]
    intro k hb
    have hk6 : k < 6 := by
      apply Decidable.byContradiction
      intro hge
      have hp : (64 : Nat) ≤ 2 ^ k := by
        have := Nat.pow_le_pow_right (n := 2) (by omega) (show 6 ≤ k by omega)
        omega
      rw [Nat.testBit_lt_two_pow (by omega)] at hb
      cases hb
    rw [kept_bit h l R hk6, inM_iff]
    intro i j hi hj hm
    have h7 : k = 0 ∨ k = 1 ∨ k = 2 ∨ k = 3 ∨ k = 4 ∨ k = 5 := by omega
    rcases h7 with rfl | rfl | rfl | rfl | rfl | rfl
    · exact least_base hx hR hi hj (.inr (.inl ⟨hb, hm⟩))
    · obtain ⟨q, hq, a1, a2⟩ := (thenR_iff R R i j).1 hm
      exact (hR i j hi hj).2 (.trans (by rw [trB_bit _ hx]; exact hb) hq ((hR i q hi hq).1 a1) ((hR q j hq hj).1 a2))
    · obtain ⟨q, hq, a1, a2⟩ := (thenR_iff _ R i j).1 hm
      exact (hR i j hi hj).2 (.pre (by rw [pfB_bit _ hx]; exact hb) hq a1 ((hR q j hq hj).1 a2))
    · exact least_base hx hR hi hj (.inr (.inr (.inr (.inl ⟨hb, hm⟩))))
    · exact least_base hx hR hi hj (.inr (.inr (.inr (.inr ⟨hb, hm⟩))))
    · exact least_base hx hR hi hj (.inr (.inr (.inl ⟨hb, hm⟩)))
end Go.Proofs.YtkaldidcekcpnaaDoor

namespace Go.Proofs.YtkaldidcekcpnaaDoor
set_option maxRecDepth 100000
open Go.RowKit

/-- What lies in the block of what is handed in. -/
def GivenS (p : Nat) (vh vb vs : Value) (w : World) : Prop := w.cell? ⟨p, 0, none⟩ = some vh ∧ w.cell? ⟨p, 1, none⟩ = some vb ∧ w.cell? ⟨p, 2, none⟩ = some vs
theorem GivenS.below {p : Nat} {vh vb vs : Value} {w w' : World} (h : GivenS p vh vb vs w) (hb : Below w.heap.size w w') : GivenS p vh vb vs w' := by
  obtain ⟨h0, h1, h2⟩ := h
  exact ⟨(hb.cell (p := ⟨p, 0, none⟩) (block_lt h0)).trans h0, (hb.cell (p := ⟨p, 1, none⟩) (block_lt h1)).trans h1, (hb.cell (p := ⟨p, 2, none⟩) (block_lt h2)).trans h2⟩
theorem bools_at {w : World} {ao : Option Addr} {cap : Nat} {bl : List Bool} (h : Row w (.slice ao bl.length cap) bl.length 1 (bl.map Value.bool)) {i : Nat} (hi : i < bl.length) : ∃ b off, ao = some ⟨b, off, none⟩ ∧ w.cell? ⟨b, off + i, none⟩ = some (.bool bl[i]) := by
  obtain ⟨_, ao', cap', he, _, _, hc⟩ := h
  cases he
  obtain ⟨b, off, e, hcell⟩ := hc (by omega)
  refine ⟨b, off, e, ?_⟩
  rw [hcell i (by omega), List.getElem?_map, List.getElem?_eq_getElem hi]
  rfl
set_option maxRecDepth 100000 in
set_option maxHeartbeats 32000000 in
theorem wleast_walk (vh vb vs vm : Value) (h : List TxnV) (bs : List Int) (bl : List Bool) (m : Nat) (w : World) (ht : Tab w) (hK : Kinds w) (hT : Txns w vh h) (hok : ∀ t ∈ h, t.ok) (hsh : Short h) (hB : Row w vb bs.length 1 (bs.map (Value.int .u8))) (hbs : ∀ x ∈ bs, 0 ≤ x ∧ x < 256)
    (hE : Row w vs bl.length 1 (bl.map Value.bool)) (hm : m < 256) :
    Calls Tryd.prog 6 #[.agg #[vh, vb, vs, vm], .int .u8 m] w fun e w' => e = .returned (.bool true) ∧ Below w.heap.size w w' := by
  have hg := ht.pos
  have HT : Hid (∀ wx, Below w.heap.size w wx → Tab wx) := Lib.hid (fun wx hb => ht.below hb hg)
  have HK := Lib.hid (fun wx (hx : Below w.heap.size w wx) => hK.below hx)
  have HH := Lib.hid (fun wx (hx : Below w.heap.size w wx) => hT.below hx)
  have HBY := Lib.hid (fun wx (hx : Below w.heap.size w wx) => hB.below hx)
  have HSE := Lib.hid (fun wx (hx : Below w.heap.size w wx) => hE.below hx)
  obtain ⟨ao, cap, rfl, hal⟩ := hT.form
  have HOK := Lib.hid hok
  have HSH := Lib.hid hsh
  have HBS := Lib.hid hbs
  obtain ⟨bo, bcap, rfl⟩ : ∃ bo bcap, vb = .slice bo bs.length bcap := by
    obtain ⟨_, bo, bcap, e, _⟩ := hB
    exact ⟨bo, bcap, e⟩
  obtain ⟨so, scap, rfl, hsl⟩ : ∃ so scap, vs = .slice so bl.length scap ∧ bl.length ≤ maxLen := by
    obtain ⟨_, so, scap, e, hm, _⟩ := hE
    exact ⟨so, scap, e, Nat.le_trans hm.1 hm.2⟩
  have hbx := box_below w (.cells #[.slice ao h.length cap, .slice bo bs.length bcap, .slice so bl.length scap, vm] 67)
  have hC0 : GivenS w.heap.size (.slice ao h.length cap) (.slice bo bs.length bcap) (.slice so bl.length scap) (w.alloc (.cells #[.slice ao h.length cap, .slice bo bs.length bcap, .slice so bl.length scap, vm] 67)) := by
    refine ⟨?_, ?_, ?_⟩ <;> (rw [cell_of_row _ _ _ _ _ _ (heap_alloc_new w _)]; rfl)
  have mm : (m : Int) % 12 = ((m % 12 : Nat) : Int) := by omega
  have lm : m % 12 < 12 := Nat.mod_lt _ (by omega)
  generalize m % 12 = x at *
  clear ht hK hT hok hB hbs hE
  go_enter Tryd.func6, Tryd.ntmps6
  go_upto_region 1 with fail
  generalize w.alloc (.cells #[.slice ao h.length cap, .slice bo bs.length bcap, .slice so bl.length scap, vm] 67) = w0 at *
  go_wp2_with fail
  refine (lone_any _).mono ?_
  rintro e w1 ⟨rfl, hb1⟩
  have hC1 := hC0.below hb1
  have hb1 := below_then hbx hb1
  obtain ⟨n0, n1, n2⟩ := hC1
  go_wp2_with fail
  refine (small_any _ h _ (HH.out _ hb1) HSH.out).mono ?_
  rintro e w2 ⟨rfl, hb2⟩
  have hC2 := GivenS.below ⟨n0, n1, n2⟩ hb2
  have hb2 := below_then hb1 hb2
  clear n0 n1 n2 hb1 hC0 hbx
  by_cases hs : smallI h = 0
  · rw [hs]
    go_wp2_with fail
    go_ret
    exact ⟨rfl, hb2⟩
  obtain ⟨h7, hc, h1⟩ := small_no hs
  rw [h1]
  have CO := Lib.hid (of_done _ h w2 (HH.out _ hb2) HOK.out HSH.out hc)
  have HC := Lib.hid hc
  clear hs h1 hc hsh
  obtain ⟨n0, n1, n2⟩ := hC2
  go_wp2_with fail
  refine (CO.out).mono ?_
  rintro e w3 ⟨⟨B, rfl, hB, hO⟩, hb3⟩
  have hC3 := GivenS.below ⟨n0, n1, n2⟩ hb3
  have hb3 := below_then hb2 hb3
  clear n0 n1 n2 hb2 CO hB
  have CR := Lib.hid (lrow_any h.length (by omega) _ bs w3 (HBY.out _ hb3) HBS.out)
  obtain ⟨n0, n1, n2⟩ := hC3
  go_wp2_with fail
  refine (CR.out).mono ?_
  rintro e w4 ⟨⟨vr, L, rfl, hI, hP⟩, hb4⟩
  have hC4 := GivenS.below ⟨n0, n1, n2⟩ hb4
  have hO4 := hO.below hb4
  have hb4 := below_then hb3 hb4
  have hLl : (L.map Int.ofNat).length = h.length := by have := hP.length_eq; simpa using this
  clear n0 n1 n2 hb3 hO CR hP
  generalize L.map Int.ofNat = l at *
  have HFIN := Lib.hid (fun wx (hx : Below w4.heap.size w4 wx) => hb4.trans (hx.mono hb4.size))
  have HLEAST : Hid (∀ V R, holdsB h (x : Int) l V = true → LeastIs h (askN (x : Int)) l R → inM R V = true ∧ holdsB h (x : Int) l R = true) := Lib.hid (fun V R hV hR => ⟨least_in hV hR, least_holds (by omega) hV hR⟩)
  have HO := Lib.hid (fun wx (hx : Below w4.heap.size w4 wx) => hO4.below hx)
  have HI := Lib.hid (fun wx (hx : Below w4.heap.size w4 wx) => hI.below hx)
  have HGV := Lib.hid (fun wx (hx : Below w4.heap.size w4 wx) => hC4.below hx)
  have HSE := Lib.hid (fun wx (hx : Below w4.heap.size w4 wx) => HSE.out _ (HFIN.out _ hx))
  have CA := Lib.hid (fun p wx (hx : Below w4.heap.size w4 wx) => lasks_any p wx (HK.out _ (HFIN.out _ hx)))
  have CF := Lib.hid (fun p wx (hx : Below w4.heap.size w4 wx) => lof_any p vr l h B (B + 2) wx (HO.out _ hx) HC.out (HT.out _ (HFIN.out _ hx)) (HI.out _ hx))
  have CH := Lib.hid (fun p V wx (hx : Below w4.heap.size w4 wx) => aholds_any p vr l V h B (B + 2) wx (HO.out _ hx) HC.out (HT.out _ (HFIN.out _ hx)) (HK.out _ (HFIN.out _ hx)) (HI.out _ hx))
  obtain ⟨ro, rcap, rfl, hlc, hlm⟩ : ∃ ro rcap, vr = .slice ro l.length rcap ∧ l.length ≤ rcap ∧ rcap ≤ maxLen := by
    obtain ⟨_, ro, rcap, e, hm, _⟩ := hI
    exact ⟨ro, rcap, e, hm.1, hm.2⟩
  have hl7 : l.length ≤ 7 := by omega
  clear hO4 hI hC4 hb4 hal HT HK HH HBY HOK HBS HC HO HSH hLl h7
  have hz := zero_block w4
  have hbz := (Below.refl w4.heap.size w4).alloc (Nat.le_refl _) (.cells #[.int .u64 0, .int .u64 0, .int .u64 0, .int .u64 0, .int .u64 0, .int .u64 0, .int .u64 0, .int .u64 0, .int .u64 0, .int .u64 0, .int .u64 0, .int .u64 0, .int .u64 0, .int .u64 0, .int .u64 0, .int .u64 0, .int .u64 0, .int .u64 0, .int .u64 0, .int .u64 0, .int .u64 0, .int .u64 0, .int .u64 0, .int .u64 0, .int .u64 0, .int .u64 0, .int .u64 0, .int .u64 0, .int .u64 0, .int .u64 0, .int .u64 0, .int .u64 0, .int .u64 0, .int .u64 0, .int .u64 0, .int .u64 0, .int .u64 0, .int .u64 0, .int .u64 0, .int .u64 0, .int .u64 0, .int .u64 0, .int .u64 0, .int .u64 0, .int .u64 0, .int .u64 0, .int .u64 0, .int .u64 0, .int .u64 0, .int .u64 0, .int .u64 0, .int .u64 0, .int .u64 0, .int .u64 0, .int .u64 0, .int .u64 0, .int .u64 0, .int .u64 0, .int .u64 0, .int .u64 0, .int .u64 0, .int .u64 0, .int .u64 0, .int .u64 0] 35)
  go_wp2_with fail
  go_loopw [10, 45] (fun av iv wr => ∃ (k t : Nat) (V : Mat), k ≤ l.length ∧ iv = .int .i64 k ∧ av = .int .i64 t ∧ t ≤ k * 8 ∧ RelAt wr w4.heap.size 35 V ∧ Below w4.heap.size w4 wr) (fun _ i _ => l.length - (intOf i).toNat)
  case atStart => exact ⟨0, 0, noR, by omega, rfl, rfl, by omega, hz, hbz⟩
  case round =>
    clear hz hbz
    obtain ⟨k, t, V, hk, rfl, rfl, htk, hr, hb⟩ := hrel
    by_cases hlt : k < l.length
    · have hki : (k : Int) < (l.length : Int) := by omega
      have hkc : (k : Int) ≤ (rcap : Int) := by omega
      obtain ⟨p, off, hao, hcb⟩ := (HI.out _ hb).at hlt
      cases hao
      generalize l[k] = bb at *
      clear CF CA CH HLEAST
      go_wp2_with fail
      go_loopw [10, 54] (fun av jv wx => ∃ (j t : Nat) (V : Mat), j ≤ k ∧ jv = .int .i64 j ∧ av = .int .i64 t ∧ t ≤ k * 8 + j ∧ RelAt wx w4.heap.size 35 V ∧ Below w4.heap.size w4 wx) (fun _ i _ => k - (intOf i).toNat)
      case atStart => exact ⟨0, t, V, by omega, rfl, rfl, by omega, hr, hb⟩
      case round =>
        clear hr hb hcb
        obtain ⟨j, t, V, hj, rfl, rfl, htj, hr, hb⟩ := hrel
        by_cases hjk : j < k
        · have hji : (j : Int) < (k : Int) := by omega
          obtain ⟨p2, off2, hao2, hci⟩ := (HI.out _ hb).at (show j < l.length by omega)
          cases hao2
          generalize l[j] = ii at *
          obtain ⟨n0, n1, n2⟩ := HGV.out _ hb
          have HS := HSE.out _ hb
          by_cases hts : t < bl.length
          · have hti : (t : Int) < (bl.length : Int) := by omega
            obtain ⟨q, qo, hq, hcs⟩ := bools_at HS hts
            cases hq
            clear HS
            generalize bl[t] = bit at *
            cases bit with
            | true =>
              go_wp2_with fail
              refine (add_any V w4.heap.size ii bb _ hr).mono ?_
              rintro e w7 ⟨rfl, hr7, hg7⟩
              have hb7 := hb.grown hg7 hb.size (fun q hq => by cases hq; exact Nat.le_refl _)
              clear hr hb hg7 n0 n1 n2 hcs hci
              go_wp2_with fail
              go_roundw
              case rel => exact ⟨j + 1, t + 1, _, by omega, by go_num, by go_num, by omega, hr7, hb7⟩
              case measure => simp [intOf]; omega
            | false =>
              go_wp2_with fail
              go_roundw
              case rel => exact ⟨j + 1, t + 1, V, by omega, by go_num, by go_num, by omega, hr, hb⟩
              case measure => simp [intOf]; omega
          · have hti : ¬ (t : Int) < (bl.length : Int) := by omega
            clear HS
            go_wp2_with fail
            go_roundw
            case rel => exact ⟨j + 1, t + 1, V, by omega, by go_num, by go_num, by omega, hr, hb⟩
            case measure => simp [intOf]; omega
        · have hjk2 : j = k := by omega
          subst hjk2
          go_wp2_with fail
          go_roundw
          case rel => exact ⟨j + 1, t, V, by omega, by go_num, rfl, by omega, hr, hb⟩
          case measure => simp [intOf]; omega
    · have hkn : k = l.length := by omega
      subst hkn
      clear HGV HSE
      go_wp2_with (first | (with_reducible refine wpList_load_rel hr rfl _ rfl rfl ?_))
      refine (CH.out _ V _ hb).mono ?_
      rintro e w5 ⟨rfl, k5⟩
      have y5 := hr.below k5 hr.lt
      have k5 := below_then hb k5
      clear hr hb
      cases hh : holdsB h (x : Int) l V with
      | false =>
        go_wp2_with fail
        go_ret
        exact ⟨rfl, HFIN.out _ k5⟩
      | true =>
      have HLE := Lib.hid (fun R hR => HLEAST.out V R hh hR)
      clear HLEAST hh
      go_wp2_with fail
      refine (CA.out _ _ k5).mono ?_
      rintro e w6 ⟨rfl, rfl⟩
      go_wp2_with fail
      refine (CF.out _ _ k5).mono ?_
      rintro e w6 ⟨⟨R, rfl, hR⟩, k6⟩
      obtain ⟨hin, hhr⟩ := HLE.out R hR
      have HIN := Lib.hid (And.intro hin hhr)
      have y6 := y5.below k6 y5.lt
      have k6 := below_then k5 k6
      have z6 := zero_block w6
      have z7 := z6.setRow R
      have d7 := zero_below w6 R
      have y7 := y6.below d7 y6.lt
      have k7 := k6.trans (d7.mono k6.size)
      clear hin hhr hR HLE y5 k5 y6 d7
      go_wp2_with (first | (with_reducible refine wpList_store_rel z6 R rfl _ _ rfl rfl rfl ?_) | (with_reducible refine wpList_load_rel z7 rfl _ rfl rfl ?_) | (with_reducible refine wpList_load_rel y7 rfl _ rfl rfl ?_))
      clear z6
      generalize (w6.alloc (.cells #[.int .u64 0, .int .u64 0, .int .u64 0, .int .u64 0, .int .u64 0, .int .u64 0, .int .u64 0, .int .u64 0, .int .u64 0, .int .u64 0, .int .u64 0, .int .u64 0, .int .u64 0, .int .u64 0, .int .u64 0, .int .u64 0, .int .u64 0, .int .u64 0, .int .u64 0, .int .u64 0, .int .u64 0, .int .u64 0, .int .u64 0, .int .u64 0, .int .u64 0, .int .u64 0, .int .u64 0, .int .u64 0, .int .u64 0, .int .u64 0, .int .u64 0, .int .u64 0, .int .u64 0, .int .u64 0, .int .u64 0, .int .u64 0, .int .u64 0, .int .u64 0, .int .u64 0, .int .u64 0, .int .u64 0, .int .u64 0, .int .u64 0, .int .u64 0, .int .u64 0, .int .u64 0, .int .u64 0, .int .u64 0, .int .u64 0, .int .u64 0, .int .u64 0, .int .u64 0, .int .u64 0, .int .u64 0, .int .u64 0, .int .u64 0, .int .u64 0, .int .u64 0, .int .u64 0, .int .u64 0, .int .u64 0, .int .u64 0, .int .u64 0, .int .u64 0] 35)).setRow w6.heap.size (rowsA R) = w7 at *
      generalize w6.heap.size = g at *
      refine (withinR_any R V _).mono ?_
      rintro e w8 ⟨rfl, h8⟩
      have z8 := z7.below h8 z7.lt
      have k8 := below_then k7 h8
      have CY := Lib.hid (CH.out (x : Int) R w8 k8)
      obtain ⟨hin, hhr⟩ := HIN.out
      rw [hhr] at CY
      rw [hin]
      clear z7 y7 k6 k7 h8 hin hhr HIN CH CA CF
      go_wp2_with (with_reducible refine wpList_load_rel_g z8 _ rfl (by kernel_rfl) rfl ?_)
      refine (CY.out).mono ?_
      rintro e w9 ⟨rfl, h9⟩
      have k9 := below_then k8 h9
      go_wp2_with fail
      go_ret
      exact ⟨rfl, HFIN.out _ k9⟩
end Go.Proofs.YtkaldidcekcpnaaDoor
