/- Walks and plain facts that the proof of the statement AxiomHolds uses, joined: AxhI. Conditions: each theorem's own. -/
import Derived.Deep.CutRange
import Derived.Test.YtkaldidcekcpnaaGreatDoorPAxiomHolds6
import Derived.Test.YtkaldidcekcpnaaGreatDoorPAxiomHolds7
namespace Go.Proofs.YtkaldidcekcpnaaGreatDoor
set_option maxRecDepth 100000
open Go.RowKit

theorem pow_lt6 : ∀ k : Fin 6, 2 ^ k.val ≤ 32 ∧ 0 < 2 ^ k.val := by decide
theorem kept_has {h : List TxnV} {V : Mat} {m : List Pr} {l : List Int} (hc : checkI h = 0) (hR : Rep V m) (hr : rightR h l m = true) {k : Nat} (hk : k < 6) : keepsR h (2 ^ k) l m = hasT (keptN h l V) (2 ^ k) := by
  have hp := pow_lt6 ⟨k, hk⟩
  simp only at hp
  have hr2 := hr
  rw [← right_same hc hR l] at hr2
  unfold rightM at hr2
  rw [Bool.and_eq_true, Bool.and_eq_true] at hr2
  have h64 := (check_zero hc).1
  have hf := full_of_row ((row_same h.length h64 l).symm.trans hr2.1)
  have hlt : keptN h l V < 64 := keptTo_lt _ _ _
  rw [keeps_same hc hR hf hr2.2.1 (show 2 ^ k < 64 by omega)]
  have e1 : decide (lackN (2 ^ k) (keptN h l V) = 0) = (keptN h l V).testBit k := by
    rw [Bool.eq_iff_iff, decide_eq_true_eq, lack_iff]
    constructor
    · intro H; exact H k (Nat.testBit_two_pow_self)
    · intro H j hj
      by_cases e : k = j
      · subst e; exact H
      · rw [Nat.testBit_two_pow_of_ne e] at hj; cases hj
  rw [e1]
  obtain ⟨t1, t2, t4, t8, t16, t32⟩ := hasT_bits ⟨keptN h l V, hlt⟩
  simp only at t1 t2 t4 t8 t16 t32
  have h7 : k = 0 ∨ k = 1 ∨ k = 2 ∨ k = 3 ∨ k = 4 ∨ k = 5 := by omega
  rcases h7 with rfl | rfl | rfl | rfl | rfl | rfl
  · exact t1.symm
  · exact t2.symm
  · exact t4.symm
  · exact t8.symm
  · exact t16.symm
  · exact t32.symm
set_option maxRecDepth 100000 in
set_option maxHeartbeats 32000000 in
theorem holds12_walk (vh vb vs vm : Value) (h : List TxnV) (bs : List Int) (bl : List Bool) (mp : List Pr) (w : World) (ht : Tab w) (hK : Kinds w) (hT : Txns w vh h) (hok : ∀ t ∈ h, t.ok) (hsh : Short h) (hB : Row w vb bs.length 1 (bs.map (Value.int .u8))) (hbs : ∀ x ∈ bs, 0 ≤ x ∧ x < 256)
    (hE : Row w vs bl.length 1 (bl.map Value.bool)) (hM : Prs w vm mp) :
    Calls Tryz.prog 4 #[.agg #[vh, vb, vs, vm]] w fun e w' => e = .returned (.bool true) ∧ Below w.heap.size w w' := by
  have hg := ht.pos
  have HT : Hid (∀ wx, Below w.heap.size w wx → Tab wx ∧ Kinds wx) := Lib.hid (fun wx hb => ⟨ht.below hb hg, hK.below hb⟩)
  have HH := Lib.hid (fun wx (hx : Below w.heap.size w wx) => hT.below hx)
  have HBY := Lib.hid (fun wx (hx : Below w.heap.size w wx) => hB.below hx)
  have HSE := Lib.hid (fun wx (hx : Below w.heap.size w wx) => hE.below hx)
  have HMP := Lib.hid (fun wx (hx : Below w.heap.size w wx) => hM.below hx)
  obtain ⟨ao, cap, rfl, hal⟩ := hT.form
  obtain ⟨mo, mcap, rfl, hml⟩ := hM.form
  have HOK := Lib.hid hok
  have HSH := Lib.hid hsh
  have HBS := Lib.hid hbs
  obtain ⟨bo, bcap, rfl⟩ : ∃ bo bcap, vb = .slice bo bs.length bcap := by
    obtain ⟨_, bo, bcap, e, _⟩ := hB
    exact ⟨bo, bcap, e⟩
  obtain ⟨so, scap, rfl⟩ : ∃ so scap, vs = .slice so bl.length scap := by
    obtain ⟨_, so, scap, e, _⟩ := hE
    exact ⟨so, scap, e⟩
  have hbx := box_below w (.cells #[.slice ao h.length cap, .slice bo bs.length bcap, .slice so bl.length scap, .slice mo mp.length mcap] 51)
  have hC0 : GivenM w.heap.size (.slice ao h.length cap) (.slice bo bs.length bcap) (.slice so bl.length scap) (.slice mo mp.length mcap) (w.alloc (.cells #[.slice ao h.length cap, .slice bo bs.length bcap, .slice so bl.length scap, .slice mo mp.length mcap] 51)) := by
    refine ⟨⟨?_, ?_, ?_⟩, ?_⟩ <;> (rw [cell_of_row _ _ _ _ _ _ (heap_alloc_new w _)]; rfl)
  clear ht hK hT hok hB hbs hE hM hal
  go_enter Tryz.func4, Tryz.ntmps4
  go_upto_region 1 with fail
  generalize w.alloc (.cells #[.slice ao h.length cap, .slice bo bs.length bcap, .slice so bl.length scap, .slice mo mp.length mcap] 51) = w0 at *
  go_wp2_with fail
  refine (speaks12_any _ (HT.out _ hbx).1 (HT.out _ hbx).2).mono ?_
  rintro e w1 ⟨rfl, hb1⟩
  have hC1 := hC0.below hb1
  have hb1 := below_then hbx hb1
  obtain ⟨⟨n0, n1, n2⟩, n3⟩ := hC1
  go_wp2_with fail
  refine (small_any _ h _ (HH.out _ hb1) HSH.out).mono ?_
  rintro e w2 ⟨rfl, hb2⟩
  have hC2 := GivenM.below ⟨⟨n0, n1, n2⟩, n3⟩ hb2
  have hb2 := below_then hb1 hb2
  clear n0 n1 n2 n3 hb1 hC0 hbx
  by_cases hs : smallI h = 0
  · rw [hs]
    go_wp2_with fail
    go_ret
    exact ⟨rfl, hb2⟩
  obtain ⟨h7, hc, h1⟩ := small_no hs
  rw [h1]
  obtain ⟨⟨n0, n1, n2⟩, n3⟩ := hC2
  by_cases h20 : 20 < mp.length
  · have h20i : (20 : Int) < (mp.length : Int) := by omega
    clear hs h1 hc
    go_wp2_with fail
    go_ret
    exact ⟨rfl, hb2⟩
  have h20i : ¬ (20 : Int) < (mp.length : Int) := by omega
  have CO := Lib.hid (of_done _ h w2 (HH.out _ hb2) HOK.out HSH.out hc)
  have HC := Lib.hid hc
  clear hs h1 hc hsh
  go_wp2_with fail
  refine (CO.out).mono ?_
  rintro e w3 ⟨⟨B, rfl, hB, hO⟩, hb3⟩
  have hC3 := GivenM.below ⟨⟨n0, n1, n2⟩, n3⟩ hb3
  have hb3 := below_then hb2 hb3
  clear n0 n1 n2 n3 hb2 CO hB h20i
  have CF := Lib.hid (of12_any _ _ _ _ h bs bl mp w3 h7 (by omega) (HH.out _ hb3) (HBY.out _ hb3) HBS.out (HSE.out _ hb3) (HMP.out _ hb3))
  obtain ⟨⟨n0, n1, n2⟩, n3⟩ := hC3
  go_wp2_with fail
  refine (CF.out).mono ?_
  rintro e w4 ⟨⟨vr, vm2, L, V, m, rfl, hI, hP, hm, hR⟩, hb4⟩
  have hC4 := GivenM.below ⟨⟨n0, n1, n2⟩, n3⟩ hb4
  have hO4 := hO.below hb4
  have hb4 := below_then hb3 hb4
  clear n0 n1 n2 n3 hb3 hO CF hP HBY HSE HMP HBS HOK HSH
  generalize L.map Int.ofNat = l at *
  have HR := Lib.hid hR
  obtain ⟨ro, rcap, rfl, hrl⟩ := hI.form
  obtain ⟨m2o, m2cap, rfl, hm2l⟩ := hm.form
  have hz4 := zero_block w4
  have hz5 := hz4.setRow V
  have kz := zero_below w4 V
  have hb5 := hb4.trans (kz.mono hb4.size)
  have hC5 := hC4.below kz
  have hO5 := hO4.below kz
  have hI5 := hI.below kz
  have hm5 := hm.below kz
  obtain ⟨⟨n0, n1, n2⟩, n3⟩ := hC5
  clear hC4 hO4 hI hm hR hb4 h7
  go_wp2_with (with_reducible refine wpList_store_rel hz4 V rfl _ _ rfl rfl rfl ?_)
  clear hz4 kz
  have hC5 : GivenM w.heap.size _ _ _ _ _ := ⟨⟨n0, n1, n2⟩, n3⟩
  generalize (w4.alloc (.cells #[.int .u64 0, .int .u64 0, .int .u64 0, .int .u64 0, .int .u64 0, .int .u64 0, .int .u64 0, .int .u64 0, .int .u64 0, .int .u64 0, .int .u64 0, .int .u64 0, .int .u64 0, .int .u64 0, .int .u64 0, .int .u64 0, .int .u64 0, .int .u64 0, .int .u64 0, .int .u64 0, .int .u64 0, .int .u64 0, .int .u64 0, .int .u64 0, .int .u64 0, .int .u64 0, .int .u64 0, .int .u64 0, .int .u64 0, .int .u64 0, .int .u64 0, .int .u64 0, .int .u64 0, .int .u64 0, .int .u64 0, .int .u64 0, .int .u64 0, .int .u64 0, .int .u64 0, .int .u64 0, .int .u64 0, .int .u64 0, .int .u64 0, .int .u64 0, .int .u64 0, .int .u64 0, .int .u64 0, .int .u64 0, .int .u64 0, .int .u64 0, .int .u64 0, .int .u64 0, .int .u64 0, .int .u64 0, .int .u64 0, .int .u64 0, .int .u64 0, .int .u64 0, .int .u64 0, .int .u64 0, .int .u64 0, .int .u64 0, .int .u64 0, .int .u64 0] 37)).setRow w4.heap.size (rowsA V) = w5 at *
  generalize w4.heap.size = p6 at *
  have HF := Lib.hid (fun wx (hx : Below w5.heap.size w5 wx) => hb5.trans (hx.mono hb5.size))
  have HS := Lib.hid (fun wx (hx : Below w5.heap.size w5 wx) => hC5.below hx)
  have HV := Lib.hid (fun wx (hx : Below w5.heap.size w5 wx) => hz5.below hx hz5.lt)
  have CRR := Lib.hid (fun wx (hx : Below w5.heap.size w5 wx) => rright12_any _ _ _ h l m wx (check_zero HC.out).1 (HH.out _ (HF.out _ hx)) (hI5.below hx) (hm5.below hx))
  have CRM := Lib.hid (fun wx (hx : Below w5.heap.size w5 wx) => aright_any _ l V h B (B + 2) wx (hO5.below hx) HC.out (hI5.below hx))
  have CKE := Lib.hid (fun wx (hx : Below w5.heap.size w5 wx) => akept_any _ l V h B (B + 2) wx (hO5.below hx) HC.out (HT.out _ (HF.out _ hx)).1 (hI5.below hx))
  have CKR := Lib.hid (fun (x : Nat) (hx64 : x < 64) wx (hx : Below w5.heap.size w5 wx) => rkeeps_any _ _ _ h x hx64 l m (check_zero HC.out).1 wx (HH.out _ (HF.out _ hx)) (hI5.below hx) (hm5.below hx))
  have CHB := Lib.hid (fun (lv : Int) wx (hx : Below w5.heap.size w5 wx) => aholds_any lv _ l V h B (B + 2) wx (hO5.below hx) HC.out (HT.out _ (HF.out _ hx)).1 (HT.out _ (HF.out _ hx)).2 (hI5.below hx))
  have CHR := Lib.hid (fun (lv : Int) wx (hx : Below w5.heap.size w5 wx) => rholds12_any _ _ _ h lv l m HC.out wx (HH.out _ (HF.out _ hx)) (hI5.below hx) (hm5.below hx))
  have HSM := Lib.hid (fun lv => holds_same HC.out HR.out lv l)
  have HKH := Lib.hid (fun (hr : rightR h l m = true) (k : Nat) (hk : k < 6) => kept_has HC.out HR.out hr hk)
  have hkl : keptN h l V < 64 := keptTo_lt _ _ _
  rw [right_same HC.out HR.out l] at CRM
  have hb := Below.refl w5.heap.size w5
  clear hC5 hz5 hO5 hI5 hm5 hb5 HT HH HC HR
  generalize rightR h l m = q at *
  generalize keptN h l V = kn at *
  refine (CRR.out _ hb).mono ?_
  rintro e w6 ⟨rfl, h6⟩
  have hb6 := below_then hb h6
  clear hb h6 n0 n1 n2 n3 CRR
  have yv := HV.out _ hb6
  go_wp2_with (with_reducible refine wpList_load_rel yv rfl _ rfl rfl ?_)
  refine (CRM.out _ hb6).mono ?_
  rintro e w7 ⟨rfl, h7⟩
  have hb7 := below_then hb6 h7
  clear hb6 h7 CRM yv
  cases q with
  | false =>
    go_wp2_with fail
    have hb := hb7
    clear hb7 HKH CKE CKR
    go_loopw [11] (fun iv wr => ∃ j : Int, -1 ≤ j ∧ j ≤ 13 ∧ iv = .int .i64 j ∧ Below w5.heap.size w5 wr) (fun iv _ => (13 - intOf iv).toNat)
    case atStart => exact ⟨-1, by omega, by omega, rfl, hb⟩
    case round =>
      clear hb
      obtain ⟨j, hj0, hj1, rfl, hb⟩ := hrel
      by_cases hlt : j ≤ 12
      · have CH1 := Lib.hid (CHB.out j)
        have CH2 := Lib.hid (CHR.out j)
        rw [HSM.out j] at CH1
        generalize holdsR h j l m = s at *
        have kd := hb.drew
        go_upto_region 22 with fail
        cases s with
        | true =>
          refine wp_region_held_drew (S := Below w5.heap.size w5) (by kernel_rfl) kd (fun hS0 => ?_)
          refine takeG (some 76) (i := 0) (v := ?vlft0) rfl rfl (by kernel_rfl) (by kernel_rfl) (by kernel_rfl) (fun _ _ _ h => h) (Or.inl ⟨by rfl, ?hlft0⟩) hS0 ?rlft0
          case hlft0 => (intro w hw; obtain ⟨⟨n0, n1, n2⟩, n3⟩ := HS.out _ hw; go_simp; try (with_reducible rfl))
          try simp only [Act.put, List.setIfInBounds_toArray, List.set_cons_zero, List.set_cons_succ]
          refine takeG (some 77) (i := 1) (v := ?vlft1) rfl rfl (by kernel_rfl) (by kernel_rfl) (by kernel_rfl) (fun _ _ _ h => h) (Or.inl ⟨by rfl, ?hlft1⟩) hS0 ?rlft1
          case hlft1 => (intro w hw; obtain ⟨⟨n0, n1, n2⟩, n3⟩ := HS.out _ hw; go_simp; try (with_reducible rfl))
          try simp only [Act.put, List.setIfInBounds_toArray, List.set_cons_zero, List.set_cons_succ]
          refine takeG (some 78) (i := 2) (v := ?vlft2) rfl rfl (by kernel_rfl) (by kernel_rfl) (by kernel_rfl) (fun _ _ _ h => h) (Or.inl ⟨by rfl, ?hlft2⟩) hS0 ?rlft2
          case hlft2 => (intro w hw; obtain ⟨⟨n0, n1, n2⟩, n3⟩ := HS.out _ hw; go_simp; try (with_reducible rfl))
          try simp only [Act.put, List.setIfInBounds_toArray, List.set_cons_zero, List.set_cons_succ]
          refine takeG (some 79) (i := 3) (v := _) rfl rfl (by kernel_rfl) (by kernel_rfl) (by kernel_rfl) (fun _ _ _ h => h) (yields_rel (by rfl) _ rfl rfl HV.out) hS0 ?_
          try simp only [Act.put, List.setIfInBounds_toArray, List.set_cons_zero, List.set_cons_succ]
          refine takeG (some 81) (i := 5) (v := ?vlft5) rfl rfl (by kernel_rfl) (by kernel_rfl) (by kernel_rfl) (fun _ _ _ h => h) (Or.inl ⟨by rfl, ?hlft5⟩) hS0 ?rlft5
          case hlft5 => (intro w hw; obtain ⟨⟨n0, n1, n2⟩, n3⟩ := HS.out _ hw; go_simp; try (with_reducible rfl))
          try simp only [Act.put, List.setIfInBounds_toArray, List.set_cons_zero, List.set_cons_succ]
          refine takeG (some 82) (i := 6) (v := ?vlft6) rfl rfl (by kernel_rfl) (by kernel_rfl) (by kernel_rfl) (fun _ _ _ h => h) (Or.inl ⟨by rfl, ?hlft6⟩) hS0 ?rlft6
          case hlft6 => (intro w hw; obtain ⟨⟨n0, n1, n2⟩, n3⟩ := HS.out _ hw; go_simp; try (with_reducible rfl))
          try simp only [Act.put, List.setIfInBounds_toArray, List.set_cons_zero, List.set_cons_succ]
          refine takeG (some 83) (i := 7) (v := ?vlft7) rfl rfl (by kernel_rfl) (by kernel_rfl) (by kernel_rfl) (fun _ _ _ h => h) (Or.inl ⟨by rfl, ?hlft7⟩) hS0 ?rlft7
          case hlft7 => (intro w hw; obtain ⟨⟨n0, n1, n2⟩, n3⟩ := HS.out _ hw; go_simp; try (with_reducible rfl))
          try simp only [Act.put, List.setIfInBounds_toArray, List.set_cons_zero, List.set_cons_succ]
          refine takeG (some 84) (i := 8) (v := ?vlft8) rfl rfl (by kernel_rfl) (by kernel_rfl) (by kernel_rfl) (fun _ _ _ h => h) (Or.inl ⟨by rfl, ?hlft8⟩) hS0 ?rlft8
          case hlft8 => (intro w hw; obtain ⟨⟨n0, n1, n2⟩, n3⟩ := HS.out _ hw; go_simp; try (with_reducible rfl))
          try simp only [Act.put, List.setIfInBounds_toArray, List.set_cons_zero, List.set_cons_succ]
          refine takeG (some 85) (i := 9) (v := ?vlft9) rfl rfl (by kernel_rfl) (by kernel_rfl) (by kernel_rfl) (fun _ _ _ h => h) (Or.inl ⟨by rfl, ?hlft9⟩) hS0 ?rlft9
          case hlft9 => (intro w hw; obtain ⟨⟨n0, n1, n2⟩, n3⟩ := HS.out _ hw; go_simp; try (with_reducible rfl))
          try simp only [Act.put, List.setIfInBounds_toArray, List.set_cons_zero, List.set_cons_succ]
          refine wpAnyH_ready (rs := [4]) (by kernel_rfl) (by simp) ?_
          refine AllReadyH.cons rfl (fun K hK => ?_) AllReadyH.nil
          go_simp
          refine (CH1.out _ hS0).mono ?_
          rintro e y1 ⟨rfl, j1⟩
          show K _ _
          have s1 := below_then hS0 j1
          refine hK.out _ _ s1 (fun _ => ?_)
          clear hK K
          refine wpAnyH_ready (rs := [10]) (by kernel_rfl) (by simp) ?_
          refine AllReadyH.cons rfl (fun K hK => ?_) AllReadyH.nil
          go_simp
          refine (CH2.out _ s1).mono ?_
          rintro e y2 ⟨rfl, j2⟩
          show K _ _
          have s2 := below_then s1 j2
          refine hK.out _ _ s2 (fun _ => ?_)
          clear hK K
          refine takeG (some 87) (i := 11) (v := ?vlft11) rfl rfl (by kernel_rfl) (by kernel_rfl) (by kernel_rfl) (fun _ _ _ h => h) (Or.inl ⟨by rfl, ?hlft11⟩) s2 ?rlft11
          case hlft11 => (intro w hw; obtain ⟨⟨n0, n1, n2⟩, n3⟩ := HS.out _ hw; go_simp; try (with_reducible rfl))
          try simp only [Act.put, List.setIfInBounds_toArray, List.set_cons_zero, List.set_cons_succ]
          refine wpAnyH_done (by kernel_rfl) ?_ _
          clear hb kd j1 j2 s1
          go_wp2_with fail
          go_roundw
          case rel => exact ⟨j + 1, by omega, by omega, rfl, s2⟩
          case measure => simp [intOf]; omega
        | false =>
          refine wp_region_held_drew (S := Below w5.heap.size w5) (by kernel_rfl) kd (fun hS0 => ?_)
          refine takeG (some 76) (i := 0) (v := ?vlff0) rfl rfl (by kernel_rfl) (by kernel_rfl) (by kernel_rfl) (fun _ _ _ h => h) (Or.inl ⟨by rfl, ?hlff0⟩) hS0 ?rlff0
          case hlff0 => (intro w hw; obtain ⟨⟨n0, n1, n2⟩, n3⟩ := HS.out _ hw; go_simp; try (with_reducible rfl))
          try simp only [Act.put, List.setIfInBounds_toArray, List.set_cons_zero, List.set_cons_succ]
          refine takeG (some 77) (i := 1) (v := ?vlff1) rfl rfl (by kernel_rfl) (by kernel_rfl) (by kernel_rfl) (fun _ _ _ h => h) (Or.inl ⟨by rfl, ?hlff1⟩) hS0 ?rlff1
          case hlff1 => (intro w hw; obtain ⟨⟨n0, n1, n2⟩, n3⟩ := HS.out _ hw; go_simp; try (with_reducible rfl))
          try simp only [Act.put, List.setIfInBounds_toArray, List.set_cons_zero, List.set_cons_succ]
          refine takeG (some 78) (i := 2) (v := ?vlff2) rfl rfl (by kernel_rfl) (by kernel_rfl) (by kernel_rfl) (fun _ _ _ h => h) (Or.inl ⟨by rfl, ?hlff2⟩) hS0 ?rlff2
          case hlff2 => (intro w hw; obtain ⟨⟨n0, n1, n2⟩, n3⟩ := HS.out _ hw; go_simp; try (with_reducible rfl))
          try simp only [Act.put, List.setIfInBounds_toArray, List.set_cons_zero, List.set_cons_succ]
          refine takeG (some 79) (i := 3) (v := _) rfl rfl (by kernel_rfl) (by kernel_rfl) (by kernel_rfl) (fun _ _ _ h => h) (yields_rel (by rfl) _ rfl rfl HV.out) hS0 ?_
          try simp only [Act.put, List.setIfInBounds_toArray, List.set_cons_zero, List.set_cons_succ]
          refine takeG (some 81) (i := 5) (v := ?vlff5) rfl rfl (by kernel_rfl) (by kernel_rfl) (by kernel_rfl) (fun _ _ _ h => h) (Or.inl ⟨by rfl, ?hlff5⟩) hS0 ?rlff5
          case hlff5 => (intro w hw; obtain ⟨⟨n0, n1, n2⟩, n3⟩ := HS.out _ hw; go_simp; try (with_reducible rfl))
          try simp only [Act.put, List.setIfInBounds_toArray, List.set_cons_zero, List.set_cons_succ]
          refine takeG (some 82) (i := 6) (v := ?vlff6) rfl rfl (by kernel_rfl) (by kernel_rfl) (by kernel_rfl) (fun _ _ _ h => h) (Or.inl ⟨by rfl, ?hlff6⟩) hS0 ?rlff6
          case hlff6 => (intro w hw; obtain ⟨⟨n0, n1, n2⟩, n3⟩ := HS.out _ hw; go_simp; try (with_reducible rfl))
          try simp only [Act.put, List.setIfInBounds_toArray, List.set_cons_zero, List.set_cons_succ]
          refine takeG (some 83) (i := 7) (v := ?vlff7) rfl rfl (by kernel_rfl) (by kernel_rfl) (by kernel_rfl) (fun _ _ _ h => h) (Or.inl ⟨by rfl, ?hlff7⟩) hS0 ?rlff7
          case hlff7 => (intro w hw; obtain ⟨⟨n0, n1, n2⟩, n3⟩ := HS.out _ hw; go_simp; try (with_reducible rfl))
          try simp only [Act.put, List.setIfInBounds_toArray, List.set_cons_zero, List.set_cons_succ]
          refine takeG (some 84) (i := 8) (v := ?vlff8) rfl rfl (by kernel_rfl) (by kernel_rfl) (by kernel_rfl) (fun _ _ _ h => h) (Or.inl ⟨by rfl, ?hlff8⟩) hS0 ?rlff8
          case hlff8 => (intro w hw; obtain ⟨⟨n0, n1, n2⟩, n3⟩ := HS.out _ hw; go_simp; try (with_reducible rfl))
          try simp only [Act.put, List.setIfInBounds_toArray, List.set_cons_zero, List.set_cons_succ]
          refine takeG (some 85) (i := 9) (v := ?vlff9) rfl rfl (by kernel_rfl) (by kernel_rfl) (by kernel_rfl) (fun _ _ _ h => h) (Or.inl ⟨by rfl, ?hlff9⟩) hS0 ?rlff9
          case hlff9 => (intro w hw; obtain ⟨⟨n0, n1, n2⟩, n3⟩ := HS.out _ hw; go_simp; try (with_reducible rfl))
          try simp only [Act.put, List.setIfInBounds_toArray, List.set_cons_zero, List.set_cons_succ]
          refine wpAnyH_ready (rs := [4]) (by kernel_rfl) (by simp) ?_
          refine AllReadyH.cons rfl (fun K hK => ?_) AllReadyH.nil
          go_simp
          refine (CH1.out _ hS0).mono ?_
          rintro e y1 ⟨rfl, j1⟩
          show K _ _
          have s1 := below_then hS0 j1
          refine hK.out _ _ s1 (fun _ => ?_)
          clear hK K
          refine wpAnyH_ready (rs := [10]) (by kernel_rfl) (by simp) ?_
          refine AllReadyH.cons rfl (fun K hK => ?_) AllReadyH.nil
          go_simp
          refine (CH2.out _ s1).mono ?_
          rintro e y2 ⟨rfl, j2⟩
          show K _ _
          have s2 := below_then s1 j2
          refine hK.out _ _ s2 (fun _ => ?_)
          clear hK K
          refine takeG (some 87) (i := 11) (v := ?vlff11) rfl rfl (by kernel_rfl) (by kernel_rfl) (by kernel_rfl) (fun _ _ _ h => h) (Or.inl ⟨by rfl, ?hlff11⟩) s2 ?rlff11
          case hlff11 => (intro w hw; obtain ⟨⟨n0, n1, n2⟩, n3⟩ := HS.out _ hw; go_simp; try (with_reducible rfl))
          try simp only [Act.put, List.setIfInBounds_toArray, List.set_cons_zero, List.set_cons_succ]
          refine wpAnyH_done (by kernel_rfl) ?_ _
          clear hb kd j1 j2 s1
          go_wp2_with fail
          go_roundw
          case rel => exact ⟨j + 1, by omega, by omega, rfl, s2⟩
          case measure => simp [intOf]; omega
      · go_wp2_with fail
        go_ret
        exact ⟨rfl, HF.out _ hb⟩
  | true =>
    have yv := HV.out _ hb7
    go_wp2_with (with_reducible refine wpList_load_rel yv rfl _ rfl rfl ?_)
    refine (CKE.out _ hb7).mono ?_
    rintro e w8 ⟨rfl, h8⟩
    have hb := below_then hb7 h8
    clear hb7 h8 CKE yv
    go_wp2_with fail
    go_loopw [10] (fun bv wr => ∃ (k b : Nat), k ≤ 6 ∧ bv = .int .i64 b ∧ b = 2 ^ k ∧ Below w5.heap.size w5 wr) (fun bv _ => 64 - (intOf bv).toNat)
    case atStart => exact ⟨0, 1, by omega, rfl, rfl, hb⟩
    case round =>
      clear hb
      obtain ⟨k, b, hk, rfl, hbk, hb⟩ := hrel
      by_cases hk6 : k < 6
      · have hp := pow_lt6 ⟨k, hk6⟩
        simp only at hp
        have hb32 : b ≤ 32 := by omega
        have hb0 : 0 < b := by omega
        have hbi : (b : Int) ≤ 32 := by omega
        have CH1 := Lib.hid (fun wx => rl_has kn b hkl hb0 hb32 wx)
        have CH2 := Lib.hid (CKR.out b (by omega))
        have HE : Hid (keepsR h b l m = hasT kn b) := Lib.hid (by rw [hbk]; first | exact HKH.out rfl k hk6 | exact HKH.out trivial k hk6)
        have HN : Hid (b * 2 = 2 ^ (k + 1)) := Lib.hid (by rw [hbk, Nat.pow_succ])
        rw [HE.out] at CH2
        clear hbk hp HE
        generalize hasT kn b = s at *
        have kd := hb.drew
        go_upto_region 17 with fail
        cases s with
        | true =>
          refine wp_region_held_drew (S := Below w5.heap.size w5) (by kernel_rfl) kd (fun hS0 => ?_)
          refine takeG (some 62) (i := 0) (v := ?vkbt0) rfl rfl (by kernel_rfl) (by kernel_rfl) (by kernel_rfl) (fun _ _ _ h => h) (Or.inl ⟨by rfl, ?hkbt0⟩) hS0 ?rkbt0
          case hkbt0 => (intro w hw; obtain ⟨⟨n0, n1, n2⟩, n3⟩ := HS.out _ hw; go_simp; try (with_reducible rfl))
          try simp only [Act.put, List.setIfInBounds_toArray, List.set_cons_zero, List.set_cons_succ]
          refine takeG (some 63) (i := 1) (v := ?vkbt1) rfl rfl (by kernel_rfl) (by kernel_rfl) (by kernel_rfl) (fun _ _ _ h => h) (Or.inl ⟨by rfl, ?hkbt1⟩) hS0 ?rkbt1
          case hkbt1 => (intro w hw; obtain ⟨⟨n0, n1, n2⟩, n3⟩ := HS.out _ hw; go_simp; try (with_reducible rfl))
          try simp only [Act.put, List.setIfInBounds_toArray, List.set_cons_zero, List.set_cons_succ]
          refine takeG (some 65) (i := 3) (v := ?vkbt3) rfl rfl (by kernel_rfl) (by kernel_rfl) (by kernel_rfl) (fun _ _ _ h => h) (Or.inl ⟨by rfl, ?hkbt3⟩) hS0 ?rkbt3
          case hkbt3 => (intro w hw; obtain ⟨⟨n0, n1, n2⟩, n3⟩ := HS.out _ hw; go_simp; try (with_reducible rfl))
          try simp only [Act.put, List.setIfInBounds_toArray, List.set_cons_zero, List.set_cons_succ]
          refine takeG (some 66) (i := 4) (v := ?vkbt4) rfl rfl (by kernel_rfl) (by kernel_rfl) (by kernel_rfl) (fun _ _ _ h => h) (Or.inl ⟨by rfl, ?hkbt4⟩) hS0 ?rkbt4
          case hkbt4 => (intro w hw; obtain ⟨⟨n0, n1, n2⟩, n3⟩ := HS.out _ hw; go_simp; try (with_reducible rfl))
          try simp only [Act.put, List.setIfInBounds_toArray, List.set_cons_zero, List.set_cons_succ]
          refine takeG (some 67) (i := 5) (v := ?vkbt5) rfl rfl (by kernel_rfl) (by kernel_rfl) (by kernel_rfl) (fun _ _ _ h => h) (Or.inl ⟨by rfl, ?hkbt5⟩) hS0 ?rkbt5
          case hkbt5 => (intro w hw; obtain ⟨⟨n0, n1, n2⟩, n3⟩ := HS.out _ hw; go_simp; try (with_reducible rfl))
          try simp only [Act.put, List.setIfInBounds_toArray, List.set_cons_zero, List.set_cons_succ]
          refine takeG (some 68) (i := 6) (v := ?vkbt6) rfl rfl (by kernel_rfl) (by kernel_rfl) (by kernel_rfl) (fun _ _ _ h => h) (Or.inl ⟨by rfl, ?hkbt6⟩) hS0 ?rkbt6
          case hkbt6 => (intro w hw; obtain ⟨⟨n0, n1, n2⟩, n3⟩ := HS.out _ hw; go_simp; try (with_reducible rfl))
          try simp only [Act.put, List.setIfInBounds_toArray, List.set_cons_zero, List.set_cons_succ]
          refine takeG (some 69) (i := 7) (v := ?vkbt7) rfl rfl (by kernel_rfl) (by kernel_rfl) (by kernel_rfl) (fun _ _ _ h => h) (Or.inl ⟨by rfl, ?hkbt7⟩) hS0 ?rkbt7
          case hkbt7 => (intro w hw; obtain ⟨⟨n0, n1, n2⟩, n3⟩ := HS.out _ hw; go_simp; try (with_reducible rfl))
          try simp only [Act.put, List.setIfInBounds_toArray, List.set_cons_zero, List.set_cons_succ]
          refine wpAnyH_ready (rs := [2]) (by kernel_rfl) (by simp) ?_
          refine AllReadyH.cons rfl (fun K hK => ?_) AllReadyH.nil
          go_simp
          refine (CH1.out _).mono ?_
          rintro e y1 ⟨rfl, rfl⟩
          show K _ _
          refine hK.out _ _ hS0 (fun _ => ?_)
          clear hK K
          refine wpAnyH_ready (rs := [8]) (by kernel_rfl) (by simp) ?_
          refine AllReadyH.cons rfl (fun K hK => ?_) AllReadyH.nil
          go_simp
          refine (CH2.out _ hS0).mono ?_
          rintro e y2 ⟨rfl, j2⟩
          show K _ _
          have s2 := below_then hS0 j2
          refine hK.out _ _ s2 (fun _ => ?_)
          clear hK K
          refine takeG (some 71) (i := 9) (v := ?vkbt9) rfl rfl (by kernel_rfl) (by kernel_rfl) (by kernel_rfl) (fun _ _ _ h => h) (Or.inl ⟨by rfl, ?hkbt9⟩) s2 ?rkbt9
          case hkbt9 => (intro w hw; obtain ⟨⟨n0, n1, n2⟩, n3⟩ := HS.out _ hw; go_simp; try (with_reducible rfl))
          try simp only [Act.put, List.setIfInBounds_toArray, List.set_cons_zero, List.set_cons_succ]
          refine wpAnyH_done (by kernel_rfl) ?_ _
          clear hb kd j2 CH1 CH2
          go_wp2_with fail
          go_roundw
          case rel => exact ⟨k + 1, b * 2, by omega, by go_num, HN.out, s2⟩
          case measure => simp [intOf]; omega
        | false =>
          refine wp_region_held_drew (S := Below w5.heap.size w5) (by kernel_rfl) kd (fun hS0 => ?_)
          refine takeG (some 62) (i := 0) (v := ?vkbf0) rfl rfl (by kernel_rfl) (by kernel_rfl) (by kernel_rfl) (fun _ _ _ h => h) (Or.inl ⟨by rfl, ?hkbf0⟩) hS0 ?rkbf0
          case hkbf0 => (intro w hw; obtain ⟨⟨n0, n1, n2⟩, n3⟩ := HS.out _ hw; go_simp; try (with_reducible rfl))
          try simp only [Act.put, List.setIfInBounds_toArray, List.set_cons_zero, List.set_cons_succ]
          refine takeG (some 63) (i := 1) (v := ?vkbf1) rfl rfl (by kernel_rfl) (by kernel_rfl) (by kernel_rfl) (fun _ _ _ h => h) (Or.inl ⟨by rfl, ?hkbf1⟩) hS0 ?rkbf1
          case hkbf1 => (intro w hw; obtain ⟨⟨n0, n1, n2⟩, n3⟩ := HS.out _ hw; go_simp; try (with_reducible rfl))
          try simp only [Act.put, List.setIfInBounds_toArray, List.set_cons_zero, List.set_cons_succ]
          refine takeG (some 65) (i := 3) (v := ?vkbf3) rfl rfl (by kernel_rfl) (by kernel_rfl) (by kernel_rfl) (fun _ _ _ h => h) (Or.inl ⟨by rfl, ?hkbf3⟩) hS0 ?rkbf3
          case hkbf3 => (intro w hw; obtain ⟨⟨n0, n1, n2⟩, n3⟩ := HS.out _ hw; go_simp; try (with_reducible rfl))
          try simp only [Act.put, List.setIfInBounds_toArray, List.set_cons_zero, List.set_cons_succ]
          refine takeG (some 66) (i := 4) (v := ?vkbf4) rfl rfl (by kernel_rfl) (by kernel_rfl) (by kernel_rfl) (fun _ _ _ h => h) (Or.inl ⟨by rfl, ?hkbf4⟩) hS0 ?rkbf4
          case hkbf4 => (intro w hw; obtain ⟨⟨n0, n1, n2⟩, n3⟩ := HS.out _ hw; go_simp; try (with_reducible rfl))
          try simp only [Act.put, List.setIfInBounds_toArray, List.set_cons_zero, List.set_cons_succ]
          refine takeG (some 67) (i := 5) (v := ?vkbf5) rfl rfl (by kernel_rfl) (by kernel_rfl) (by kernel_rfl) (fun _ _ _ h => h) (Or.inl ⟨by rfl, ?hkbf5⟩) hS0 ?rkbf5
          case hkbf5 => (intro w hw; obtain ⟨⟨n0, n1, n2⟩, n3⟩ := HS.out _ hw; go_simp; try (with_reducible rfl))
          try simp only [Act.put, List.setIfInBounds_toArray, List.set_cons_zero, List.set_cons_succ]
          refine takeG (some 68) (i := 6) (v := ?vkbf6) rfl rfl (by kernel_rfl) (by kernel_rfl) (by kernel_rfl) (fun _ _ _ h => h) (Or.inl ⟨by rfl, ?hkbf6⟩) hS0 ?rkbf6
          case hkbf6 => (intro w hw; obtain ⟨⟨n0, n1, n2⟩, n3⟩ := HS.out _ hw; go_simp; try (with_reducible rfl))
          try simp only [Act.put, List.setIfInBounds_toArray, List.set_cons_zero, List.set_cons_succ]
          refine takeG (some 69) (i := 7) (v := ?vkbf7) rfl rfl (by kernel_rfl) (by kernel_rfl) (by kernel_rfl) (fun _ _ _ h => h) (Or.inl ⟨by rfl, ?hkbf7⟩) hS0 ?rkbf7
          case hkbf7 => (intro w hw; obtain ⟨⟨n0, n1, n2⟩, n3⟩ := HS.out _ hw; go_simp; try (with_reducible rfl))
          try simp only [Act.put, List.setIfInBounds_toArray, List.set_cons_zero, List.set_cons_succ]
          refine wpAnyH_ready (rs := [2]) (by kernel_rfl) (by simp) ?_
          refine AllReadyH.cons rfl (fun K hK => ?_) AllReadyH.nil
          go_simp
          refine (CH1.out _).mono ?_
          rintro e y1 ⟨rfl, rfl⟩
          show K _ _
          refine hK.out _ _ hS0 (fun _ => ?_)
          clear hK K
          refine wpAnyH_ready (rs := [8]) (by kernel_rfl) (by simp) ?_
          refine AllReadyH.cons rfl (fun K hK => ?_) AllReadyH.nil
          go_simp
          refine (CH2.out _ hS0).mono ?_
          rintro e y2 ⟨rfl, j2⟩
          show K _ _
          have s2 := below_then hS0 j2
          refine hK.out _ _ s2 (fun _ => ?_)
          clear hK K
          refine takeG (some 71) (i := 9) (v := ?vkbf9) rfl rfl (by kernel_rfl) (by kernel_rfl) (by kernel_rfl) (fun _ _ _ h => h) (Or.inl ⟨by rfl, ?hkbf9⟩) s2 ?rkbf9
          case hkbf9 => (intro w hw; obtain ⟨⟨n0, n1, n2⟩, n3⟩ := HS.out _ hw; go_simp; try (with_reducible rfl))
          try simp only [Act.put, List.setIfInBounds_toArray, List.set_cons_zero, List.set_cons_succ]
          refine wpAnyH_done (by kernel_rfl) ?_ _
          clear hb kd j2 CH1 CH2
          go_wp2_with fail
          go_roundw
          case rel => exact ⟨k + 1, b * 2, by omega, by go_num, HN.out, s2⟩
          case measure => simp [intOf]; omega
      · have hk7 : k = 6 := by omega
        have hbn : ¬ (b : Int) ≤ 32 := by rw [hbk, hk7]; decide
        clear hbk hk7
        go_wp2_with fail
        clear HKH CKR
        go_loopw [11] (fun iv wr => ∃ j : Int, -1 ≤ j ∧ j ≤ 13 ∧ iv = .int .i64 j ∧ Below w5.heap.size w5 wr) (fun iv _ => (13 - intOf iv).toNat)
        case atStart => exact ⟨-1, by omega, by omega, rfl, hb⟩
        case round =>
          clear hb
          obtain ⟨j, hj0, hj1, rfl, hb⟩ := hrel
          by_cases hlt : j ≤ 12
          · have CH1 := Lib.hid (CHB.out j)
            have CH2 := Lib.hid (CHR.out j)
            rw [HSM.out j] at CH1
            generalize holdsR h j l m = s at *
            have kd := hb.drew
            go_upto_region 22 with fail
            cases s with
            | true =>
              refine wp_region_held_drew (S := Below w5.heap.size w5) (by kernel_rfl) kd (fun hS0 => ?_)
              refine takeG (some 76) (i := 0) (v := ?vltt0) rfl rfl (by kernel_rfl) (by kernel_rfl) (by kernel_rfl) (fun _ _ _ h => h) (Or.inl ⟨by rfl, ?hltt0⟩) hS0 ?rltt0
              case hltt0 => (intro w hw; obtain ⟨⟨n0, n1, n2⟩, n3⟩ := HS.out _ hw; go_simp; try (with_reducible rfl))
              try simp only [Act.put, List.setIfInBounds_toArray, List.set_cons_zero, List.set_cons_succ]
              refine takeG (some 77) (i := 1) (v := ?vltt1) rfl rfl (by kernel_rfl) (by kernel_rfl) (by kernel_rfl) (fun _ _ _ h => h) (Or.inl ⟨by rfl, ?hltt1⟩) hS0 ?rltt1
              case hltt1 => (intro w hw; obtain ⟨⟨n0, n1, n2⟩, n3⟩ := HS.out _ hw; go_simp; try (with_reducible rfl))
              try simp only [Act.put, List.setIfInBounds_toArray, List.set_cons_zero, List.set_cons_succ]
              refine takeG (some 78) (i := 2) (v := ?vltt2) rfl rfl (by kernel_rfl) (by kernel_rfl) (by kernel_rfl) (fun _ _ _ h => h) (Or.inl ⟨by rfl, ?hltt2⟩) hS0 ?rltt2
              case hltt2 => (intro w hw; obtain ⟨⟨n0, n1, n2⟩, n3⟩ := HS.out _ hw; go_simp; try (with_reducible rfl))
              try simp only [Act.put, List.setIfInBounds_toArray, List.set_cons_zero, List.set_cons_succ]
              refine takeG (some 79) (i := 3) (v := _) rfl rfl (by kernel_rfl) (by kernel_rfl) (by kernel_rfl) (fun _ _ _ h => h) (yields_rel (by rfl) _ rfl rfl HV.out) hS0 ?_
              try simp only [Act.put, List.setIfInBounds_toArray, List.set_cons_zero, List.set_cons_succ]
              refine takeG (some 81) (i := 5) (v := ?vltt5) rfl rfl (by kernel_rfl) (by kernel_rfl) (by kernel_rfl) (fun _ _ _ h => h) (Or.inl ⟨by rfl, ?hltt5⟩) hS0 ?rltt5
              case hltt5 => (intro w hw; obtain ⟨⟨n0, n1, n2⟩, n3⟩ := HS.out _ hw; go_simp; try (with_reducible rfl))
              try simp only [Act.put, List.setIfInBounds_toArray, List.set_cons_zero, List.set_cons_succ]
              refine takeG (some 82) (i := 6) (v := ?vltt6) rfl rfl (by kernel_rfl) (by kernel_rfl) (by kernel_rfl) (fun _ _ _ h => h) (Or.inl ⟨by rfl, ?hltt6⟩) hS0 ?rltt6
              case hltt6 => (intro w hw; obtain ⟨⟨n0, n1, n2⟩, n3⟩ := HS.out _ hw; go_simp; try (with_reducible rfl))
              try simp only [Act.put, List.setIfInBounds_toArray, List.set_cons_zero, List.set_cons_succ]
              refine takeG (some 83) (i := 7) (v := ?vltt7) rfl rfl (by kernel_rfl) (by kernel_rfl) (by kernel_rfl) (fun _ _ _ h => h) (Or.inl ⟨by rfl, ?hltt7⟩) hS0 ?rltt7
              case hltt7 => (intro w hw; obtain ⟨⟨n0, n1, n2⟩, n3⟩ := HS.out _ hw; go_simp; try (with_reducible rfl))
              try simp only [Act.put, List.setIfInBounds_toArray, List.set_cons_zero, List.set_cons_succ]
              refine takeG (some 84) (i := 8) (v := ?vltt8) rfl rfl (by kernel_rfl) (by kernel_rfl) (by kernel_rfl) (fun _ _ _ h => h) (Or.inl ⟨by rfl, ?hltt8⟩) hS0 ?rltt8
              case hltt8 => (intro w hw; obtain ⟨⟨n0, n1, n2⟩, n3⟩ := HS.out _ hw; go_simp; try (with_reducible rfl))
              try simp only [Act.put, List.setIfInBounds_toArray, List.set_cons_zero, List.set_cons_succ]
              refine takeG (some 85) (i := 9) (v := ?vltt9) rfl rfl (by kernel_rfl) (by kernel_rfl) (by kernel_rfl) (fun _ _ _ h => h) (Or.inl ⟨by rfl, ?hltt9⟩) hS0 ?rltt9
              case hltt9 => (intro w hw; obtain ⟨⟨n0, n1, n2⟩, n3⟩ := HS.out _ hw; go_simp; try (with_reducible rfl))
              try simp only [Act.put, List.setIfInBounds_toArray, List.set_cons_zero, List.set_cons_succ]
              refine wpAnyH_ready (rs := [4]) (by kernel_rfl) (by simp) ?_
              refine AllReadyH.cons rfl (fun K hK => ?_) AllReadyH.nil
              go_simp
              refine (CH1.out _ hS0).mono ?_
              rintro e y1 ⟨rfl, j1⟩
              show K _ _
              have s1 := below_then hS0 j1
              refine hK.out _ _ s1 (fun _ => ?_)
              clear hK K
              refine wpAnyH_ready (rs := [10]) (by kernel_rfl) (by simp) ?_
              refine AllReadyH.cons rfl (fun K hK => ?_) AllReadyH.nil
              go_simp
              refine (CH2.out _ s1).mono ?_
              rintro e y2 ⟨rfl, j2⟩
              show K _ _
              have s2 := below_then s1 j2
              refine hK.out _ _ s2 (fun _ => ?_)
              clear hK K
              refine takeG (some 87) (i := 11) (v := ?vltt11) rfl rfl (by kernel_rfl) (by kernel_rfl) (by kernel_rfl) (fun _ _ _ h => h) (Or.inl ⟨by rfl, ?hltt11⟩) s2 ?rltt11
              case hltt11 => (intro w hw; obtain ⟨⟨n0, n1, n2⟩, n3⟩ := HS.out _ hw; go_simp; try (with_reducible rfl))
              try simp only [Act.put, List.setIfInBounds_toArray, List.set_cons_zero, List.set_cons_succ]
              refine wpAnyH_done (by kernel_rfl) ?_ _
              clear hb kd j1 j2 s1
              go_wp2_with fail
              go_roundw
              case rel => exact ⟨j + 1, by omega, by omega, rfl, s2⟩
              case measure => simp [intOf]; omega
            | false =>
              refine wp_region_held_drew (S := Below w5.heap.size w5) (by kernel_rfl) kd (fun hS0 => ?_)
              refine takeG (some 76) (i := 0) (v := ?vltf0) rfl rfl (by kernel_rfl) (by kernel_rfl) (by kernel_rfl) (fun _ _ _ h => h) (Or.inl ⟨by rfl, ?hltf0⟩) hS0 ?rltf0
              case hltf0 => (intro w hw; obtain ⟨⟨n0, n1, n2⟩, n3⟩ := HS.out _ hw; go_simp; try (with_reducible rfl))
              try simp only [Act.put, List.setIfInBounds_toArray, List.set_cons_zero, List.set_cons_succ]
              refine takeG (some 77) (i := 1) (v := ?vltf1) rfl rfl (by kernel_rfl) (by kernel_rfl) (by kernel_rfl) (fun _ _ _ h => h) (Or.inl ⟨by rfl, ?hltf1⟩) hS0 ?rltf1
              case hltf1 => (intro w hw; obtain ⟨⟨n0, n1, n2⟩, n3⟩ := HS.out _ hw; go_simp; try (with_reducible rfl))
              try simp only [Act.put, List.setIfInBounds_toArray, List.set_cons_zero, List.set_cons_succ]
              refine takeG (some 78) (i := 2) (v := ?vltf2) rfl rfl (by kernel_rfl) (by kernel_rfl) (by kernel_rfl) (fun _ _ _ h => h) (Or.inl ⟨by rfl, ?hltf2⟩) hS0 ?rltf2
              case hltf2 => (intro w hw; obtain ⟨⟨n0, n1, n2⟩, n3⟩ := HS.out _ hw; go_simp; try (with_reducible rfl))
              try simp only [Act.put, List.setIfInBounds_toArray, List.set_cons_zero, List.set_cons_succ]
              refine takeG (some 79) (i := 3) (v := _) rfl rfl (by kernel_rfl) (by kernel_rfl) (by kernel_rfl) (fun _ _ _ h => h) (yields_rel (by rfl) _ rfl rfl HV.out) hS0 ?_
              try simp only [Act.put, List.setIfInBounds_toArray, List.set_cons_zero, List.set_cons_succ]
              refine takeG (some 81) (i := 5) (v := ?vltf5) rfl rfl (by kernel_rfl) (by kernel_rfl) (by kernel_rfl) (fun _ _ _ h => h) (Or.inl ⟨by rfl, ?hltf5⟩) hS0 ?rltf5
              case hltf5 => (intro w hw; obtain ⟨⟨n0, n1, n2⟩, n3⟩ := HS.out _ hw; go_simp; try (with_reducible rfl))
              try simp only [Act.put, List.setIfInBounds_toArray, List.set_cons_zero, List.set_cons_succ]
              refine takeG (some 82) (i := 6) (v := ?vltf6) rfl rfl (by kernel_rfl) (by kernel_rfl) (by kernel_rfl) (fun _ _ _ h => h) (Or.inl ⟨by rfl, ?hltf6⟩) hS0 ?rltf6
              case hltf6 => (intro w hw; obtain ⟨⟨n0, n1, n2⟩, n3⟩ := HS.out _ hw; go_simp; try (with_reducible rfl))
              try simp only [Act.put, List.setIfInBounds_toArray, List.set_cons_zero, List.set_cons_succ]
              refine takeG (some 83) (i := 7) (v := ?vltf7) rfl rfl (by kernel_rfl) (by kernel_rfl) (by kernel_rfl) (fun _ _ _ h => h) (Or.inl ⟨by rfl, ?hltf7⟩) hS0 ?rltf7
              case hltf7 => (intro w hw; obtain ⟨⟨n0, n1, n2⟩, n3⟩ := HS.out _ hw; go_simp; try (with_reducible rfl))
              try simp only [Act.put, List.setIfInBounds_toArray, List.set_cons_zero, List.set_cons_succ]
              refine takeG (some 84) (i := 8) (v := ?vltf8) rfl rfl (by kernel_rfl) (by kernel_rfl) (by kernel_rfl) (fun _ _ _ h => h) (Or.inl ⟨by rfl, ?hltf8⟩) hS0 ?rltf8
              case hltf8 => (intro w hw; obtain ⟨⟨n0, n1, n2⟩, n3⟩ := HS.out _ hw; go_simp; try (with_reducible rfl))
              try simp only [Act.put, List.setIfInBounds_toArray, List.set_cons_zero, List.set_cons_succ]
              refine takeG (some 85) (i := 9) (v := ?vltf9) rfl rfl (by kernel_rfl) (by kernel_rfl) (by kernel_rfl) (fun _ _ _ h => h) (Or.inl ⟨by rfl, ?hltf9⟩) hS0 ?rltf9
              case hltf9 => (intro w hw; obtain ⟨⟨n0, n1, n2⟩, n3⟩ := HS.out _ hw; go_simp; try (with_reducible rfl))
              try simp only [Act.put, List.setIfInBounds_toArray, List.set_cons_zero, List.set_cons_succ]
              refine wpAnyH_ready (rs := [4]) (by kernel_rfl) (by simp) ?_
              refine AllReadyH.cons rfl (fun K hK => ?_) AllReadyH.nil
              go_simp
              refine (CH1.out _ hS0).mono ?_
              rintro e y1 ⟨rfl, j1⟩
              show K _ _
              have s1 := below_then hS0 j1
              refine hK.out _ _ s1 (fun _ => ?_)
              clear hK K
              refine wpAnyH_ready (rs := [10]) (by kernel_rfl) (by simp) ?_
              refine AllReadyH.cons rfl (fun K hK => ?_) AllReadyH.nil
              go_simp
              refine (CH2.out _ s1).mono ?_
              rintro e y2 ⟨rfl, j2⟩
              show K _ _
              have s2 := below_then s1 j2
              refine hK.out _ _ s2 (fun _ => ?_)
              clear hK K
              refine takeG (some 87) (i := 11) (v := ?vltf11) rfl rfl (by kernel_rfl) (by kernel_rfl) (by kernel_rfl) (fun _ _ _ h => h) (Or.inl ⟨by rfl, ?hltf11⟩) s2 ?rltf11
              case hltf11 => (intro w hw; obtain ⟨⟨n0, n1, n2⟩, n3⟩ := HS.out _ hw; go_simp; try (with_reducible rfl))
              try simp only [Act.put, List.setIfInBounds_toArray, List.set_cons_zero, List.set_cons_succ]
              refine wpAnyH_done (by kernel_rfl) ?_ _
              clear hb kd j1 j2 s1
              go_wp2_with fail
              go_roundw
              case rel => exact ⟨j + 1, by omega, by omega, rfl, s2⟩
              case measure => simp [intOf]; omega
          · go_wp2_with fail
            go_ret
            exact ⟨rfl, HF.out _ hb⟩
end Go.Proofs.YtkaldidcekcpnaaGreatDoor
