/- Walks and plain facts that the proof of the statement BruteDecides uses, joined: BrcA BruW BruX AxhN BruY BrcB. Conditions: each theorem's own. -/
import Derived.Test.YtecpeegbfeijaaaGreatDoorPBruteDecides3
import Derived.Test.YtecpeegbfeijaaaGreatDoorPBruteDecides9
import Derived.Test.YtecpeegbfeijaaaGreatDoorPBruteDecides10
namespace Go.Proofs.YtecpeegbfeijaaaGreatDoor
set_option maxRecDepth 100000
open Go.RowKit

theorem filter_without {L : List Nat} (hnd : L.Nodup) {i : Nat} (hi : i < L.length) : L.filter (· != L[i]) = L.take i ++ L.drop (i + 1) := by
  have e : L = L.take i ++ L[i] :: L.drop (i + 1) := by rw [← List.drop_eq_getElem_cons hi, List.take_append_drop]
  have key : ∀ (A : List Nat) (x : Nat) (B : List Nat), (A ++ x :: B).Nodup → (A ++ x :: B).filter (· != x) = A ++ B := fun A x B h => by
    obtain ⟨_, h2, h3⟩ := List.nodup_append.1 h
    obtain ⟨h4, _⟩ := List.nodup_cons.1 h2
    rw [List.filter_append, List.filter_cons, if_neg (by simp), List.filter_eq_self.2 (fun a ha => by simpa using h3 a ha x (List.mem_cons_self ..)), List.filter_eq_self.2 (fun a ha => by
      rw [bne_iff_ne]; rintro rfl; exact h4 ha)]
  have := key (L.take i) L[i] (L.drop (i + 1)) (by rw [← e]; exact hnd)
  rw [← e] at this; exact this
theorem cnl_le (p : List Nat → Bool) : ∀ (k : Nat) (r left : List Nat), left.length ≤ 5 → cntL p k r left ≤ 5 ^ k
  | 0, r, left, _ => by unfold cntL; split <;> omega
  | k + 1, r, left, h => by
    unfold cntL
    have key : ∀ l : List Nat, ((l.map fun x => cntL p k (r ++ [x]) (left.filter (· != x))).sum) ≤ l.length * 5 ^ k := fun l => by
      induction l with
      | nil => simp
      | cons a l ih =>
        rw [List.map_cons, List.sum_cons, List.length_cons, Nat.succ_mul]
        have := cnl_le p k (r ++ [a]) (left.filter (· != a)) (Nat.le_trans (List.length_filter_le _ _) h)
        omega
    have := key left
    rw [Nat.pow_succ, Nat.mul_comm (5 ^ k) 5]
    exact Nat.le_trans this (Nat.mul_le_mul_right _ h)
/-- As far as the first j of those left. -/
def cnlTo (p : List Nat → Bool) (k : Nat) (r left : List Nat) (j : Nat) : Nat := ((left.take j).map fun x => cntL p k (r ++ [x]) (left.filter (· != x))).sum
theorem cnlTo_succ {p : List Nat → Bool} {k : Nat} {r left : List Nat} {j : Nat} (hj : j < left.length) (hnd : left.Nodup) : cnlTo p k r left (j + 1) = cnlTo p k r left j + cntL p k (r ++ [left[j]]) (left.take j ++ left.drop (j + 1)) := by
  unfold cnlTo
  rw [List.take_succ_eq_append_getElem hj, List.map_append, List.sum_append, ← filter_without hnd hj]; simp
theorem cnlTo_all (p : List Nat → Bool) (k : Nat) (r left : List Nat) : cnlTo p k r left left.length = cntL p (k + 1) r left := by unfold cnlTo; rw [List.take_length]; rfl
theorem cnlTo_le {p : List Nat → Bool} {k : Nat} {r left : List Nat} {j : Nat} (h : left.length ≤ 5) (hk : k ≤ 4) : cnlTo p k r left j ≤ 3125 := by
  have key : ∀ l : List Nat, ((l.map fun x => cntL p k (r ++ [x]) (left.filter (· != x))).sum) ≤ l.length * 5 ^ k := fun l => by
    induction l with
    | nil => simp
    | cons a l ih =>
      rw [List.map_cons, List.sum_cons, List.length_cons, Nat.succ_mul]
      have := cnl_le p k (r ++ [a]) (left.filter (· != a)) (Nat.le_trans (List.length_filter_le _ _) h)
      omega
  have h1 := key (left.take j)
  have h2 : (left.take j).length ≤ 5 := by rw [List.length_take]; omega
  have h3 : 5 ^ k ≤ 5 ^ 4 := Nat.pow_le_pow_right (by decide) hk
  exact Nat.le_trans h1 (Nat.le_trans (Nat.mul_le_mul h2 h3) (by decide))
set_option linter.unusedSimpArgs false in
set_option maxRecDepth 100000 in
set_option maxHeartbeats 16000000 in
theorem rcount_any (va : Value) (h : List TxnV) (lv : Int) (hc : checkI h = 0) (hn : h.length ≤ 5) :
    ∀ (k : Nat) (vr vl : Value) (r left : List Nat) (w : World), left.length = k → (r ++ left).Perm (List.range h.length) → Txns w va h → Ints w vr (r.map Int.ofNat) → Ints w vl (left.map Int.ofNat) →
      Calls Tryz.prog 70 #[va, .int .i64 lv, vr, vl, .bool false] w fun e w' => e = .returned (.int .i64 ((cntL (keptL h lv) k r left : Nat) : Int)) ∧ Below w.heap.size w w'
  | 0, vr, vl, r, left, w, hk, hp, hT, hR, hL => by
    obtain rfl : left = [] := List.eq_nil_of_length_eq_zero hk
    rw [List.append_nil] at hp
    have CI := Lib.hid (rin13_any va vr h lv r w hc hp hT hR)
    have HV : Hid ((if keptL h lv r then 1 else 0) = cntL (keptL h lv) 0 r []) := Lib.hid rfl
    obtain ⟨ho, hcap, rfl, _⟩ := hT.form
    obtain ⟨ao, cap, rfl, _⟩ := hR.form
    obtain ⟨lo, lcap, rfl, _⟩ := hL.form
    simp only [List.length_map] at CI
    rw [List.length_map, List.map_nil, List.length_nil]
    generalize cntL (keptL h lv) 0 r [] = cn at *
    clear hT hR hL hp hk
    cases hkk : keptL h lv r with
    | true =>
      rw [hkk] at CI HV
      have HV2 : Hid ((1 : Int) = (cn : Int)) := Lib.hid (by have := HV.out; simp at this; omega)
      clear HV hkk
      go_enter Tryz.func70, Tryz.ntmps70
      go_wp2_with fail
      refine (CI.out).mono ?_
      rintro e w1 ⟨⟨v1, rfl, _⟩, h1⟩
      go_wp2_with fail
      go_ret
      exact ⟨ret_i HV2.out, h1⟩
    | false =>
      rw [hkk] at CI HV
      have HV2 : Hid ((0 : Int) = (cn : Int)) := Lib.hid (by have := HV.out; simp at this; omega)
      clear HV hkk
      go_enter Tryz.func70, Tryz.ntmps70
      go_wp2_with fail
      refine (CI.out).mono ?_
      rintro e w1 ⟨⟨v1, rfl, _⟩, h1⟩
      go_wp2_with fail
      go_ret
      exact ⟨ret_i HV2.out, h1⟩
  | k + 1, vr, vl, r, left, w, hk, hp, hT, hR, hL => by
    have IH := Lib.hid (fun vr vl r left w a b c d e => rcount_any va h lv hc hn k vr vl r left w a b c d e)
    have hll : r.length + left.length = h.length := by have := hp.length_eq; simpa using this
    have hndA : (r ++ left).Nodup := (List.Perm.nodup_iff hp).2 List.nodup_range
    have HND : Hid left.Nodup := Lib.hid (List.nodup_append.1 hndA).2.1
    have HP := Lib.hid hp
    have HKK := Lib.hid hk
    have HT := Lib.hid (fun wx (hx : Below w.heap.size w wx) => hT.below hx)
    have HR := Lib.hid (fun wx (hx : Below w.heap.size w wx) => hR.below hx)
    have HL := Lib.hid (fun wx (hx : Below w.heap.size w wx) => hL.below hx)
    obtain ⟨ho, hcap, rfl, _⟩ := hT.form
    obtain ⟨ao, cap, rfl, _⟩ := hR.form
    obtain ⟨lo, lcap, rfl, _⟩ := hL.form
    simp only [List.length_map] at HR HL
    rw [List.length_map, List.length_map]
    have hl5 : left.length ≤ 5 := by omega
    have HLE : Hid (r.length ≤ 1000) := Lib.hid (by omega)
    have hk4 : k ≤ 4 := by omega
    have hq0 : ((left.length : Int) == 0) = false := by rw [beq_eq_false_iff_ne]; omega
    have hb0 := Lib.hid (Below.refl w.heap.size w)
    clear hk hp hT hR hL hndA hll
    go_enter Tryz.func70, Tryz.ntmps70
    go_wp2_with fail
    go_loopw [13, 14] (fun nv iv wr => ∃ i m : Nat, i ≤ left.length ∧ m ≤ 3125 ∧ iv = .int .i64 (i : Int) ∧ nv = .int .i64 (m : Int) ∧ Hid (cnlTo (keptL h lv) k r left i = m) ∧ Hid (Below w.heap.size w wr)) (fun _ iv _ => left.length - (intOf iv).toNat)
    case atStart => exact ⟨0, 0, by omega, by omega, rfl, rfl, Lib.hid rfl, hb0⟩
    case round =>
      clear hb0
      obtain ⟨i, m, hi, hm, rfl, rfl, HM, HB⟩ := hrel
      by_cases hlt : i < left.length
      · have hlti : (i : Int) < (left.length : Int) := by omega
        obtain ⟨g, o, hgo, _⟩ := ints_at (HL.out _ HB.out) hlt
        cases hgo
        have HCl := Lib.hid (fun wx (hx : Below wr.heap.size wr wx) => by
          obtain ⟨g2, o2, e2, c2⟩ := ints_at (HL.out _ (below_then HB.out hx)) hlt
          cases e2
          exact c2)
        have HRr := Lib.hid (fun wx (hx : Below wr.heap.size wr wx) => HR.out _ (below_then HB.out hx))
        have CW := Lib.hid (fun wx (hx : Below wr.heap.size wr wx) => rwithout_any _ left i wx (HL.out _ (below_then HB.out hx)) hlt (by omega))
        have IHC := Lib.hid (fun v2 vl2 wx (hx : Below wr.heap.size wr wx) (h1 : Ints wx v2 ((r ++ [left[i]'hlt]).map Int.ofNat)) (h2 : Ints wx vl2 ((left.take i ++ left.drop (i + 1)).map Int.ofNat)) => IH.out v2 vl2 (r ++ [left[i]]) (left.take i ++ left.drop (i + 1)) wx (by have := HKK.out; simp; omega) ((perm_take r left i hlt).trans HP.out) (HT.out _ (below_then HB.out hx)) h1 h2)
        have HMS := Lib.hid (cnlTo_succ (p := keptL h lv) (k := k) (r := r) hlt HND.out)
        rw [HM.out] at HMS
        have hms := cnlTo_le (p := keptL h lv) (k := k) (r := r) (j := i + 1) hl5 hk4
        rw [HMS.out] at hms
        generalize left[i] = x at *
        generalize cntL (keptL h lv) k (r ++ [x]) (left.take i ++ left.drop (i + 1)) = cn at *
        have hwr : IntKind.i64.wrap ((m : Int) + (cn : Int)) = ((m + cn : Nat) : Int) := by rw [IntKind.wrap_i64]; omega
        have kd := (Below.refl wr.heap.size wr).drew
        have HB2 := Lib.hid (fun wx (hx : Below wr.heap.size wr wx) => below_then HB.out hx)
        clear HM HB
        go_upto_region 10 with fail
        refine wp_region_held_drew (S := Below wr.heap.size wr) (by kernel_rfl) kd (fun hS0 => ?_)
        generalize wr.drew = wd at *
        refine takeG (some 40) (i := 0) (v := ?vca0x1) rfl rfl (by kernel_rfl) (by kernel_rfl) (by kernel_rfl) (fun _ _ _ h => h) (Or.inl ⟨by rfl, ?hca0x1⟩) hS0 ?rca0x1
        case hca0x1 => (intro w _; go_simp; try (with_reducible rfl))
        try simp only [Act.put, List.setIfInBounds_toArray, List.set_cons_zero, List.set_cons_succ]
        refine takeG (some 41) (i := 1) (v := ?vca1x2) rfl rfl (by kernel_rfl) (by kernel_rfl) (by kernel_rfl) (fun _ _ _ h => h) (Or.inl ⟨by rfl, ?hca1x2⟩) hS0 ?rca1x2
        case hca1x2 => (intro w _; go_simp; try (with_reducible rfl))
        try simp only [Act.put, List.setIfInBounds_toArray, List.set_cons_zero, List.set_cons_succ]
        refine takeG (some 42) (i := 2) (v := ?vca2x3) rfl rfl (by kernel_rfl) (by kernel_rfl) (by kernel_rfl) (fun _ _ _ h => h) (Or.inl ⟨by rfl, ?hca2x3⟩) hS0 ?rca2x3
        case hca2x3 => (intro w _; go_simp; try (with_reducible rfl))
        try simp only [Act.put, List.setIfInBounds_toArray, List.set_cons_zero, List.set_cons_succ]
        refine takeG (some 44) (i := 4) (v := ?vca4x4) rfl rfl (by kernel_rfl) (by kernel_rfl) (by kernel_rfl) (fun _ _ _ h => h) (Or.inl ⟨by rfl, ?hca4x4⟩) hS0 ?rca4x4
        case hca4x4 => (intro w _; go_simp; try (with_reducible rfl))
        try simp only [Act.put, List.setIfInBounds_toArray, List.set_cons_zero, List.set_cons_succ]
        refine takeG (some 46) (i := 6) (v := ?vca6x5) rfl rfl (by kernel_rfl) (by kernel_rfl) (by kernel_rfl) (fun _ _ _ h => h) (Or.inl ⟨by rfl, ?hca6x5⟩) hS0 ?rca6x5
        case hca6x5 => (intro w _; go_simp; try (with_reducible rfl))
        try simp only [Act.put, List.setIfInBounds_toArray, List.set_cons_zero, List.set_cons_succ]
        refine takeG (some 47) (i := 7) (v := ?vca7x6) rfl rfl (by kernel_rfl) (by kernel_rfl) (by kernel_rfl) (fun _ _ _ h => h) (Or.inl ⟨by rfl, ?hca7x6⟩) hS0 ?rca7x6
        case hca7x6 => (intro w _; go_simp; try (with_reducible rfl))
        try simp only [Act.put, List.setIfInBounds_toArray, List.set_cons_zero, List.set_cons_succ]
        refine takeG (some 48) (i := 8) (v := ?vca8x7) rfl rfl (by kernel_rfl) (by kernel_rfl) (by kernel_rfl) (fun _ _ _ h => h) (Or.inl ⟨by rfl, ?hca8x7⟩) hS0 ?rca8x7
        case hca8x7 => (intro w _; go_simp; try (with_reducible rfl))
        try simp only [Act.put, List.setIfInBounds_toArray, List.set_cons_zero, List.set_cons_succ]
        refine takeG (some 49) (i := 9) (v := ?vca9x8) rfl rfl (by kernel_rfl) (by kernel_rfl) (by kernel_rfl) (fun _ _ _ h => h) (Or.inl ⟨by rfl, ?hca9x8⟩) hS0 ?rca9x8
        case hca9x8 => (intro wx hw; have q9 := HCl.out wx hw; go_simp; try (with_reducible rfl))
        try simp only [Act.put, List.setIfInBounds_toArray, List.set_cons_zero, List.set_cons_succ]
        refine takeG (some 52) (i := 12) (v := ?vca12x9) rfl rfl (by kernel_rfl) (by kernel_rfl) (by kernel_rfl) (fun _ _ _ h => h) (Or.inl ⟨by rfl, ?hca12x9⟩) hS0 ?rca12x9
        case hca12x9 => (intro w _; go_simp; try (with_reducible rfl))
        try simp only [Act.put, List.setIfInBounds_toArray, List.set_cons_zero, List.set_cons_succ]
        refine takeG (some 53) (i := 13) (v := ?vca13x10) rfl rfl (by kernel_rfl) (by kernel_rfl) (by kernel_rfl) (fun _ _ _ h => h) (Or.inl ⟨by rfl, ?hca13x10⟩) hS0 ?rca13x10
        case hca13x10 => (intro w _; go_simp; try (with_reducible rfl))
        try simp only [Act.put, List.setIfInBounds_toArray, List.set_cons_zero, List.set_cons_succ]
        refine takeG (some 55) (i := 15) (v := ?vca15x11) rfl rfl (by kernel_rfl) (by kernel_rfl) (by kernel_rfl) (fun _ _ _ h => h) (Or.inl ⟨by rfl, ?hca15x11⟩) hS0 ?rca15x11
        case hca15x11 => (intro w _; go_simp; try (with_reducible rfl))
        try simp only [Act.put, List.setIfInBounds_toArray, List.set_cons_zero, List.set_cons_succ]
        refine wpAnyH_ready (rs := [3, 10]) (by kernel_rfl) (by simp) ?_
        refine AllReadyH.cons rfl (fun K hK => ?_) (AllReadyH.cons rfl (fun K hK => ?_) AllReadyH.nil)
        ·
          go_simp
          have k12 := below_then kd (box_below wd (.cells #[] 3))
          have o12 : (wd.alloc (.cells #[] 3)).ownsRow wr.heap.size 3 1 (.slice (some ⟨wd.heap.size, 0, none⟩) 0 0) 0 [] := World.ownsRow_lit (size := 1) _ _ _ kd.size (by simp) (by simp)
          refine hK.out _ _ k12 (fun _ => ?_)
          clear hK K
          refine wpAnyH_ready (rs := [5, 10]) (by kernel_rfl) (by simp) ?_
          refine AllReadyH.cons rfl (fun K hK => ?_) (AllReadyH.cons rfl (fun K hK => ?_) AllReadyH.nil)
          ·
            obtain ⟨a13, d13, w13, q13, o13, g13⟩ := run_copy 29 o12 (HRr.out _ k12) HLE.out k12.size
            have HQ13 := Lib.hid q13
            have k13 := k12.grown g13 k12.size (fun j hj => by cases hj; exact kd.size)
            refine step_append_run _ rfl (.tmp 43) (.tmp 44) 29 rfl (by simp [Act.eval]) (by simp [Act.eval]) HQ13.out ?_
            refine hK.out _ _ k13 (fun _ => ?_)
            clear hK K q13 HQ13
            try simp only [Act.put, List.setIfInBounds_toArray, List.set_cons_zero, List.set_cons_succ]
            refine wpAnyH_ready (rs := [10]) (by kernel_rfl) (by simp) ?_
            refine AllReadyH.cons rfl (fun K hK => ?_) AllReadyH.nil
            go_simp
            have k14 := below_then k13 (box_below w13 (.cells #[.int .i64 (x : Int)] 3))
            have c14 := ints_one w13 x
            have o14 := o13.alloc (.cells #[.int .i64 (x : Int)] 3)
            refine hK.out _ _ k14 (fun _ => ?_)
            clear hK K
            refine wpAnyH_ready (rs := [11]) (by kernel_rfl) (by simp) ?_
            refine AllReadyH.cons rfl (fun K hK => ?_) AllReadyH.nil
            obtain ⟨a15, d15, w15, q15, i15, g15⟩ := run_more 29 o14 c14 HLE.out k14.size
            have HQ15 := Lib.hid q15
            have k15 := k14.grown g15 k14.size (fun j hj => (o14.lt j hj).1)
            refine step_append_run _ rfl (.tmp 45) (.tmp 50) 29 rfl (by simp [Act.eval]) (by simp [Act.eval]) HQ15.out ?_
            refine hK.out _ _ k15 (fun _ => ?_)
            clear hK K q15 HQ15 g15
            try simp only [Act.put, List.setIfInBounds_toArray, List.set_cons_zero, List.set_cons_succ]
            refine wpAnyH_ready (rs := [14]) (by kernel_rfl) (by simp) ?_
            refine AllReadyH.cons rfl (fun K hK => ?_) AllReadyH.nil
            go_simp
            refine (CW.out _ k15).mono ?_
            rintro e y16 ⟨⟨v16, rfl, m16⟩, j16⟩
            show K _ _
            have s16 := below_then k15 j16
            have i16 := i15.below j16
            refine hK.out _ _ s16 (fun _ => ?_)
            clear hK K
            refine wpAnyH_ready (rs := [16]) (by kernel_rfl) (by simp) ?_
            refine AllReadyH.cons rfl (fun K hK => ?_) AllReadyH.nil
            go_simp
            refine (IHC.out _ _ _ s16 i16 m16).mono ?_
            rintro e y17 ⟨rfl, j17⟩
            show K _ _
            have s17 := below_then s16 j17
            refine hK.out _ _ s17 (fun _ => ?_)
            clear hK K
            refine takeG (some 57) (i := 17) (v := ?vca17x18) rfl rfl (by kernel_rfl) (by kernel_rfl) (by kernel_rfl) (fun _ _ _ h => h) (Or.inl ⟨by rfl, ?hca17x18⟩) s17 ?rca17x18
            case hca17x18 => (intro w _; go_simp; try (with_reducible rfl))
            try simp only [Act.put, List.setIfInBounds_toArray, List.set_cons_zero, List.set_cons_succ]
            refine takeG (some 13) (i := 18) (v := ?vca18x19) rfl rfl (by kernel_rfl) (by kernel_rfl) (by kernel_rfl) (fun _ _ _ h => h) (Or.inl ⟨by rfl, ?hca18x19⟩) s17 ?rca18x19
            case hca18x19 => (intro w _; go_simp; try (with_reducible rfl))
            try simp only [Act.put, List.setIfInBounds_toArray, List.set_cons_zero, List.set_cons_succ]
            refine wpAnyH_done (by kernel_rfl) ?_ _
            have HB3 := Lib.hid (HB2.out _ s17)
            go_wp2_with fail
            go_roundw
            case rel => exact ⟨i + 1, m + cn, by omega, by omega, by go_num, by first | rfl | rw [hwr] | go_num, Lib.hid HMS.out, HB3⟩
            case measure => simp only [intOf]; omega
          ·
            go_simp
            have k20 := below_then k12 (box_below (wd.alloc (.cells #[] 3)) (.cells #[.int .i64 (x : Int)] 3))
            have c20 := ints_one (wd.alloc (.cells #[] 3)) x
            have o20 := o12.alloc (.cells #[.int .i64 (x : Int)] 3)
            refine hK.out _ _ k20 (fun _ => ?_)
            clear hK K
            refine wpAnyH_ready (rs := [5]) (by kernel_rfl) (by simp) ?_
            refine AllReadyH.cons rfl (fun K hK => ?_) AllReadyH.nil
            obtain ⟨a21, d21, w21, q21, o21, g21⟩ := run_copy 29 o20 (HRr.out _ k20) HLE.out k20.size
            have HQ21 := Lib.hid q21
            have k21 := k20.grown g21 k20.size (fun j hj => by cases hj; exact kd.size)
            have c21 := c20.grown g21 (fun b hb => by cases hb; simp [Value.ownBlock])
            refine step_append_run _ rfl (.tmp 43) (.tmp 44) 29 rfl (by simp [Act.eval]) (by simp [Act.eval]) HQ21.out ?_
            refine hK.out _ _ k21 (fun _ => ?_)
            clear hK K q21 HQ21
            try simp only [Act.put, List.setIfInBounds_toArray, List.set_cons_zero, List.set_cons_succ]
            refine wpAnyH_ready (rs := [11]) (by kernel_rfl) (by simp) ?_
            refine AllReadyH.cons rfl (fun K hK => ?_) AllReadyH.nil
            obtain ⟨a22, d22, w22, q22, i22, g22⟩ := run_more 29 o21 c21 HLE.out k21.size
            have HQ22 := Lib.hid q22
            have k22 := k21.grown g22 k21.size (fun j hj => (o21.lt j hj).1)
            refine step_append_run _ rfl (.tmp 45) (.tmp 50) 29 rfl (by simp [Act.eval]) (by simp [Act.eval]) HQ22.out ?_
            refine hK.out _ _ k22 (fun _ => ?_)
            clear hK K q22 HQ22 g22
            try simp only [Act.put, List.setIfInBounds_toArray, List.set_cons_zero, List.set_cons_succ]
            refine wpAnyH_ready (rs := [14]) (by kernel_rfl) (by simp) ?_
            refine AllReadyH.cons rfl (fun K hK => ?_) AllReadyH.nil
            go_simp
            refine (CW.out _ k22).mono ?_
            rintro e y23 ⟨⟨v23, rfl, m23⟩, j23⟩
            show K _ _
            have s23 := below_then k22 j23
            have i23 := i22.below j23
            refine hK.out _ _ s23 (fun _ => ?_)
            clear hK K
            refine wpAnyH_ready (rs := [16]) (by kernel_rfl) (by simp) ?_
            refine AllReadyH.cons rfl (fun K hK => ?_) AllReadyH.nil
            go_simp
            refine (IHC.out _ _ _ s23 i23 m23).mono ?_
            rintro e y24 ⟨rfl, j24⟩
            show K _ _
            have s24 := below_then s23 j24
            refine hK.out _ _ s24 (fun _ => ?_)
            clear hK K
            refine takeG (some 57) (i := 17) (v := ?vca17x25) rfl rfl (by kernel_rfl) (by kernel_rfl) (by kernel_rfl) (fun _ _ _ h => h) (Or.inl ⟨by rfl, ?hca17x25⟩) s24 ?rca17x25
            case hca17x25 => (intro w _; go_simp; try (with_reducible rfl))
            try simp only [Act.put, List.setIfInBounds_toArray, List.set_cons_zero, List.set_cons_succ]
            refine takeG (some 13) (i := 18) (v := ?vca18x26) rfl rfl (by kernel_rfl) (by kernel_rfl) (by kernel_rfl) (fun _ _ _ h => h) (Or.inl ⟨by rfl, ?hca18x26⟩) s24 ?rca18x26
            case hca18x26 => (intro w _; go_simp; try (with_reducible rfl))
            try simp only [Act.put, List.setIfInBounds_toArray, List.set_cons_zero, List.set_cons_succ]
            refine wpAnyH_done (by kernel_rfl) ?_ _
            have HB3 := Lib.hid (HB2.out _ s24)
            go_wp2_with fail
            go_roundw
            case rel => exact ⟨i + 1, m + cn, by omega, by omega, by go_num, by first | rfl | rw [hwr] | go_num, Lib.hid HMS.out, HB3⟩
            case measure => simp only [intOf]; omega
        ·
          go_simp
          have k27 := below_then kd (box_below wd (.cells #[.int .i64 (x : Int)] 3))
          have c27 := ints_one wd x
          refine hK.out _ _ k27 (fun _ => ?_)
          clear hK K
          refine wpAnyH_ready (rs := [3]) (by kernel_rfl) (by simp) ?_
          refine AllReadyH.cons rfl (fun K hK => ?_) AllReadyH.nil
          go_simp
          have k28 := below_then k27 (box_below (wd.alloc (.cells #[.int .i64 (x : Int)] 3)) (.cells #[] 3))
          have o28 : ((wd.alloc (.cells #[.int .i64 (x : Int)] 3)).alloc (.cells #[] 3)).ownsRow wr.heap.size 3 1 (.slice (some ⟨(wd.alloc (.cells #[.int .i64 (x : Int)] 3)).heap.size, 0, none⟩) 0 0) 0 [] := World.ownsRow_lit (size := 1) _ _ _ k27.size (by simp) (by simp)
          have c28 := c27.below (box_below (wd.alloc (.cells #[.int .i64 (x : Int)] 3)) (.cells #[] 3))
          refine hK.out _ _ k28 (fun _ => ?_)
          clear hK K
          refine wpAnyH_ready (rs := [5]) (by kernel_rfl) (by simp) ?_
          refine AllReadyH.cons rfl (fun K hK => ?_) AllReadyH.nil
          obtain ⟨a29, d29, w29, q29, o29, g29⟩ := run_copy 29 o28 (HRr.out _ k28) HLE.out k28.size
          have HQ29 := Lib.hid q29
          have k29 := k28.grown g29 k28.size (fun j hj => by cases hj; exact k27.size)
          have c29 := c28.grown g29 (fun b hb => by cases hb; simp [Value.ownBlock])
          refine step_append_run _ rfl (.tmp 43) (.tmp 44) 29 rfl (by simp [Act.eval]) (by simp [Act.eval]) HQ29.out ?_
          refine hK.out _ _ k29 (fun _ => ?_)
          clear hK K q29 HQ29
          try simp only [Act.put, List.setIfInBounds_toArray, List.set_cons_zero, List.set_cons_succ]
          refine wpAnyH_ready (rs := [11]) (by kernel_rfl) (by simp) ?_
          refine AllReadyH.cons rfl (fun K hK => ?_) AllReadyH.nil
          obtain ⟨a30, d30, w30, q30, i30, g30⟩ := run_more 29 o29 c29 HLE.out k29.size
          have HQ30 := Lib.hid q30
          have k30 := k29.grown g30 k29.size (fun j hj => (o29.lt j hj).1)
          refine step_append_run _ rfl (.tmp 45) (.tmp 50) 29 rfl (by simp [Act.eval]) (by simp [Act.eval]) HQ30.out ?_
          refine hK.out _ _ k30 (fun _ => ?_)
          clear hK K q30 HQ30 g30
          try simp only [Act.put, List.setIfInBounds_toArray, List.set_cons_zero, List.set_cons_succ]
          refine wpAnyH_ready (rs := [14]) (by kernel_rfl) (by simp) ?_
          refine AllReadyH.cons rfl (fun K hK => ?_) AllReadyH.nil
          go_simp
          refine (CW.out _ k30).mono ?_
          rintro e y31 ⟨⟨v31, rfl, m31⟩, j31⟩
          show K _ _
          have s31 := below_then k30 j31
          have i31 := i30.below j31
          refine hK.out _ _ s31 (fun _ => ?_)
          clear hK K
          refine wpAnyH_ready (rs := [16]) (by kernel_rfl) (by simp) ?_
          refine AllReadyH.cons rfl (fun K hK => ?_) AllReadyH.nil
          go_simp
          refine (IHC.out _ _ _ s31 i31 m31).mono ?_
          rintro e y32 ⟨rfl, j32⟩
          show K _ _
          have s32 := below_then s31 j32
          refine hK.out _ _ s32 (fun _ => ?_)
          clear hK K
          refine takeG (some 57) (i := 17) (v := ?vca17x33) rfl rfl (by kernel_rfl) (by kernel_rfl) (by kernel_rfl) (fun _ _ _ h => h) (Or.inl ⟨by rfl, ?hca17x33⟩) s32 ?rca17x33
          case hca17x33 => (intro w _; go_simp; try (with_reducible rfl))
          try simp only [Act.put, List.setIfInBounds_toArray, List.set_cons_zero, List.set_cons_succ]
          refine takeG (some 13) (i := 18) (v := ?vca18x34) rfl rfl (by kernel_rfl) (by kernel_rfl) (by kernel_rfl) (fun _ _ _ h => h) (Or.inl ⟨by rfl, ?hca18x34⟩) s32 ?rca18x34
          case hca18x34 => (intro w _; go_simp; try (with_reducible rfl))
          try simp only [Act.put, List.setIfInBounds_toArray, List.set_cons_zero, List.set_cons_succ]
          refine wpAnyH_done (by kernel_rfl) ?_ _
          have HB3 := Lib.hid (HB2.out _ s32)
          go_wp2_with fail
          go_roundw
          case rel => exact ⟨i + 1, m + cn, by omega, by omega, by go_num, by first | rfl | rw [hwr] | go_num, Lib.hid HMS.out, HB3⟩
          case measure => simp only [intOf]; omega
      · obtain rfl : i = left.length := by omega
        have HV : Hid ((m : Int) = ((cntL (keptL h lv) (k + 1) r left : Nat) : Int)) := Lib.hid (by rw [← cnlTo_all, HM.out])
        go_wp2_with fail
        go_ret
        exact ⟨ret_i HV.out, HB.out⟩
end Go.Proofs.YtecpeegbfeijaaaGreatDoor

namespace Go.Proofs.YtecpeegbfeijaaaGreatDoor
set_option maxRecDepth 100000
open Go.RowKit

set_option maxRecDepth 100000 in
set_option maxHeartbeats 1000000 in
theorem tail13_any (va : Value) (h : List TxnV) (lv : Int) (hc : checkI h = 0) (hn : h.length ≤ 64) :
    ∀ (k : Nat) (v : Value) (r : List Nat) (w : World), 0 < r.length → r.Nodup → (∀ i ∈ r, i < h.length) → r.length + k = h.length → Txns w va h → Ints w v (r.map Int.ofNat) →
      Calls Tryz.prog 75 #[va, .int .i64 lv, v] w fun e w' => e = .returned (.bool ((exts h.length k r).any (keptL h lv))) ∧ Below w.heap.size w w'
  | 0, v, r, w, h0, hnd, hlt, hlen, hT, hI => by
    have hp := perm_range hnd hlt hlen
    have CI := Lib.hid (rin13_any va v h lv r w hc hp hT hI)
    have HV : Hid (keptL h lv r = (exts h.length 0 r).any (keptL h lv)) := Lib.hid (by simp [exts])
    obtain ⟨ho, hcap, rfl, _⟩ := hT.form
    obtain ⟨ao, cap, rfl, _⟩ := hI.form
    simp only [List.length_map] at CI
    rw [List.length_map]
    have hbq : ((r.length : Int) == (h.length : Int)) = true := by rw [beq_iff_eq]; omega
    generalize keptL h lv r = kb at *
    clear hT hI hp hnd hlt h0 hlen
    go_enter Tryz.func75, Tryz.ntmps75
    go_wp2_with fail
    refine (CI.out).mono ?_
    rintro e w1 ⟨⟨v1, rfl, _⟩, h1⟩
    go_wp2_with fail
    go_ret
    exact ⟨ret_b HV.out, h1⟩
  | k + 1, v, r, w, h0, hnd, hlt, hlen, hT, hI => by
    have IH := Lib.hid (fun v r w a b c d e f => tail13_any va h lv hc hn k v r w a b c d e f)
    have HT := Lib.hid (fun wx (hx : Below w.heap.size w wx) => hT.below hx)
    have HI := Lib.hid (fun wx (hx : Below w.heap.size w wx) => hI.below hx)
    have HG := Lib.hid (⟨hnd, hlt, hlen⟩ : r.Nodup ∧ (∀ i ∈ r, i < h.length) ∧ r.length + (k + 1) = h.length)
    obtain ⟨ho, hcap, rfl, _⟩ := hT.form
    obtain ⟨ad, cap, rfl⟩ : ∃ ad cap, v = .slice (some ad) r.length cap := by
      obtain ⟨_, ao', cap', e, _, _, hc'⟩ := hI
      rw [List.length_map] at e hc'
      obtain ⟨b, off, e2, _⟩ := hc' h0
      exact ⟨_, cap', by rw [e, e2]⟩
    have hbq : ((r.length : Int) == (h.length : Int)) = false := by rw [beq_eq_false_iff_ne]; omega
    have hb0 := Lib.hid (Below.refl w.heap.size w)
    have HE : Hid ((extsTo h.length k r 0).any (keptL h lv) = false) := Lib.hid (by rw [extsTo_zero]; rfl)
    clear hT hI hnd hlt hlen
    go_enter Tryz.func75, Tryz.ntmps75
    go_wp2_with fail
    go_loopw [25] (fun i wr => ∃ j : Nat, j ≤ h.length ∧ i = .int .i64 (j : Int) ∧ Hid ((extsTo h.length k r j).any (keptL h lv) = false) ∧ Hid (Below w.heap.size w wr)) (fun i _ => h.length - (intOf i).toNat)
    case atStart => exact ⟨0, by omega, rfl, HE, hb0⟩
    case round =>
      clear HE hb0
      obtain ⟨j, hjm, rfl, HE, HB⟩ := hrel
      by_cases hlt : (j : Int) < (h.length : Int)
      · have CC := Lib.hid (rhas_any (.slice (some ad) r.length cap) (r.map Int.ofNat) (j : Int) wr (HI.out _ HB.out))
        rw [hasL_nat] at CC
        by_cases hin : j ∈ r
        · have HS : Hid ((extsTo h.length k r (j + 1)).any (keptL h lv) = false) := Lib.hid (by rw [extsTo_succ, if_pos hin, List.append_nil]; exact HE.out)
          rw [decide_eq_true hin] at CC
          clear hin
          go_wp2_with fail
          refine CC.out.mono ?_
          rintro e wq ⟨rfl, rfl⟩
          go_wp2_with fail
          go_roundw
          case rel => exact ⟨j + 1, by omega, by go_num, HS, HB⟩
          case measure => simp only [intOf]; omega
        · have HS : Hid ((extsTo h.length k r (j + 1)).any (keptL h lv) = (exts h.length k (r ++ [j])).any (keptL h lv)) := Lib.hid (by rw [extsTo_succ, if_neg hin, List.any_append, HE.out, Bool.false_or])
          rw [decide_eq_false hin] at CC
          obtain ⟨a1, c1, w1, a2, c2, w2, q1, q2, q3, q4⟩ := run_copy_one (w := wr) 29 (HI.out _ HB.out) j (by have := HG.out.2.2; omega)
          have k2 := below_then HB.out q4
          have C2 := Lib.hid (IH.out (.slice a2 (r.length + 1) c2) (r ++ [j]) w2 (by simp) (by
            rw [List.nodup_append]
            refine ⟨HG.out.1, by simp, fun u hu v hv e => ?_⟩
            simp at hv; subst hv; subst e; exact hin hu) (fun i hi => by
            rcases List.mem_append.1 hi with hi | hi
            · exact HG.out.2.1 i hi
            · simp at hi; omega) (by have := HG.out.2.2; simp; omega) (HT.out _ k2) q3)
          have HA1 := Lib.hid q1
          have HA2 := Lib.hid q2
          have HK2 := Lib.hid k2
          have HTO : Hid ((extsTo h.length k r (j + 1)).any (keptL h lv) = true → (exts h.length (k + 1) r).any (keptL h lv) = true) := Lib.hid (fun e => any_to e (by omega))
          clear q1 q2 q3 q4 k2 hin
          go_wp2_with fail
          refine CC.out.mono ?_
          rintro e wq ⟨rfl, rfl⟩
          cases hres : (exts h.length k (r ++ [j])).any (keptL h lv) with
          | true =>
            rw [hres] at C2 HS
            have HV : Hid (true = (exts h.length (k + 1) r).any (keptL h lv)) := Lib.hid (HTO.out HS.out).symm
            clear hres
            go_wp2_with (first
              | (at_builtin; refine wpList_append_full _ (.tmp 35) (.tmp 36) rfl (by kernel_rfl) rfl rfl HA1.out ?_)
              | (at_builtin; refine wpList_append_full _ (.tmp 37) (.tmp 39) rfl (by kernel_rfl) rfl rfl HA2.out ?_)
              | (go_at_call 75; refine C2.out.mono ?_; rintro e w3 ⟨rfl, h3⟩))
            have h3 := below_then HK2.out h3
            go_ret
            exact ⟨ret_b HV.out, h3⟩
          | false =>
            rw [hres] at C2 HS
            clear hres
            go_wp2_with (first
              | (at_builtin; refine wpList_append_full _ (.tmp 35) (.tmp 36) rfl (by kernel_rfl) rfl rfl HA1.out ?_)
              | (at_builtin; refine wpList_append_full _ (.tmp 37) (.tmp 39) rfl (by kernel_rfl) rfl rfl HA2.out ?_)
              | (go_at_call 75; refine C2.out.mono ?_; rintro e w3 ⟨rfl, h3⟩))
            have HB3 := Lib.hid (below_then HK2.out h3)
            clear h3
            go_roundw
            case rel => exact ⟨j + 1, by omega, by go_num, HS, HB3⟩
            case measure => simp only [intOf]; omega
      · have HV : Hid (false = (exts h.length (k + 1) r).any (keptL h lv)) := Lib.hid (by rw [exts_all, show h.length = j by omega, ← show h.length = j by omega]; rw [show j = h.length by omega] at HE; exact HE.out.symm)
        go_wp2_with fail
        go_ret
        exact ⟨ret_b HV.out, HB.out⟩
end Go.Proofs.YtecpeegbfeijaaaGreatDoor

namespace Go.Proofs.YtecpeegbfeijaaaGreatDoor
set_option maxRecDepth 100000
open Go.RowKit

theorem ints_take {w : World} {ao : Option Addr} {n cap k : Nat} {l : List Nat} (h : Ints w (.slice ao n cap) (l.map Int.ofNat)) (hn : n = l.length) (hk : k ≤ l.length) : Ints w (.slice ao k cap) ((l.take k).map Int.ofNat) := by
  subst hn
  have h2 : Row w (.slice ao l.length cap) l.length 1 ((l.map Int.ofNat).map (Value.int .i64)) := by
    have := h; unfold Ints at this; rw [List.length_map] at this; exact this
  have h1 := Row.take h2 hk
  unfold Ints
  rw [List.length_map, List.length_take, Nat.min_eq_left hk, List.map_take, List.map_take]
  rw [Nat.mul_one] at h1
  exact h1
set_option maxRecDepth 100000 in
set_option maxHeartbeats 8000000 in
theorem first13_any (va v : Value) (h : List TxnV) (lv : Int) (row : List Nat) (w : World) (hc : checkI h = 0) (hn : h.length ≤ 64) (hf : (ordersN h.length).find? (keptL h lv) = some row) (hT : Txns w va h) (hI : Ints w v (row.map Int.ofNat)) :
    Calls Tryz.prog 21 #[va, .int .i64 lv, v] w fun e w' => e = .returned (.bool true) ∧ Below w.heap.size w w' := by
  have hmem := mem_exts (List.mem_of_find?_eq_some hf)
  obtain ⟨m1, m2, m3, _⟩ := hmem
  have hnd := m1 List.nodup_nil
  have hlt := m2 (fun i hi => by cases hi)
  have hlen : row.length = h.length := by rw [m3]; simp
  have hp := perm_range hnd hlt hlen
  have hkept : keptL h lv row = true := List.find?_some hf
  have HF := Lib.hid (fun (j : Nat) (hj : j < row.length) y (hy : y < row[j]) (hny : y ∉ row.take j) => first_least hf j hj (Nat.zero_le _) y hy hny)
  have HG := Lib.hid (⟨hnd, hlt, hlen⟩ : row.Nodup ∧ (∀ i ∈ row, i < h.length) ∧ row.length = h.length)
  have HT := Lib.hid (fun wx (hx : Below w.heap.size w wx) => hT.below hx)
  have HI := Lib.hid (fun wx (hx : Below w.heap.size w wx) => hI.below hx)
  have CI := Lib.hid (fun wx (hx : Below w.heap.size w wx) => rin13_any va v h lv row wx hc hp (hT.below hx) (hI.below hx))
  have CT := Lib.hid (fun k v r wx a b c d e f => tail13_any va h lv hc hn k v r wx a b c d e f)
  obtain ⟨ho, hcap, rfl, _⟩ := hT.form
  obtain ⟨ao, cap, rfl, ⟨hcl, hcm⟩, _⟩ := hI.full
  simp only [List.length_map] at CI HI hcl
  rw [List.length_map]
  have hb0 := Lib.hid (Below.refl w.heap.size w)
  rw [hkept] at CI
  have hl64 : row.length ≤ 64 := by omega
  clear hT hI hnd hlt hlen hp hkept m1 m2 m3 hf
  go_enter Tryz.func21, Tryz.ntmps21
  go_wp2_with fail
  go_loopw [13] (fun i wr => ∃ j : Nat, j ≤ row.length ∧ i = .int .i64 (j : Int) ∧ Hid (Below w.heap.size w wr)) (fun i _ => row.length - (intOf i).toNat)
  case atStart => exact ⟨0, by omega, rfl, hb0⟩
  case round =>
    clear hb0
    obtain ⟨j, hjm, rfl, HB⟩ := hrel
    by_cases hlt : j < row.length
    · have hlti : (j : Int) < (row.length : Int) := by omega
      obtain ⟨g, o, hgo, hcj⟩ := ints_at (HI.out _ HB.out) hlt
      cases hgo
      have HX : Hid (row[j] < h.length) := Lib.hid (HG.out.2.1 _ (List.getElem_mem hlt))
      have HFJ := Lib.hid (HF.out j hlt)
      generalize row[j] = z at *
      have hz64 : z ≤ 64 := by have := HX.out; omega
      go_wp2_with fail
      go_loopw [20] (fun i wx => ∃ x : Nat, x ≤ z ∧ i = .int .i64 (x : Int) ∧ Hid (Below w.heap.size w wx)) (fun i _ => z - (intOf i).toNat)
      case atStart => exact ⟨0, by omega, rfl, HB⟩
      case round =>
        clear HB hcj
        obtain ⟨x, hxz, rfl, HB⟩ := hrel
        by_cases hlx : (x : Int) < (z : Int)
        · have hIk := ints_take (HI.out _ HB.out) rfl hjm
          have CC := Lib.hid (rhas_any (.slice (some ⟨g, o, none⟩) j cap) ((row.take j).map Int.ofNat) (x : Int) _ hIk)
          rw [hasL_nat] at CC
          have hjc : j ≤ cap := by omega
          by_cases hin : x ∈ row.take j
          · rw [decide_eq_true hin] at CC
            clear hin hIk
            go_wp2_with fail
            refine CC.out.mono ?_
            rintro e wq ⟨rfl, rfl⟩
            go_wp2_with fail
            go_roundw
            case rel => exact ⟨x + 1, by omega, by go_num, HB⟩
            case measure => simp only [intOf]; omega
          · rw [decide_eq_false hin] at CC
            have hres := HFJ.out x (by omega) hin
            have hjl : (row.take j).length = j := by rw [List.length_take]; omega
            have hIk2 : Ints wr (.slice (some ⟨g, o, none⟩) (row.take j).length cap) ((row.take j).map Int.ofNat) := by rw [hjl]; exact hIk
            obtain ⟨a1, c1, w1, a2, c2, w2, q1, q2, q3, q4⟩ := run_copy_one (w := wr) 29 hIk2 x (by omega)
            have k2 := below_then HB.out q4
            have C2 := Lib.hid (CT.out (List.length (α := Nat) [] + h.length - (j + 1)) (.slice a2 ((row.take j).length + 1) c2) (row.take j ++ [x]) w2 (by simp) (by
              rw [List.nodup_append]
              refine ⟨HG.out.1.sublist (List.take_sublist _ _), by simp, fun u hu v hv e => ?_⟩
              simp at hv; subst hv; subst e; exact hin hu) (fun i hi => by
              rcases List.mem_append.1 hi with hi | hi
              · exact HG.out.2.1 i (List.mem_of_mem_take hi)
              · simp at hi; have := HX.out; omega) (by rw [List.length_append, hjl]; simp; have := HG.out.2.2; omega) (HT.out _ k2) q3)
            rw [hres] at C2
            rw [hjl] at q1 q2 C2
            have HA1 := Lib.hid q1
            have HA2 := Lib.hid q2
            have HK2 := Lib.hid k2
            clear q1 q2 q3 q4 k2 hin hIk hIk2 hjl hres
            go_wp2_with fail
            refine CC.out.mono ?_
            rintro e wq ⟨rfl, rfl⟩
            go_wp2_with (first
              | (at_builtin; refine wpList_append_full _ (.tmp 30) (.tmp 33) rfl (by kernel_rfl) rfl rfl HA1.out ?_)
              | (at_builtin; refine wpList_append_full _ (.tmp 34) (.tmp 36) rfl (by kernel_rfl) rfl rfl HA2.out ?_)
              | (go_at_call 75; refine C2.out.mono ?_; rintro e w3 ⟨rfl, h3⟩))
            have HB3 := Lib.hid (below_then HK2.out h3)
            clear h3
            go_roundw
            case rel => exact ⟨x + 1, by omega, by go_num, HB3⟩
            case measure => simp only [intOf]; omega
        · go_wp2_with fail
          go_roundw
          case rel => exact ⟨j + 1, by omega, by go_num, HB⟩
          case measure => simp only [intOf]; omega
    · have CI2 := Lib.hid (CI.out _ HB.out)
      have hltn : ¬ (j : Int) < (row.length : Int) := by omega
      go_wp2_with fail
      refine (CI2.out).mono ?_
      rintro e w1 ⟨⟨v1, rfl, _⟩, h1⟩
      have h1 := below_then HB.out h1
      go_wp2_with fail
      go_ret
      exact ⟨rfl, h1⟩
end Go.Proofs.YtecpeegbfeijaaaGreatDoor

namespace Go.Proofs.YtecpeegbfeijaaaGreatDoor
set_option maxRecDepth 100000
open Go.RowKit

theorem insP_nodup {i : Int} : ∀ (l : List Int) {o : List Pr}, o.Nodup → (insP o i l).Nodup
  | [], _, h => h
  | _ :: l, _, h => insP_nodup l (putP_nodup h)
theorem pairsL_nodup (LL : List (List Int)) : ∀ k, (pairsL LL k).Nodup
  | 0 => List.nodup_nil
  | k + 1 => insP_nodup _ (pairsL_nodup LL k)
theorem seesL_len (V : Mat) (n : Nat) : (seesL V n).length = n := by simp [seesL]
theorem seesL_get (V : Mat) {n i : Nat} (hi : i < n) : (seesL V n).getD i [] = (lst (seeTo V (i : Int) 64)).map Int.ofNat := by
  unfold seesL
  rw [List.getD_eq_getElem?_getD, List.getElem?_map, List.getElem?_range hi]; rfl
theorem mem_sees {V : Mat} {i : Nat} (hi : i < 64) {a : Int} : a ∈ (lst (seeTo V (i : Int) 64)).map Int.ofNat ↔ ∃ j : Nat, j < 64 ∧ a = (j : Int) ∧ V j i = true := by
  rw [List.mem_map]
  constructor
  · rintro ⟨j, hj, rfl⟩
    obtain ⟨h1, h2⟩ := mem_lst.1 hj
    rw [seeTo_bit V _ j 64 (Nat.le_refl 64), decide_eq_true h1, Bool.true_and, hasR_nat V j i h1 hi] at h2
    exact ⟨j, h1, rfl, h2⟩
  · rintro ⟨j, hj, rfl, hv⟩
    refine ⟨j, mem_lst.2 ⟨hj, ?_⟩, rfl⟩
    rw [seeTo_bit V _ j 64 (Nat.le_refl 64), decide_eq_true hj, Bool.true_and, hasR_nat V j i hj hi]
    exact hv
end Go.Proofs.YtecpeegbfeijaaaGreatDoor

namespace Go.Proofs.YtecpeegbfeijaaaGreatDoor
set_option maxRecDepth 100000
open Go.RowKit

theorem low_ok {V : Mat} {n : Nat} (hn : n ≤ 64) (hL : ∀ i j : Nat, i < 64 → j < 64 → V i j = true → i < n ∧ j < n) : okL n (seesL V n) = true := by
  unfold okL
  rw [seesL_len, decide_eq_true rfl, Bool.true_and, List.all_eq_true]
  intro l hl
  unfold seesL at hl
  obtain ⟨i, hi, rfl⟩ := List.mem_map.1 hl
  have hin := List.mem_range.1 hi
  unfold okRow
  rw [List.all_eq_true]
  intro a ha
  obtain ⟨j, hj, rfl, hv⟩ := (mem_sees (show i < 64 by omega)).1 ha
  have := hL j i hj (by omega) hv
  simp only [Bool.and_eq_true, decide_eq_true_eq]
  exact ⟨by omega, by omega⟩
theorem low_rep {V : Mat} {n : Nat} (hn : n ≤ 64) (hL : ∀ i j : Nat, i < 64 → j < 64 → V i j = true → i < n ∧ j < n) : Rep V (pairsL (seesL V n) n) := by
  refine ⟨pairsL_nodup _ _, fun a b => ?_⟩
  rw [mem_pairsL]
  constructor
  · rintro ⟨i, hi, a2, ha2, e⟩
    rw [seesL_get V hi] at ha2
    obtain ⟨j, hj, rfl, hv⟩ := (mem_sees (show i < 64 by omega)).1 ha2
    exact ⟨j, i, hj, by omega, congrArg Prod.fst e, congrArg Prod.snd e, hv⟩
  · rintro ⟨j, i, hj, hi, rfl, rfl, hv⟩
    have hin := (hL j i hj hi hv).2
    refine ⟨i, hin, (j : Int), ?_, rfl⟩
    rw [seesL_get V hin]
    exact (mem_sees hi).2 ⟨j, hj, rfl, hv⟩
/-- The least that must be seen, where a level is kept, is of the history's own numbers. -/
theorem least_low {h : List TxnV} {lv : Int} {L : List Nat} {X : Mat} (hc : checkI h = 0) (hp : L.Perm (List.range h.length)) (hk : keptL h lv L = true) (hX : LeastIs h (askN lv) (L.map Int.ofNat) X) : ∀ i j : Nat, i < 64 → j < 64 → X i j = true → i < h.length ∧ j < h.length := by
  intro i j hi hj hv
  rw [← kept_holds hc lv hp hX] at hk
  have hin : inM X (chainR (L.map Int.ofNat)) = true := by
    unfold holdsB at hk
    simp only [Bool.and_eq_true] at hk
    have := hk.2.2.1
    unfold rightM at this
    simp only [Bool.and_eq_true] at this
    exact this.2.1
  have hch := (inM_iff _ _).1 hin i j hi hj hv
  obtain ⟨p, q, h1, h2, e1, e2⟩ := ahead_pos ((chainR_iff i j _).1 hch)
  have m1 : i ∈ L := by rw [← e1]; exact List.getElem_mem _
  have m2 : j ∈ L := by rw [← e2]; exact List.getElem_mem _
  exact ⟨List.mem_range.1 (hp.mem_iff.1 m1), List.mem_range.1 (hp.mem_iff.1 m2)⟩
theorem first_accepts {h : List TxnV} {lv : Int} {L : List Nat} {X : Mat} (hc : checkI h = 0) (hp : L.Perm (List.range h.length)) (hk : keptL h lv L = true) (hX : LeastIs h (askN lv) (L.map Int.ofNat) X) : acceptsB h lv (L.map Int.ofNat) (seesL X h.length) = true := by
  have h64 := (check_zero hc).1
  have hlow := least_low hc hp hk hX
  have hrep := low_rep h64 hlow
  unfold acceptsB
  rw [low_ok h64 hlow, Bool.true_and]
  rw [← holds_same hc hrep, kept_holds hc lv hp hX]
  exact hk
/-- What is counted is more than none just if there is a first one. -/
theorem count_first {n : Nat} {p : List Nat → Bool} : (0 < (ordersN n).countP p) ↔ ((ordersN n).find? p).isSome = true := by
  rw [List.countP_pos_iff, List.find?_isSome]
end Go.Proofs.YtecpeegbfeijaaaGreatDoor

namespace Go.Proofs.YtecpeegbfeijaaaGreatDoor
set_option maxRecDepth 100000
open Go.RowKit

theorem rest_nil (n : Nat) : restN n [] = List.range n := by unfold restN; simp
theorem rcounts_any (va : Value) (h : List TxnV) (lv : Int) (w : World) (hc : checkI h = 0) (hn : h.length ≤ 5) (hT : Txns w va h) :
    Calls Tryz.prog 18 #[va, .int .i64 lv] w fun e w' => e = .returned (.int .i64 (((ordersN h.length).countP (keptL h lv) : Nat) : Int)) ∧ Below w.heap.size w w' := by
  have CA := Lib.hid (rall_any h.length (by omega) w)
  have CC := Lib.hid (fun vl wx (hx : Below w.heap.size w wx) hl => rcount_any va h lv hc hn h.length (.slice none 0 0) vl [] (List.range h.length) wx List.length_range (by rw [List.nil_append]) (hT.below hx) (ints_nil wx) hl)
  have HE : Hid (cntL (keptL h lv) h.length [] (List.range h.length) = (ordersN h.length).countP (keptL h lv)) := Lib.hid (by rw [← rest_nil, cntL_exts]; rfl)
  rw [HE.out] at CC
  obtain ⟨ao, cap, rfl, hal⟩ := hT.form
  clear hT hc HE
  go_enter Tryz.func18, Tryz.ntmps18
  go_wp2_with fail
  refine (CA.out).mono ?_
  rintro e w1 ⟨⟨v, rfl, hI⟩, h1⟩
  have C2 := Lib.hid (CC.out v w1 h1 hI)
  go_wp2_with fail
  refine (C2.out).mono ?_
  rintro e w2 ⟨rfl, h2⟩
  have h2 := below_then h1 h2
  go_wp2_with fail
  go_ret
  exact ⟨rfl, h2⟩
set_option maxRecDepth 100000 in
set_option maxHeartbeats 8000000 in
theorem decides13_walk (va : Value) (h : List TxnV) (lv : Int) (w : World) (ht : Tab w) (hK : Kinds w) (hT : Txns w va h) (hok : ∀ t ∈ h, t.ok) (hsh : Short h) :
    Calls Tryz.prog 3 #[va, .int .i64 lv] w fun e w' => e = .returned (.bool true) ∧ Below w.heap.size w w' := by
  have hg := ht.pos
  have HT : Hid (∀ wx, Below w.heap.size w wx → Tab wx ∧ Kinds wx) := Lib.hid (fun wx hb => ⟨ht.below hb hg, hK.below hb⟩)
  have HH := Lib.hid (fun wx (hx : Below w.heap.size w wx) => hT.below hx)
  obtain ⟨ao, cap, rfl, hal⟩ := hT.form
  have HOK := Lib.hid hok
  have HSH := Lib.hid hsh
  have C0 := Lib.hid (speaks13_any w ht hK)
  clear ht hK hT hok
  go_enter Tryz.func3, Tryz.ntmps3
  go_wp2_with fail
  refine (C0.out).mono ?_
  rintro e w1 ⟨rfl, hb1⟩
  clear C0
  by_cases h5 : 5 < h.length
  · have h5i : (5 : Int) < (h.length : Int) := by omega
    clear hsh
    go_wp2_with fail
    go_ret
    exact ⟨rfl, hb1⟩
  have h5i : ¬ (5 : Int) < (h.length : Int) := by omega
  have CC := Lib.hid (rcheck_any _ h w1 (HH.out _ hb1) hsh)
  rw [← check_ref] at CC
  by_cases hc : checkI h = 0
  rotate_left
  · have hcn : ¬ checkI h = 0 := hc
    generalize checkI h = c at *
    have hcb : (c != 0) = true := by rw [bne_iff_ne]; exact hcn
    clear hsh hc
    go_wp2_with fail
    refine (CC.out).mono ?_
    rintro e w2 ⟨rfl, hb2⟩
    have hb2 := below_then hb1 hb2
    go_wp2_with fail
    go_ret
    exact ⟨rfl, hb2⟩
  rw [hc] at CC
  go_wp2_with fail
  refine (CC.out).mono ?_
  rintro e w2 ⟨rfl, hb2⟩
  have hb2 := below_then hb1 hb2
  have CO := Lib.hid (of_done _ h w2 (HH.out _ hb2) HOK.out HSH.out hc)
  have HC := Lib.hid hc
  clear hb1 CC hc hsh
  go_wp2_with fail
  refine (CO.out).mono ?_
  rintro e w3 ⟨⟨B, rfl, hB, hO⟩, hb3⟩
  have hb3 := below_then hb2 hb3
  have HO := Lib.hid (fun wx (hx : Below w3.heap.size w3 wx) => hO.below hx)
  have HW := Lib.hid (fun wx (hx : Below w3.heap.size w3 wx) => hb3.trans (hx.mono hb3.size))
  have CD := Lib.hid (bdecide_any lv h B (B + 2) w3 hO HC.out (HT.out _ hb3).1 (HT.out _ hb3).2)
  have hn5 : h.length ≤ 5 := by omega
  have CK := Lib.hid (fun wx (hx : Below w3.heap.size w3 wx) => rcounts_any _ h lv wx HC.out hn5 (HH.out _ (HW.out _ hx)))
  have CB := Lib.hid (fun wx (hx : Below w3.heap.size w3 wx) => bcount_any lv h B (B + 2) wx (HO.out _ hx) HC.out (HT.out _ (HW.out _ hx)).1 (HT.out _ (HW.out _ hx)).2)
  have e8 : countI h lv = (((ordersN h.length).countP (keptL h lv) : Nat) : Int) := by unfold countI; rw [if_pos (by omega)]
  rw [e8] at CB
  have HD : Hid (∀ v wx, DecRes h lv v wx → match (ordersN h.length).find? (keptL h lv) with
    | none => v = .tuple #[.agg #[.slice none 0 0, .slice none 0 0], .bool false, .bool true]
    | some r => ∃ vo vs X, v = .tuple #[.agg #[vo, vs], .bool true, .bool true] ∧ LeastIs h (askN lv) (r.map Int.ofNat) X ∧ Ints wx vo (r.map Int.ofNat) ∧ Lists wx vs (seesL X (r.map Int.ofNat).length)) := Lib.hid (fun v wx hd => by
    unfold DecRes at hd; rw [if_pos (by omega)] at hd; exact hd)
  clear hb2 CO hB hO e8 hb3
  go_wp2_with fail
  refine (CD.out).mono ?_
  rintro e w4 ⟨⟨v, rfl, hd⟩, h4⟩
  have hd := HD.out _ _ hd
  clear HD CD
  cases hfind : (ordersN h.length).find? (keptL h lv) with
  | none =>
    rw [hfind] at hd
    obtain rfl := hd
    have h0 : (ordersN h.length).countP (keptL h lv) = 0 := by
      rw [List.countP_eq_zero]
      intro a ha
      exact List.find?_eq_none.1 hfind a ha
    rw [h0] at CK CB
    have W0 : WitS w4.heap.size (.slice none 0 0) (.slice none 0 0) (w4.alloc (.cells #[.slice none 0 0, .slice none 0 0] 32)) := by
      refine ⟨?_, ?_⟩ <;> (rw [cell_of_row _ _ _ _ _ _ (heap_alloc_new w4 _)]; rfl)
    have k5 := below_then h4 (box_below w4 (.cells #[.slice none 0 0, .slice none 0 0] 32))
    have C1 := Lib.hid (CK.out _ k5)
    clear h0 hfind CK
    go_wp2_with fail
    refine (C1.out).mono ?_
    rintro e w6 ⟨rfl, h6⟩
    have W6 := W0.below h6
    have k6 := below_then k5 h6
    have C2 := Lib.hid (CB.out _ k6)
    clear W0 h6 k5 C1 CB
    go_wp2_with fail
    refine (C2.out).mono ?_
    rintro e w7 ⟨rfl, h7⟩
    obtain ⟨n0, n1⟩ := W6.below h7
    have k7 := below_then k6 h7
    have HZ := Lib.hid (HW.out _ k7)
    clear W6 h7 k6 C2 k7 h4
    go_wp2_with fail
    go_ret
    exact ⟨rfl, HZ.out⟩
  | some r =>
    rw [hfind] at hd
    obtain ⟨vo, vs, X, rfl, hX, hI, hL⟩ := hd
    have hmem := List.mem_of_find?_eq_some hfind
    have hp := orders_perm hmem
    have hpos : 0 < (ordersN h.length).countP (keptL h lv) := count_first.2 (by rw [hfind]; rfl)
    have hrl : (r.map Int.ofNat).length = h.length := by rw [List.length_map, hp.length_eq, List.length_range]
    rw [hrl] at hL
    have HAC := Lib.hid (first_accepts HC.out hp (List.find?_some hfind) hX)
    have CA := Lib.hid (fun wx (hx : Below w4.heap.size w4 wx) => aaccepts_any lv vo vs _ _ h B (B + 2) wx (HO.out _ (below_then h4 hx)) HC.out (HT.out _ (HW.out _ (below_then h4 hx))).1 (HT.out _ (HW.out _ (below_then h4 hx))).2 (hI.below hx) (hL.below hx))
    rw [HAC.out] at CA
    have CF := Lib.hid (fun wx (hx : Below w4.heap.size w4 wx) => first13_any _ vo h lv r wx HC.out (by omega) hfind (HH.out _ (HW.out _ (below_then h4 hx))) (hI.below hx))
    generalize (ordersN h.length).countP (keptL h lv) = N at *
    have hNi : (0 : Int) < (N : Int) := by omega
    obtain ⟨oo, oc, rfl, _⟩ := hI.form
    obtain ⟨so, sc, rfl, _⟩ := hL.form
    rw [hrl] at CA CF ⊢
    rw [seesL_len] at CA ⊢
    have W0 : WitS w4.heap.size (.slice oo h.length oc) (.slice so h.length sc) (w4.alloc (.cells #[.slice oo h.length oc, .slice so h.length sc] 32)) := by
      refine ⟨?_, ?_⟩ <;> (rw [cell_of_row _ _ _ _ _ _ (heap_alloc_new w4 _)]; rfl)
    have j5 := box_below w4 (.cells #[.slice oo h.length oc, .slice so h.length sc] 32)
    have C1 := Lib.hid (CK.out _ (below_then h4 j5))
    clear hfind CK hX hI hL hmem hp hrl HAC
    go_wp2_with fail
    refine (C1.out).mono ?_
    rintro e w6 ⟨rfl, h6⟩
    have W6 := W0.below h6
    have j6 := below_then j5 h6
    have C2 := Lib.hid (CB.out _ (below_then h4 j6))
    clear W0 h6 j5 C1 CB
    go_wp2_with fail
    refine (C2.out).mono ?_
    rintro e w7 ⟨rfl, h7⟩
    have W7 := W6.below h7
    have j7 := below_then j6 h7
    have C3 := Lib.hid (CA.out _ j7)
    obtain ⟨n0, n1⟩ := W7
    clear W6 j6 C2 CA
    go_wp2_with fail
    refine (C3.out).mono ?_
    rintro e w8 ⟨rfl, h8⟩
    obtain ⟨m0, m1⟩ := WitS.below ⟨n0, n1⟩ h8
    have j8 := below_then j7 h8
    have C4 := Lib.hid (CF.out _ j8)
    have HZ := Lib.hid (fun w9 (h9 : Below w8.heap.size w8 w9) => HW.out _ (below_then h4 (below_then j8 h9)))
    clear n0 n1 h8 j7 C3 CF h7 j8 h4
    go_wp2_with fail
    refine (C4.out).mono ?_
    rintro e w9 ⟨rfl, h9⟩
    have h9 := HZ.out _ h9
    clear m0 m1
    go_wp2_with fail
    go_ret
    exact ⟨rfl, h9⟩
end Go.Proofs.YtecpeegbfeijaaaGreatDoor
