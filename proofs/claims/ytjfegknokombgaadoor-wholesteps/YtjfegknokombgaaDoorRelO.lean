/- Walks: what the relation layer's statements ask first (three numbers). Condition: First's library table lies where it is laid. -/
import Derived.Test.YtjfegknokombgaaDoorRelN
import Derived.Test.YtjfegknokombgaaDoorRelL
import Derived.Deep.RegionWith
namespace Go.Proofs.YtjfegknokombgaaDoor
set_option maxRecDepth 100000
open Go.RowKit

/-- The three numbers' relation. -/
def spR : Mat := addM (addM (addM noR 0 2) 2 1) 0 64
theorem spSort : sortS spR 65 7 = some [0, 2, 1] := by decide +kernel
theorem spClo : hasR (clo spR) 0 1 = true := by decide +kernel
theorem spAcy : acy spR = true := by decide +kernel
theorem sp2_of (W : World) (v : Value) (h : Ints W v [0, 1, 2]) : Calls Tryd.prog 35 #[v] W fun e w' => e = .returned (.int .u64 ((7 : Nat) : Int)) ∧ W = w' := by
  have h := of_any _ [0, 1, 2] _ h
  have e : setL [0, 1, 2] = 7 := by decide
  rw [e] at h
  exact h
theorem isSet7 : IsSet 7 := by unfold IsSet; omega
theorem sp2_sorted (W : World) (ht : Tab W) : Calls Tryd.prog 15 #[.agg (rowsA spR), .int .u64 ((7 : Nat) : Int)] W fun e w' => ∃ v, e = .returned (.tuple #[v, .bool true]) ∧ Ints w' v [0, 2, 1] ∧ Below W.heap.size W w' := by
  refine (sorted_any spR 7 W isSet7 ht).mono ?_
  rintro e w' ⟨v, b, rfl, hs, hb⟩
  rw [spSort] at hs
  obtain ⟨rfl, hI⟩ := hs
  exact ⟨v, rfl, hI, hb⟩
theorem sp2_same (w1 : World) (v : Value) (hv : Ints w1 v [0, 2, 1]) : Calls Tryd.prog 18 #[v, .slice (some ⟨w1.heap.size, 0, none⟩) 3 3] (w1.alloc (.cells #[.int .i64 0, .int .i64 2, .int .i64 1] 3)) fun e w' => e = .returned (.bool true) ∧ Below (w1.heap.size + 1) (w1.alloc (.cells #[.int .i64 0, .int .i64 2, .int .i64 1] 3)) w' := by
  have h := same_any v _ [0, 2, 1] [0, 2, 1] _ (hv.below ((Below.refl _ _).alloc (Nat.le_refl _) _)) (ints_lit w1 [0, 2, 1] #[.int .i64 0, .int .i64 2, .int .i64 1] 3 rfl rfl (by decide))
  rw [show sameL [0, 2, 1] [0, 2, 1] = true from by decide] at h
  simpa using h
theorem sp2_has (W : World) : Calls Tryd.prog 47 #[.agg (rowsA (clo spR)), .int .i64 0, .int .i64 1] W fun e w' => e = .returned (.bool true) ∧ Below W.heap.size W w' := by
  have h := rhasR_any (clo spR) 0 1 W
  rwa [spClo] at h
theorem sp2_acy (W : World) : Calls Tryd.prog 38 #[.agg (rowsA spR)] W fun e w' => e = .returned (.bool true) ∧ Below W.heap.size W w' := by
  have h := acyclic_any spR W
  rwa [spAcy] at h
theorem sp2_cyc (W : World) (ht : Tab W) : Calls Tryd.prog 39 #[.agg (rowsA spR)] W fun e w' => ∃ ao cap, e = .returned (.slice ao 0 cap) ∧ Below W.heap.size W w' := by
  refine (cycle_any spR W ht).mono ?_
  rintro e w' ⟨v, C, rfl, hI, hC, hb⟩
  rcases hC with ⟨rfl, _⟩ | ⟨_, h⟩
  · obtain ⟨ao, cap, rfl, _⟩ := hI.form
    exact ⟨ao, cap, rfl, hb⟩
  · rw [spAcy] at h; cases h
theorem wp_load_rel {o : Oper} {a : Act} {w : World} {K : Act → World → Prop} {Q : Exit → Act → World → Prop} {g : Nat} {R : Mat} (h : RelAt w g 27 R) (x : Operand) (ho : o.op = .load 27 x)
    (hx : a.eval x = .pointer (some ⟨g, 0, none⟩)) (hn : K (a.put o.dst (.agg (rowsA R))) w) : o.wp Tryd.prog a w K Q :=
  wp_load_row 27 x ho g hx _ (rowsA R) _ _ h Tryd.underlying27 rfl (infoRel' _) hn
theorem wpList_load_rel_g {ops : Array Oper} {rest : List Oper} {o : Oper} {a : Act} {w : World} {Q : Exit → Act → World → Prop} {g : Nat} {R : Mat} (h : RelAt w g 27 R) (x : Operand) (ho : o.op = .load 27 x)
    (hw : Region.wanted o (yielded ops a.tmps) = true) (hx : a.eval x = .pointer (some ⟨g, 0, none⟩)) (hn : wpList Tryd.prog ops Q rest (a.put o.dst (.agg (rowsA R))) w) : wpList Tryd.prog ops Q (o :: rest) a w :=
  wpList_step fun K hK => by rw [if_pos hw]; exact wp_load_rel h x ho hx (hK _ _ hn)
set_option maxRecDepth 100000 in
set_option maxHeartbeats 2000000 in
theorem speaks2_any (w : World) (ht : Tab w) :
    Calls Tryd.prog 13 #[] w fun e w' => e = .returned (.bool true) ∧ Below w.heap.size w w' := by
  have hg := ht.pos
  have HT : Hid (∀ wx, Below w.heap.size w wx → Tab wx) := Lib.hid (fun wx hb => ht.below hb hg)
  clear ht
  have hr0 : Hid (RelAt (w.alloc (.cells (rowsA noR) 27)) w.heap.size 27 noR) := Lib.hid (RelAt.new w _ noR)
  go_enter Tryd.func13, Tryd.ntmps13
  go_wp2_with fail
  refine (add_any noR w.heap.size 0 2 _ (RelAt.made w _ noR rfl (by rw [rowsA_none]; rfl))).mono ?_
  rintro e w1 ⟨rfl, hr1, hg1⟩
  have hb1 : Below w.heap.size w w1 := ((Below.refl w.heap.size w).alloc (Nat.le_refl _) _).grown hg1 (by simp) (by simp)
  rw [show (mayB 0 && mayB 2) = true from by decide]
  clear hg1
  go_wp2_with fail
  refine (add_any _ w.heap.size 2 1 _ hr1).mono ?_
  rintro e w2 ⟨rfl, hr2, hg2⟩
  have hb2 := hb1.grown hg2 hb1.size (by simp)
  rw [show (mayB 2 && mayB 1) = true from by decide]
  clear hg2 hr1 hb1
  go_wp2_with fail
  refine (add_any _ w.heap.size 0 64 _ hr2).mono ?_
  rintro e w3 ⟨rfl, hr3, hg3⟩
  have hb3 := hb2.grown hg3 hb2.size (by simp)
  rw [show (mayB 0 && mayB 64) = false from by decide]
  clear hg3 hr2 hb2
  have hr : RelAt w3 w.heap.size 27 spR := hr3
  clear hr3
  have CS : Hid (∀ W : World, Tab W → Calls Tryd.prog 15 #[.agg (rowsA spR), .int .u64 ((7 : Nat) : Int)] W fun e w' => ∃ v, e = .returned (.tuple #[v, .bool true]) ∧ Ints w' v [0, 2, 1] ∧ Below W.heap.size W w') := Lib.hid sp2_sorted
  have hlit : Hid (Ints (w3.alloc (.cells #[.int .i64 0, .int .i64 1, .int .i64 2] 3)).drew (.slice (some ⟨w3.heap.size, 0, none⟩) 3 3) [0, 1, 2]) := Lib.hid ((ints_lit w3 [0, 1, 2] #[.int .i64 0, .int .i64 1, .int .i64 2] 3 rfl rfl (by decide)).below ((Below.refl _ _).drew))
  have hb4 : Below w.heap.size w (w3.alloc (.cells #[.int .i64 0, .int .i64 1, .int .i64 2] 3)).drew := (hb3.alloc hb3.size _).drew
  have hT4 := Lib.hid (HT.out _ hb4)
  have CC : Hid (∀ W : World, Calls Tryd.prog 44 #[.agg (rowsA spR)] W fun e w' => e = .returned (.agg (rowsA (clo spR))) ∧ Below W.heap.size W w') := Lib.hid (closure_any spR)
  have CH := Lib.hid sp2_has
  have CA := Lib.hid sp2_acy
  have CY := Lib.hid sp2_cyc
  generalize clo spR = C at *
  generalize spR = R at *
  have hr4 : RelAt (w3.alloc (.cells #[.int .i64 0, .int .i64 1, .int .i64 2] 3)).drew w.heap.size 27 R := hr.alloc _
  go_wp2_with fail
  refine wp_region_any (by kernel_rfl) ?_
  change wpAny _ _ _ _ _ _ _ (World.drew _)
  refine wpAny_ready (rs := [0, 1]) (by kernel_rfl) (by simp) ?_
  refine AllReady.cons rfl (fun K hK => ?_) (AllReady.cons rfl (fun K hK => ?_) AllReady.nil)
  · rw [if_pos (by rfl)]
    refine wp_load_rel (w := w3.drew) hr (.tmp 1) rfl rfl ?_
    refine hK _ _ ?_
    clear hK K
    refine wpAny_ready (rs := [1]) (by kernel_rfl) (by simp) ?_
    refine AllReady.cons rfl (fun K hK => ?_) AllReady.nil
    go_simp
    refine hK _ _ ?_
    clear hK K
    refine wpAny_ready (rs := [2]) (by kernel_rfl) (by simp) ?_
    refine AllReady.cons rfl (fun K hK => ?_) AllReady.nil
    go_simp
    refine (sp2_of _ _ hlit.out).mono ?_
    rintro e w' ⟨rfl, rfl⟩
    show K _ _
    refine hK _ _ ?_
    clear hK K
    refine wpAny_ready (rs := [3]) (by kernel_rfl) (by simp) ?_
    refine AllReady.cons rfl (fun K hK => ?_) AllReady.nil
    go_simp
    refine (CS.out _ hT4.out).mono ?_
    rintro e w5 ⟨v5, rfl, hI5, hb5⟩
    show K _ _
    refine hK _ _ ?_
    clear hK K
    refine wpAny_ready (rs := [4]) (by kernel_rfl) (by simp) ?_
    refine AllReady.cons rfl (fun K hK => ?_) AllReady.nil
    go_simp
    refine hK _ _ ?_
    clear hK K
    refine wpAny_take (i := 5) (v := ?v5A) rfl (by kernel_rfl) (by kernel_rfl) (by kernel_rfl) (fun _ _ _ h => h) (Or.inl ⟨by rfl, ?h5A⟩) ?r5A
    case h5A => (intro w; go_simp; try (with_reducible rfl))
    refine wpAny_take (i := 6) (v := ?v6A) rfl (by kernel_rfl) (by kernel_rfl) (by kernel_rfl) (fun _ _ _ h => h) (Or.inl ⟨by rfl, ?h6A⟩) ?r6A
    case h6A => (intro w; go_simp; try (with_reducible rfl))
    refine wpAny_ready (rs := [7]) (by kernel_rfl) (by simp) ?_
    refine AllReady.cons rfl (fun K hK => ?_) AllReady.nil
    go_simp
    refine hK _ _ ?_
    clear hK K
    refine wpAny_ready (rs := [8]) (by kernel_rfl) (by simp) ?_
    refine AllReady.cons rfl (fun K hK => ?_) AllReady.nil
    go_simp
    refine hK _ _ ?_
    clear hK K
    refine wpAny_done (by kernel_rfl) ?_ _
    go_wp2_with fail
    refine (sp2_same w5 v5 hI5).mono ?_
    rintro e w6 ⟨rfl, hb6⟩
    have hb56 : Below w5.heap.size w5 w6 := ((Below.refl w5.heap.size w5).alloc (Nat.le_refl _) _).trans (hb6.mono (by omega))
    have hr5 := hr4.below hb5 hr4.lt
    have hbw5 := hb4.trans (hb5.mono hb4.size)
    have hr6 := hr5.below hb56 hr5.lt
    have hbw6 := hbw5.trans (hb56.mono hbw5.size)
    clear hr hr4 hr5 hb56 hb6 hb5 hI5 hb4 hb3 hbw5
    go_wp2_with (with_reducible refine wpList_load_rel_g hr6 _ rfl (by kernel_rfl) rfl ?_)
    refine (CC.out w6).mono ?_
    rintro e w7 ⟨rfl, hb7⟩
    have hr7 := hr6.below hb7 hr6.lt
    have hbw7 := hbw6.trans (hb7.mono hbw6.size)
    clear hr6 hb7 hbw6
    go_wp2_with fail
    refine (CH.out w7).mono ?_
    rintro e w8 ⟨rfl, hb8⟩
    have hr8 := hr7.below hb8 hr7.lt
    have hbw8 := hbw7.trans (hb8.mono hbw7.size)
    clear hr7 hb8 hbw7
    go_wp2_with (with_reducible refine wpList_load_rel_g hr8 _ rfl (by kernel_rfl) rfl ?_)
    refine (CA.out w8).mono ?_
    rintro e w9 ⟨rfl, hb9⟩
    have hr9 := hr8.below hb9 hr8.lt
    have hbw9 := hbw8.trans (hb9.mono hbw8.size)
    clear hr8 hb9 hbw8
    go_wp2_with (with_reducible refine wpList_load_rel_g hr9 _ rfl (by kernel_rfl) rfl ?_)
    refine (CY.out w9 (HT.out _ hbw9)).mono ?_
    rintro e w10 ⟨ao, cap, rfl, hb10⟩
    have hbw10 := hbw9.trans (hb10.mono hbw9.size)
    clear hr9 hb10 hbw9
    go_wp2_with fail
    go_ret
    exact ⟨rfl, hbw10⟩
  · go_simp
    refine hK _ _ ?_
    clear hK K
    refine wpAny_ready (rs := [0, 2]) (by kernel_rfl) (by simp) ?_
    refine AllReady.cons rfl (fun K hK => ?_) (AllReady.cons rfl (fun K hK => ?_) AllReady.nil)
    · rw [if_pos (by rfl)]
      refine wp_load_rel (w := (w3.alloc (.cells #[.int .i64 0, .int .i64 1, .int .i64 2] 3)).drew) (hr.alloc _) (.tmp 1) rfl rfl ?_
      refine hK _ _ ?_
      clear hK K
      refine wpAny_ready (rs := [2]) (by kernel_rfl) (by simp) ?_
      refine AllReady.cons rfl (fun K hK => ?_) AllReady.nil
      go_simp
      refine (sp2_of _ _ hlit.out).mono ?_
      rintro e w' ⟨rfl, rfl⟩
      show K _ _
      refine hK _ _ ?_
      clear hK K
      refine wpAny_ready (rs := [3]) (by kernel_rfl) (by simp) ?_
      refine AllReady.cons rfl (fun K hK => ?_) AllReady.nil
      go_simp
      refine (CS.out _ hT4.out).mono ?_
      rintro e w5 ⟨v5, rfl, hI5, hb5⟩
      show K _ _
      refine hK _ _ ?_
      clear hK K
      refine wpAny_ready (rs := [4]) (by kernel_rfl) (by simp) ?_
      refine AllReady.cons rfl (fun K hK => ?_) AllReady.nil
      go_simp
      refine hK _ _ ?_
      clear hK K
      refine wpAny_take (i := 5) (v := ?v5B) rfl (by kernel_rfl) (by kernel_rfl) (by kernel_rfl) (fun _ _ _ h => h) (Or.inl ⟨by rfl, ?h5B⟩) ?r5B
      case h5B => (intro w; go_simp; try (with_reducible rfl))
      refine wpAny_take (i := 6) (v := ?v6B) rfl (by kernel_rfl) (by kernel_rfl) (by kernel_rfl) (fun _ _ _ h => h) (Or.inl ⟨by rfl, ?h6B⟩) ?r6B
      case h6B => (intro w; go_simp; try (with_reducible rfl))
      refine wpAny_ready (rs := [7]) (by kernel_rfl) (by simp) ?_
      refine AllReady.cons rfl (fun K hK => ?_) AllReady.nil
      go_simp
      refine hK _ _ ?_
      clear hK K
      refine wpAny_ready (rs := [8]) (by kernel_rfl) (by simp) ?_
      refine AllReady.cons rfl (fun K hK => ?_) AllReady.nil
      go_simp
      refine hK _ _ ?_
      clear hK K
      refine wpAny_done (by kernel_rfl) ?_ _
      go_wp2_with fail
      refine (sp2_same w5 v5 hI5).mono ?_
      rintro e w6 ⟨rfl, hb6⟩
      have hb56 : Below w5.heap.size w5 w6 := ((Below.refl w5.heap.size w5).alloc (Nat.le_refl _) _).trans (hb6.mono (by omega))
      have hr5 := hr4.below hb5 hr4.lt
      have hbw5 := hb4.trans (hb5.mono hb4.size)
      have hr6 := hr5.below hb56 hr5.lt
      have hbw6 := hbw5.trans (hb56.mono hbw5.size)
      clear hr hr4 hr5 hb56 hb6 hb5 hI5 hb4 hb3 hbw5
      go_wp2_with (with_reducible refine wpList_load_rel_g hr6 _ rfl (by kernel_rfl) rfl ?_)
      refine (CC.out w6).mono ?_
      rintro e w7 ⟨rfl, hb7⟩
      have hr7 := hr6.below hb7 hr6.lt
      have hbw7 := hbw6.trans (hb7.mono hbw6.size)
      clear hr6 hb7 hbw6
      go_wp2_with fail
      refine (CH.out w7).mono ?_
      rintro e w8 ⟨rfl, hb8⟩
      have hr8 := hr7.below hb8 hr7.lt
      have hbw8 := hbw7.trans (hb8.mono hbw7.size)
      clear hr7 hb8 hbw7
      go_wp2_with (with_reducible refine wpList_load_rel_g hr8 _ rfl (by kernel_rfl) rfl ?_)
      refine (CA.out w8).mono ?_
      rintro e w9 ⟨rfl, hb9⟩
      have hr9 := hr8.below hb9 hr8.lt
      have hbw9 := hbw8.trans (hb9.mono hbw8.size)
      clear hr8 hb9 hbw8
      go_wp2_with (with_reducible refine wpList_load_rel_g hr9 _ rfl (by kernel_rfl) rfl ?_)
      refine (CY.out w9 (HT.out _ hbw9)).mono ?_
      rintro e w10 ⟨ao, cap, rfl, hb10⟩
      have hbw10 := hbw9.trans (hb10.mono hbw9.size)
      clear hr9 hb10 hbw9
      go_wp2_with fail
      go_ret
      exact ⟨rfl, hbw10⟩
    · go_simp
      refine (sp2_of _ _ hlit.out).mono ?_
      rintro e w' ⟨rfl, rfl⟩
      show K _ _
      refine hK _ _ ?_
      clear hK K
      refine wpAny_ready (rs := [0]) (by kernel_rfl) (by simp) ?_
      refine AllReady.cons rfl (fun K hK => ?_) AllReady.nil
      rw [if_pos (by rfl)]
      refine wp_load_rel (w := (w3.alloc (.cells #[.int .i64 0, .int .i64 1, .int .i64 2] 3)).drew) (hr.alloc _) (.tmp 1) rfl rfl ?_
      refine hK _ _ ?_
      clear hK K
      refine wpAny_ready (rs := [3]) (by kernel_rfl) (by simp) ?_
      refine AllReady.cons rfl (fun K hK => ?_) AllReady.nil
      go_simp
      refine (CS.out _ hT4.out).mono ?_
      rintro e w5 ⟨v5, rfl, hI5, hb5⟩
      show K _ _
      refine hK _ _ ?_
      clear hK K
      refine wpAny_ready (rs := [4]) (by kernel_rfl) (by simp) ?_
      refine AllReady.cons rfl (fun K hK => ?_) AllReady.nil
      go_simp
      refine hK _ _ ?_
      clear hK K
      refine wpAny_take (i := 5) (v := ?v5C) rfl (by kernel_rfl) (by kernel_rfl) (by kernel_rfl) (fun _ _ _ h => h) (Or.inl ⟨by rfl, ?h5C⟩) ?r5C
      case h5C => (intro w; go_simp; try (with_reducible rfl))
      refine wpAny_take (i := 6) (v := ?v6C) rfl (by kernel_rfl) (by kernel_rfl) (by kernel_rfl) (fun _ _ _ h => h) (Or.inl ⟨by rfl, ?h6C⟩) ?r6C
      case h6C => (intro w; go_simp; try (with_reducible rfl))
      refine wpAny_ready (rs := [7]) (by kernel_rfl) (by simp) ?_
      refine AllReady.cons rfl (fun K hK => ?_) AllReady.nil
      go_simp
      refine hK _ _ ?_
      clear hK K
      refine wpAny_ready (rs := [8]) (by kernel_rfl) (by simp) ?_
      refine AllReady.cons rfl (fun K hK => ?_) AllReady.nil
      go_simp
      refine hK _ _ ?_
      clear hK K
      refine wpAny_done (by kernel_rfl) ?_ _
      go_wp2_with fail
      refine (sp2_same w5 v5 hI5).mono ?_
      rintro e w6 ⟨rfl, hb6⟩
      have hb56 : Below w5.heap.size w5 w6 := ((Below.refl w5.heap.size w5).alloc (Nat.le_refl _) _).trans (hb6.mono (by omega))
      have hr5 := hr4.below hb5 hr4.lt
      have hbw5 := hb4.trans (hb5.mono hb4.size)
      have hr6 := hr5.below hb56 hr5.lt
      have hbw6 := hbw5.trans (hb56.mono hbw5.size)
      clear hr hr4 hr5 hb56 hb6 hb5 hI5 hb4 hb3 hbw5
      go_wp2_with (with_reducible refine wpList_load_rel_g hr6 _ rfl (by kernel_rfl) rfl ?_)
      refine (CC.out w6).mono ?_
      rintro e w7 ⟨rfl, hb7⟩
      have hr7 := hr6.below hb7 hr6.lt
      have hbw7 := hbw6.trans (hb7.mono hbw6.size)
      clear hr6 hb7 hbw6
      go_wp2_with fail
      refine (CH.out w7).mono ?_
      rintro e w8 ⟨rfl, hb8⟩
      have hr8 := hr7.below hb8 hr7.lt
      have hbw8 := hbw7.trans (hb8.mono hbw7.size)
      clear hr7 hb8 hbw7
      go_wp2_with (with_reducible refine wpList_load_rel_g hr8 _ rfl (by kernel_rfl) rfl ?_)
      refine (CA.out w8).mono ?_
      rintro e w9 ⟨rfl, hb9⟩
      have hr9 := hr8.below hb9 hr8.lt
      have hbw9 := hbw8.trans (hb9.mono hbw8.size)
      clear hr8 hb9 hbw8
      go_wp2_with (with_reducible refine wpList_load_rel_g hr9 _ rfl (by kernel_rfl) rfl ?_)
      refine (CY.out w9 (HT.out _ hbw9)).mono ?_
      rintro e w10 ⟨ao, cap, rfl, hb10⟩
      have hbw10 := hbw9.trans (hb10.mono hbw9.size)
      clear hr9 hb10 hbw9
      go_wp2_with fail
      go_ret
      exact ⟨rfl, hbw10⟩
end Go.Proofs.YtjfegknokombgaaDoor
