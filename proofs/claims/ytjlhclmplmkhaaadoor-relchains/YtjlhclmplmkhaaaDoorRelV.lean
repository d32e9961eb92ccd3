/- The walk of the statement on rows: it answers true. Condition: First's library table lies where it is laid; slices' cells are known. -/
import Derived.Test.YtjlhclmplmkhaaaDoorRelU
import Derived.Test.YtjlhclmplmkhaaaDoorRelW
namespace Go.Proofs.YtjlhclmplmkhaaaDoor
open Go.RowKit

set_option maxRecDepth 100000 in
set_option maxHeartbeats 8000000 in
theorem chains_walk (va : Value) (l : List Int) (w : World) (ht : Tab w) (ha : Ints w va l) :
    Calls Tryd.prog 9 #[va] w fun e w' => e = .returned (.bool true) ∧ Below w.heap.size w w' := by
  have hg := ht.pos
  have HT : Hid (∀ wx, Below w.heap.size w wx → Tab wx) := Lib.hid (fun wx hb => ht.below hb hg)
  clear ht
  obtain ⟨ao, cap, rfl, ⟨hlc, hcm⟩, hno⟩ := ha.full
  have hal : l.length ≤ 9223372036854775807 := Nat.le_trans hlc hcm
  by_cases hbig : 80 < l.length
  · go_enter Tryd.func9, Tryd.ntmps9
    go_wp2_with fail
    refine (speaks2_any w (HT.out _ (Below.refl _ _))).mono ?_
    rintro e w1 ⟨rfl, hb1⟩
    go_wp2_with fail
    go_ret
    exact ⟨rfl, hb1⟩
  have hl80 : l.length ≤ 80 := by omega
  clear hbig
  go_enter Tryd.func9, Tryd.ntmps9
  go_wp2_with fail
  refine (speaks2_any w (HT.out _ (Below.refl _ _))).mono ?_
  rintro e w1 ⟨rfl, hb1⟩
  have ha1 := ha.below hb1
  clear ha
  go_wp2_with fail
  refine (chain_any _ l w1 ha1).mono ?_
  rintro e w2 ⟨rfl, hb2⟩
  have hbb := hb1.trans (hb2.mono hb1.size)
  have hI2 := ha1.below hb2
  clear ha1 hb1 hb2
  have hz := zero_block w2
  have hz2 := hz.setRow (chainR l)
  have hzb := zero_below w2 (chainR l)
  have hI3 := hI2.below hzb
  have hb3 := hbb.trans (hzb.mono hbb.size)
  have HREP := Lib.hid (rep_chain l)
  have HACY := Lib.hid (chain_acy l)
  have HCLO := Lib.hid (chain_clo l)
  clear hI2 hbb hzb
  generalize chainR l = R at *
  go_wp2_with (with_reducible refine wpList_store_rel hz R rfl _ _ rfl rfl rfl ?_)
  clear hz
  generalize World.setRow _ _ _ = w3 at *
  have HB : Hid (∀ wx, Below w3.heap.size w3 wx → RelAt wx w2.heap.size 42 R ∧ Ints wx (.slice ao l.length cap) l ∧ Below w.heap.size w wx) := Lib.hid (fun wx hb =>
    ⟨hz2.below hb hz2.lt, hI3.below hb, hb3.trans (hb.mono hb3.size)⟩)
  clear hz2 hI3 hb3
  go_loopw [4, 5, 20] (fun v t i wr => ∃ k : Nat, k ≤ l.length ∧ i = .int .i64 k ∧ t = .bool (rowT l k) ∧ Prs wr v (rowP l k) ∧ Below w3.heap.size w3 wr) (fun _ _ i _ => l.length - (intOf i).toNat)
  case atStart =>
    exact ⟨0, by omega, rfl, rfl, Prs.of_owns (l := []) (base := 0) (e := 47) (World.ownsRow_nil _ _ _ _), Below.refl _ _⟩
  case round =>
    obtain ⟨k, hk, rfl, rfl, hp, hb⟩ := hrel
    by_cases hlt : k < l.length
    · have hki : (k : Int) < (l.length : Int) := by omega
      have hdk : decide ((k : Int) < (l.length : Int)) = true := by simp; omega
      obtain ⟨p, off, hao, hc⟩ := (HB.out _ hb).2.1.at hlt
      cases hao
      have HP := Lib.hid hp
      clear hp
      have hki2 : (k : Int) + 1 ≤ (l.length : Int) := by omega
      have hlci : (l.length : Int) ≤ (cap : Int) := by omega
      have HRT : Hid (rowT l (k + 1) = inT (rowT l k) l[k] (l.drop (k + 1))) := Lib.hid (by
        show inT (rowT l k) (l.getD k 0) (l.drop (k + 1)) = _
        simp [List.getD, hlt])
      have HRP : Hid (rowP l (k + 1) = inP (rowP l k) l[k] (l.drop (k + 1))) := Lib.hid (by
        show inP (rowP l k) (l.getD k 0) (l.drop (k + 1)) = _
        simp [List.getD, hlt])
      by_cases hcap : k + 1 = cap
      · subst hcap
        have hd : l.drop (k + 1) = [] := List.drop_eq_nil_of_le (by omega)
        have hl0 : l.length = k + 1 := by omega
        have HRT' : Hid (rowT l (k + 1) = rowT l k) := Lib.hid (by rw [HRT.out, hd]; rfl)
        have HRP' : Hid (rowP l (k + 1) = rowP l k) := Lib.hid (by rw [HRP.out, hd]; rfl)
        clear HRT HRP hd
        generalize rowT l k = t0 at *
        generalize rowP l k = o at *
        generalize l[k] = a at *
        go_wp2_with fail
        have hl0' : l.length - (k + 1) = 0 := by omega
        try rw [hl0']
        refine wp_loop_rounds 1 ?_
        rw [rounds_succ]
        go_wp2_with fail
        go_roundw
        case rel => exact ⟨k + 1, by omega, by go_num, by rw [HRT'.out], by rw [HRP'.out]; exact HP.out, hb⟩
        case measure => simp [intOf]; omega
      · have hcap2 : k + 1 < cap := by omega
        have hcapi : (k : Int) + 1 < (cap : Int) := by omega
        have HM : Hid (∀ j (hj : j < (l.drop (k + 1)).length), ∀ wx, Below w3.heap.size w3 wx → wx.cell? ⟨p, off + (k + 1) + j, none⟩ = some (.int .i64 (l.drop (k + 1))[j])) := Lib.hid (fun j hj wx hbx => by
          have hj' : k + 1 + j < l.length := by simp at hj; omega
          obtain ⟨p2, off2, e, hc2⟩ := (HB.out _ hbx).2.1.at hj'
          cases e
          rw [List.getElem_drop, Nat.add_assoc]; exact hc2)
        have hml : (l.drop (k + 1)).length = l.length - (k + 1) := by simp
        have hol := rowP_len l k
        have hol2 : k * l.length ≤ 80 * 80 := Nat.mul_le_mul (by omega) hl80
        have hol3 : (rowP l k).length ≤ 6400 := by omega
        clear hol hol2
        have HRT1 := Lib.hid (inT_succ (rowT l k) l[k] (l.drop (k + 1)))
        have HRP1 := Lib.hid (inP_succ (rowP l k) l[k] (l.drop (k + 1)))
        have HPL := Lib.hid (fun j => inP_len (a := l[k]) ((l.drop (k + 1)).take j) (rowP l k))
        generalize rowT l k = t0 at *
        generalize rowP l k = o at *
        generalize l[k] = a at *
        go_wp2_with fail
        rw [← hml]
        have hml80 : (l.drop (k + 1)).length ≤ 80 := by omega
        clear hml
        generalize l.drop (k + 1) = M at *
        go_loopw [4, 5, 30] (fun v t i wx => ∃ j : Nat, j ≤ M.length ∧ i = .int .i64 j ∧ t = .bool (inT t0 a (M.take j)) ∧ Prs wx v (inP o a (M.take j)) ∧ Below w3.heap.size w3 wx) (fun _ _ i _ => M.length - (intOf i).toNat)
        case atStart => exact ⟨0, by omega, rfl, rfl, HP.out, hb⟩
        case round =>
          obtain ⟨j, hj, rfl, rfl, hpx, hbx⟩ := hrel
          by_cases hjl : j < M.length
          · have hji : (j : Int) < (M.length : Int) := by omega
            have hcx := HM.out j hjl wr hbx
            have HT1 := Lib.hid (HRT1.out j hjl)
            have HP1 := Lib.hid (HRP1.out j hjl)
            have hlen1 := HPL.out j
            have hlen2 : (M.take j).length ≤ M.length := by simp; omega
            have hlen3 : (inP o a (M.take j)).length ≤ 100000 := by omega
            clear hlen1 hlen2
            have HPx := Lib.hid hpx
            clear hpx
            generalize inP o a (M.take j) = oj at *
            generalize inT t0 a (M.take j) = tj at *
            generalize M[j] = b at *
            obtain ⟨pb0, pb1⟩ := pair_block wr a b
            have hba : Below wr.heap.size wr (wr.alloc (.cells #[.int .i64 a, .int .i64 b] 47)) := (Below.refl _ _).alloc (Nat.le_refl _) _
            have CR := fun wx => right_any a b wx
            have HPa := Lib.hid (HPx.out.below hba)
            have hbA := hbx.trans (hba.mono hbx.size)
            cases hrb : rightB (a, b)
            · rw [hrb] at CR
              have CRH := Lib.hid CR
              have HT2 : Hid (inT t0 a (M.take (j + 1)) = tj) := Lib.hid (by rw [HT1.out, hrb]; rfl)
              have HP2 : Hid (inP o a (M.take (j + 1)) = oj) := Lib.hid (by rw [HP1.out, hrb]; rfl)
              clear CR hrb HT1 HP1
              go_wp2_with fail
              refine (CRH.out _).mono ?_
              rintro e wR ⟨rfl, hbR⟩
              have HPR := Lib.hid (HPa.out.below hbR)
              have hbRR := hbA.trans (hbR.mono hbA.size)
              clear hbR pb0 pb1 hba hcx
              go_wp2_with fail
              go_roundw
              case rel => exact ⟨j + 1, by omega, by go_num, by rw [HT2.out], by rw [HP2.out]; exact HPR.out, hbRR⟩
              case measure => simp [intOf]; omega
            · rw [hrb] at CR
              have CRH := Lib.hid CR
              have HT2 : Hid (inT t0 a (M.take (j + 1)) = (tj || a == b)) := Lib.hid (by rw [HT1.out, hrb]; rfl)
              have HP2 : Hid (inP o a (M.take (j + 1)) = putP oj a b) := Lib.hid (by rw [HP1.out, hrb]; rfl)
              clear CR hrb HT1 HP1
              go_wp2_with fail
              refine (CRH.out _).mono ?_
              rintro e wR ⟨rfl, hbR⟩
              have HPR := Lib.hid (HPa.out.below hbR)
              have hbRR := hbA.trans (hbR.mono hbA.size)
              clear hbR pb0 pb1 hba hcx
              go_wp2_with fail
              refine (put_any _ oj a b _ HPR.out (by omega)).mono ?_
              rintro e wP ⟨vP, rfl, hpP, hbP⟩
              have HPP := Lib.hid hpP
              have hbPP := hbRR.trans (hbP.mono hbRR.size)
              clear hpP hbP
              cases tj
              · go_wp2_with fail
                go_roundw
                case rel => exact ⟨j + 1, by omega, by go_num, by rw [HT2.out, Bool.false_or], by rw [HP2.out]; exact HPP.out, hbPP⟩
                case measure => simp [intOf]; omega
              · go_wp2_with fail
                go_roundw
                case rel => exact ⟨j + 1, by omega, by go_num, by rw [HT2.out, Bool.true_or], by rw [HP2.out]; exact HPP.out, hbPP⟩
                case measure => simp [intOf]; omega
          · have hjm : j = M.length := by omega
            subst hjm
            have HPx : Hid (Prs wr u4 (inP o a M)) := Lib.hid (by rwa [List.take_length] at hpx)
            clear hpx
            rw [List.take_length]
            have HTx : Hid (rowT l (k + 1) = inT t0 a M) := HRT
            generalize inT t0 a M = tj at *
            go_wp2_with fail
            go_roundw
            case rel => exact ⟨k + 1, by omega, by go_num, by rw [HTx.out], by rw [HRP.out]; exact HPx.out, hbx⟩
            case measure => simp [intOf]; omega
    · have hkl : k = l.length := by omega
      subst hkl
      have HP := Lib.hid hp
      clear hp
      have CS : Hid (∀ W, Prs W u4 (rowP l l.length) → Calls Tryd.prog 29 #[.agg (rowsA R), u4] W fun e w' => e = .returned (.bool true) ∧ Below W.heap.size W w') := Lib.hid (fun W h => by
        have h2 := same2_any R u4 _ W h
        rwa [same_rep HREP.out] at h2)
      have CA : Hid (∀ W, Calls Tryd.prog 39 #[.agg (rowsA R)] W fun e w' => e = .returned (.bool (!rowT l l.length)) ∧ Below W.heap.size W w') := Lib.hid (fun W => by
        have h2 := acyclic_any R W
        rwa [HACY.out] at h2)
      have CC : Hid (rowT l l.length = false → ∀ W, Calls Tryd.prog 36 #[.agg (rowsA R)] W fun e w' => e = .returned (.agg (rowsA R)) ∧ Below W.heap.size W w') := Lib.hid (fun h W => by
        have h2 := closure_any R W
        rwa [HCLO.out h] at h2)
      have HBW : Hid (∀ wx, Below wr.heap.size wr wx → RelAt wx w2.heap.size 42 R ∧ Prs wx u4 (rowP l l.length) ∧ Below w.heap.size w wx) := Lib.hid (fun wx hbx =>
        have h3 := HB.out wx (hb.trans (hbx.mono hb.size))
        ⟨h3.1, HP.out.below hbx, h3.2.2⟩)
      have hb0 : Below wr.heap.size wr wr.drew := (Below.refl _ _).drew
      clear HREP HACY HCLO HB hb HP
      generalize rowT l l.length = t at *
      go_wp2_with fail
      refine wp_region_any (by kernel_rfl) ?_
      change wpAny _ _ _ _ _ _ _ (World.drew _)
      refine wpAny_take (i := 1) (v := ?v1) rfl (by kernel_rfl) (by kernel_rfl) (by kernel_rfl) (fun _ _ _ h => h) (Or.inl ⟨by rfl, ?h1⟩) ?r1
      case h1 => (intro w; go_simp; try (with_reducible rfl))
      refine wpAny_ready (rs := [0]) (by kernel_rfl) (by simp) ?_
      refine AllReady.cons rfl (fun K hK => ?_) AllReady.nil
      rw [if_pos (by rfl)]
      refine wp_load_rel (HBW.out _ hb0).1 (.tmp 3) rfl rfl ?_
      refine hK _ _ ?_
      clear hK K
      refine wpAny_ready (rs := [2]) (by kernel_rfl) (by simp) ?_
      refine AllReady.cons rfl (fun K hK => ?_) AllReady.nil
      go_simp
      refine (CS.out _ (HBW.out _ hb0).2.1).mono ?_
      rintro e q1 ⟨rfl, hbn⟩
      have hb1 := hb0.trans (hbn.mono hb0.size)
      clear hbn
      show K _ _
      refine hK _ _ ?_
      clear hK K
      refine wpAny_take (i := 3) (v := ?v2) rfl (by kernel_rfl) (by kernel_rfl) (by kernel_rfl) (fun _ _ _ h => h) (Or.inl ⟨by rfl, ?h2⟩) ?r2
      case h2 => (intro w; go_simp; try (with_reducible rfl))
      refine wpAny_take (i := 6) (v := ?v3) rfl (by kernel_rfl) (by kernel_rfl) (by kernel_rfl) (fun _ _ _ h => h) (Or.inl ⟨by rfl, ?h3⟩) ?r3
      case h3 => (intro w; go_simp; try (with_reducible rfl))
      refine wpAny_take (i := 7) (v := ?v4) rfl (by kernel_rfl) (by kernel_rfl) (by kernel_rfl) (fun _ _ _ h => h) (Or.inl ⟨by rfl, ?h4⟩) ?r4
      case h4 => (intro w; go_simp; try (with_reducible rfl))
      refine wpAny_ready (rs := [4]) (by kernel_rfl) (by simp) ?_
      refine AllReady.cons rfl (fun K hK => ?_) AllReady.nil
      rw [if_pos (by rfl)]
      refine wp_load_rel (HBW.out _ hb1).1 (.tmp 3) rfl rfl ?_
      refine hK _ _ ?_
      clear hK K
      refine wpAny_ready (rs := [5]) (by kernel_rfl) (by simp) ?_
      refine AllReady.cons rfl (fun K hK => ?_) AllReady.nil
      go_simp
      refine (CA.out _).mono ?_
      rintro e q2 ⟨rfl, hbn⟩
      have hb2 := hb1.trans (hbn.mono hb1.size)
      clear hbn
      show K _ _
      refine hK _ _ ?_
      clear hK K
      cases t
      · have CCF := Lib.hid (CC.out rfl)
        refine wpAny_ready (rs := [8]) (by kernel_rfl) (by simp) ?_
        refine AllReady.cons rfl (fun K hK => ?_) AllReady.nil
        go_simp
        refine hK _ _ ?_
        clear hK K
        refine wpAny_ready (rs := [9]) (by kernel_rfl) (by simp) ?_
        refine AllReady.cons rfl (fun K hK => ?_) AllReady.nil
        go_simp
        refine hK _ _ ?_
        clear hK K
        refine wpAny_ready (rs := [10]) (by kernel_rfl) (by simp) ?_
        refine AllReady.cons rfl (fun K hK => ?_) AllReady.nil
        go_simp
        refine hK _ _ ?_
        clear hK K
        refine wpAny_ready (rs := [11]) (by kernel_rfl) (by simp) ?_
        refine AllReady.cons rfl (fun K hK => ?_) AllReady.nil
        go_simp
        refine hK _ _ ?_
        clear hK K
        refine wpAny_ready (rs := [12]) (by kernel_rfl) (by simp) ?_
        refine AllReady.cons rfl (fun K hK => ?_) AllReady.nil
        go_simp
        refine hK _ _ ?_
        clear hK K
        refine wpAny_ready (rs := [13, 15]) (by kernel_rfl) (by simp) ?_
        refine AllReady.cons rfl ?_ ?_
        · intro K hK
          rw [if_pos (by rfl)]
          refine wp_load_rel (HBW.out _ hb2).1 (.tmp 3) rfl rfl ?_
          refine hK _ _ ?_
          clear hK K
          refine wpAny_ready (rs := [14, 15]) (by kernel_rfl) (by simp) ?_
          refine AllReady.cons rfl ?_ ?_
          · intro K hK
            go_simp
            refine (CCF.out _).mono ?_
            rintro e q3 ⟨rfl, hbn⟩
            have hb3 := hb2.trans (hbn.mono hb2.size)
            clear hbn
            show K _ _
            refine hK _ _ ?_
            clear hK K
            refine wpAny_ready (rs := [15]) (by kernel_rfl) (by simp) ?_
            refine AllReady.cons rfl (fun K hK => ?_) AllReady.nil
            rw [if_pos (by rfl)]
            refine wp_load_rel (HBW.out _ hb3).1 (.tmp 3) rfl rfl ?_
            refine hK _ _ ?_
            clear hK K
            refine wpAny_ready (rs := [16]) (by kernel_rfl) (by simp) ?_
            refine AllReady.cons rfl (fun K hK => ?_) AllReady.nil
            rw [if_pos (by rfl)]
            refine wp_eql_rel (R := R) (.tmp 65) (.tmp 66) rfl rfl rfl ?_
            refine hK _ _ ?_
            clear hK K
            refine wpAny_ready (rs := [17]) (by kernel_rfl) (by simp) ?_
            refine AllReady.cons rfl (fun K hK => ?_) AllReady.nil
            go_simp
            refine hK _ _ ?_
            clear hK K
            refine wpAny_ready (rs := [18]) (by kernel_rfl) (by simp) ?_
            refine AllReady.cons rfl (fun K hK => ?_) AllReady.nil
            go_simp
            refine hK _ _ ?_
            clear hK K
            refine wpAny_ready (rs := [19]) (by kernel_rfl) (by simp) ?_
            refine AllReady.cons rfl (fun K hK => ?_) AllReady.nil
            go_simp
            refine hK _ _ ?_
            clear hK K
            refine wpAny_done (by kernel_rfl) ?_ _
            go_wp2_with fail
            go_ret
            exact ⟨rfl, (HBW.out _ hb3).2.2⟩
          · refine AllReady.cons rfl ?_ AllReady.nil
            intro K hK
            rw [if_pos (by rfl)]
            refine wp_load_rel (HBW.out _ hb2).1 (.tmp 3) rfl rfl ?_
            refine hK _ _ ?_
            clear hK K
            refine wpAny_ready (rs := [14]) (by kernel_rfl) (by simp) ?_
            refine AllReady.cons rfl (fun K hK => ?_) AllReady.nil
            go_simp
            refine (CCF.out _).mono ?_
            rintro e q3 ⟨rfl, hbn⟩
            have hb3 := hb2.trans (hbn.mono hb2.size)
            clear hbn
            show K _ _
            refine hK _ _ ?_
            clear hK K
            refine wpAny_ready (rs := [16]) (by kernel_rfl) (by simp) ?_
            refine AllReady.cons rfl (fun K hK => ?_) AllReady.nil
            rw [if_pos (by rfl)]
            refine wp_eql_rel (R := R) (.tmp 65) (.tmp 66) rfl rfl rfl ?_
            refine hK _ _ ?_
            clear hK K
            refine wpAny_ready (rs := [17]) (by kernel_rfl) (by simp) ?_
            refine AllReady.cons rfl (fun K hK => ?_) AllReady.nil
            go_simp
            refine hK _ _ ?_
            clear hK K
            refine wpAny_ready (rs := [18]) (by kernel_rfl) (by simp) ?_
            refine AllReady.cons rfl (fun K hK => ?_) AllReady.nil
            go_simp
            refine hK _ _ ?_
            clear hK K
            refine wpAny_ready (rs := [19]) (by kernel_rfl) (by simp) ?_
            refine AllReady.cons rfl (fun K hK => ?_) AllReady.nil
            go_simp
            refine hK _ _ ?_
            clear hK K
            refine wpAny_done (by kernel_rfl) ?_ _
            go_wp2_with fail
            go_ret
            exact ⟨rfl, (HBW.out _ hb3).2.2⟩
        · refine AllReady.cons rfl ?_ AllReady.nil
          intro K hK
          rw [if_pos (by rfl)]
          refine wp_load_rel (HBW.out _ hb2).1 (.tmp 3) rfl rfl ?_
          refine hK _ _ ?_
          clear hK K
          refine wpAny_ready (rs := [13]) (by kernel_rfl) (by simp) ?_
          refine AllReady.cons rfl (fun K hK => ?_) AllReady.nil
          rw [if_pos (by rfl)]
          refine wp_load_rel (HBW.out _ hb2).1 (.tmp 3) rfl rfl ?_
          refine hK _ _ ?_
          clear hK K
          refine wpAny_ready (rs := [14]) (by kernel_rfl) (by simp) ?_
          refine AllReady.cons rfl (fun K hK => ?_) AllReady.nil
          go_simp
          refine (CCF.out _).mono ?_
          rintro e q3 ⟨rfl, hbn⟩
          have hb3 := hb2.trans (hbn.mono hb2.size)
          clear hbn
          show K _ _
          refine hK _ _ ?_
          clear hK K
          refine wpAny_ready (rs := [16]) (by kernel_rfl) (by simp) ?_
          refine AllReady.cons rfl (fun K hK => ?_) AllReady.nil
          rw [if_pos (by rfl)]
          refine wp_eql_rel (R := R) (.tmp 65) (.tmp 66) rfl rfl rfl ?_
          refine hK _ _ ?_
          clear hK K
          refine wpAny_ready (rs := [17]) (by kernel_rfl) (by simp) ?_
          refine AllReady.cons rfl (fun K hK => ?_) AllReady.nil
          go_simp
          refine hK _ _ ?_
          clear hK K
          refine wpAny_ready (rs := [18]) (by kernel_rfl) (by simp) ?_
          refine AllReady.cons rfl (fun K hK => ?_) AllReady.nil
          go_simp
          refine hK _ _ ?_
          clear hK K
          refine wpAny_ready (rs := [19]) (by kernel_rfl) (by simp) ?_
          refine AllReady.cons rfl (fun K hK => ?_) AllReady.nil
          go_simp
          refine hK _ _ ?_
          clear hK K
          refine wpAny_done (by kernel_rfl) ?_ _
          go_wp2_with fail
          go_ret
          exact ⟨rfl, (HBW.out _ hb3).2.2⟩
      · skip
        refine wpAny_ready (rs := [8]) (by kernel_rfl) (by simp) ?_
        refine AllReady.cons rfl (fun K hK => ?_) AllReady.nil
        go_simp
        refine hK _ _ ?_
        clear hK K
        refine wpAny_ready (rs := [9]) (by kernel_rfl) (by simp) ?_
        refine AllReady.cons rfl (fun K hK => ?_) AllReady.nil
        go_simp
        refine hK _ _ ?_
        clear hK K
        refine wpAny_ready (rs := [10]) (by kernel_rfl) (by simp) ?_
        refine AllReady.cons rfl (fun K hK => ?_) AllReady.nil
        go_simp
        refine hK _ _ ?_
        clear hK K
        refine wpAny_ready (rs := [11]) (by kernel_rfl) (by simp) ?_
        refine AllReady.cons rfl (fun K hK => ?_) AllReady.nil
        go_simp
        refine hK _ _ ?_
        clear hK K
        refine wpAny_ready (rs := [12]) (by kernel_rfl) (by simp) ?_
        refine AllReady.cons rfl (fun K hK => ?_) AllReady.nil
        go_simp
        refine hK _ _ ?_
        clear hK K
        refine wpAny_take (i := 13) (v := undef) rfl (by kernel_rfl) (by kernel_rfl) (by kernel_rfl) (fun _ _ _ h => h) (Or.inr ⟨by rfl, rfl⟩) ?r5
        refine wpAny_take (i := 14) (v := undef) rfl (by kernel_rfl) (by kernel_rfl) (by kernel_rfl) (fun _ _ _ h => h) (Or.inr ⟨by rfl, rfl⟩) ?r6
        refine wpAny_take (i := 15) (v := undef) rfl (by kernel_rfl) (by kernel_rfl) (by kernel_rfl) (fun _ _ _ h => h) (Or.inr ⟨by rfl, rfl⟩) ?r7
        refine wpAny_take (i := 16) (v := undef) rfl (by kernel_rfl) (by kernel_rfl) (by kernel_rfl) (fun _ _ _ h => h) (Or.inr ⟨by rfl, rfl⟩) ?r8
        refine wpAny_ready (rs := [17]) (by kernel_rfl) (by simp) ?_
        refine AllReady.cons rfl (fun K hK => ?_) AllReady.nil
        go_simp
        refine hK _ _ ?_
        clear hK K
        refine wpAny_ready (rs := [18]) (by kernel_rfl) (by simp) ?_
        refine AllReady.cons rfl (fun K hK => ?_) AllReady.nil
        go_simp
        refine hK _ _ ?_
        clear hK K
        refine wpAny_ready (rs := [19]) (by kernel_rfl) (by simp) ?_
        refine AllReady.cons rfl (fun K hK => ?_) AllReady.nil
        go_simp
        refine hK _ _ ?_
        clear hK K
        refine wpAny_done (by kernel_rfl) ?_ _
        go_wp2_with fail
        go_ret
        exact ⟨rfl, (HBW.out _ hb2).2.2⟩
end Go.Proofs.YtjlhclmplmkhaaaDoor
