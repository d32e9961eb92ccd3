/- The walk of the law on positions, there and back. Conditions: the table of the levels lies where it is laid; the bits are a number below 65536. -/
import Derived.Test.YtadihdkpoeibhaaDoorLatE
namespace Go.Proofs.YtadihdkpoeibhaaDoor
set_option maxRecDepth 100000
open Go.RowKit

set_option maxRecDepth 100000 in
set_option maxHeartbeats 4000000 in
theorem back19_walk (s : Nat) (w : World) (hs : s < 65536) (hK : Kinds w) : Calls Tryd.prog 4 #[.int .u16 s] w fun e w' => e = .returned (.bool true) ∧ Below w.heap.size w w' := by
  obtain ⟨i0, hi, hz0, hz1, hz2⟩ := info_parts infoIntL
  have HK := Lib.hid (fun wx (hb : Below w.heap.size w wx) => hK.below hb)
  have CS := Lib.hid (speaks19_any w hK)
  have CO := Lib.hid (fun wx => row19_any s wx hs)
  clear hK hs
  generalize bitB s = r at *
  have CL := Lib.hid (fun wx (hx : Below w.heap.size w wx) => latof_any r wx (HK.out _ hx))
  go_enter Tryd.func4, Tryd.ntmps4
  go_wp2_with fail
  refine (CS.out).mono ?_
  rintro e w1 ⟨rfl, hb1⟩
  clear CS
  go_wp2_with fail
  refine (CO.out _).mono ?_
  rintro e w2 ⟨rfl, hb⟩
  have hb2 := hb1.trans (hb.mono hb1.size)
  clear CO hb hb1
  have h0 : BRow (w2.alloc (.cells #[.bool false, .bool false, .bool false, .bool false, .bool false, .bool false, .bool false, .bool false, .bool false, .bool false, .bool false, .bool false] 25)) w2.heap.size noB := BRow.made w2 noB rfl rowB_none.symm
  have h1 := h0.setRow r
  go_wp2_with (first
    | (with_reducible refine wpList_store_rowB h0 r rfl _ _ rfl rfl rfl ?_)
    | (with_reducible refine wpList_load_rowB h1 rfl _ rfl rfl ?_))
  have hb3 : Below w2.heap.size w2 _ := below_setRow ((Below.refl w2.heap.size w2).alloc (Nat.le_refl _) (.cells #[.bool false, .bool false, .bool false, .bool false, .bool false, .bool false, .bool false, .bool false, .bool false, .bool false, .bool false, .bool false] 25)) (Nat.le_refl _) (rowB r)
  have hbw3 := hb2.trans (hb3.mono hb2.size)
  clear h0 hb3 hb2
  generalize (w2.alloc (.cells #[.bool false, .bool false, .bool false, .bool false, .bool false, .bool false, .bool false, .bool false, .bool false, .bool false, .bool false, .bool false] 25)).setRow w2.heap.size (rowB r) = w3 at *
  generalize w2.heap.size = g at *
  clear w2
  have hb33 := Below.refl w3.heap.size w3
  go_loopw [4, 17] (fun v i wr => ∃ k : Nat, k ≤ 12 ∧ i = .int .i64 k ∧ wr.ownsRow w3.heap.size 3 1 v (lvTo r k).length (natV (lvTo r k)) ∧ Below w3.heap.size w3 wr) (fun _ i _ => 12 - (intOf i).toNat)
  case atStart => exact ⟨0, by omega, rfl, World.ownsRow_nil _ _ _ _, hb33⟩
  case round =>
    clear hb33
    obtain ⟨k, hk, rfl, hown, hb⟩ := hrel
    have hll := lvTo_len r k
    by_cases hlt : k < 12
    · have hki : (k : Int) < 12 := by omega
      have hix := fun wx => run_index_rowB r k hlt wx
      have HL := Lib.hid (lvTo_succ r k)
      have hszr := hb.size
      cases hrk : r k with
      | false =>
        rw [hrk] at hix HL
        have HM : Hid (lvTo r (k + 1) = lvTo r k) := Lib.hid (by rw [HL.out]; simp)
        clear HL hrk
        go_wp2_with fail
        go_roundw
        case rel => exact ⟨k + 1, by omega, by go_num, by rw [HM.out]; exact hown, hb⟩
        case measure => simp [intOf]; omega
      | true =>
        rw [hrk] at hix HL
        have HM : Hid (lvTo r (k + 1) = lvTo r k ++ [k]) := Lib.hid (by rw [HL.out]; simp)
        clear HL hrk
        go_wp2_with (at_builtin; refine wpList_append_own _ rfl _ _ 27 rfl w3.heap.size 3 i0 (.int .i64 0) 1 8 Tryd.underlying27 hi hz0 hz1 hz2 rfl (by decide) _ _ _ rfl (hown.alloc _) ⟨_, 0, none⟩ 1 1 [.int .i64 (k : Int)] rfl rfl ?c1 ?c2 ?c3 ?c4 ?c5 ?_)
        case c1 => exact cell_one_new _ _ _
        case c2 => intro u hu; simp at hu; subst hu; rfl
        case c3 => unfold maxLen; omega
        case c4 => omega
        case c5 => simp; omega
        · intro v' w7 hown' hgrow _
          have hb' := below_app0 hb (Nat.le_refl _) hown (Nat.le_refl _) hgrow
          clear hown hb hgrow
          go_wp2_with fail
          go_roundw
          case rel =>
            refine ⟨k + 1, by omega, by go_num, ?_, hb'⟩
            rw [HM.out, natV_snoc, List.length_append]
            exact hown'
          case measure => simp [intOf]; omega
    · obtain rfl : k = 12 := by omega
      have hIl : Ints wr u4 (lvI r) := by
        have h := hown
        unfold natV at h
        have := Ints.of_owns (n := (lvTo r 12).length) (xs := lvI r) (by unfold lvI; rw [List.map_map]; exact h)
        exact this
      have h14 := h1.below hb h1.lt
      have hbw4 := hbw3.trans (hb.mono hbw3.size)
      have CL1 := Lib.hid (CL.out wr hbw4)
      clear hown hb h1 hbw3 CL hll
      go_wp2_with (with_reducible refine wpList_load_rowB h14 rfl _ rfl rfl ?_)
      refine (CL1.out).mono ?_
      rintro e w5 ⟨v1, v2, rfl, hO, h5⟩
      have hbw5 := hbw4.trans (h5.mono hbw4.size)
      have h15 := h14.below h5 h14.lt
      have hI5 := hIl.below h5
      have CR := Lib.hid (hO.row (HK.out _ hbw5) (Below.refl _ _))
      clear CL1 h5 h14 hIl hbw4 hO
      go_wp2_with fail
      refine (CR.out).mono ?_
      rintro e wA ⟨rfl, hA⟩
      have hbwA := hbw5.trans (hA.mono hbw5.size)
      have h1A := h15.below hA h15.lt
      have hI12 := hI5.below hA
      clear CR hA h15 hI5 hbw5
      have h0 : BRow (wA.alloc (.cells #[.bool false, .bool false, .bool false, .bool false, .bool false, .bool false, .bool false, .bool false, .bool false, .bool false, .bool false, .bool false] 25)) wA.heap.size noB := BRow.made wA noB rfl rowB_none.symm
      have h0s := h0.setRow (blw (stI r))
      have hbB : Below wA.heap.size wA _ := below_setRow ((Below.refl wA.heap.size wA).alloc (Nat.le_refl _) (.cells #[.bool false, .bool false, .bool false, .bool false, .bool false, .bool false, .bool false, .bool false, .bool false, .bool false, .bool false, .bool false] 25)) (Nat.le_refl _) (rowB (blw (stI r)))
      go_wp2_with (with_reducible refine wpList_store_rowB h0 (blw (stI r)) rfl _ _ rfl rfl rfl ?_)
      have h1B := h1A.below hbB h1A.lt
      have hI13 := hI12.below hbB
      have hbwB := hbwA.trans (hbB.mono hbwA.size)
      clear h0 hbB h1A hI12 hbwA
      generalize (wA.alloc (.cells #[.bool false, .bool false, .bool false, .bool false, .bool false, .bool false, .bool false, .bool false, .bool false, .bool false, .bool false, .bool false] 25)).setRow wA.heap.size (rowB (blw (stI r))) = wB at *
      generalize wA.heap.size = gb at *
      clear wA
      have HBS : Hid (∀ b, b < 12 → blw (stI r) b = (lvI r).any fun a => impB a (b : Int)) := Lib.hid (fun b hb => blw_strong r hb)
      have HEQ : Hid (cls r = true → rowB (blw (stI r)) = rowB r) := Lib.hid blw_shut
      have HLL : Hid ((lvI r).length ≤ 12) := Lib.hid (lvI_len r)
      have C9 := Lib.hid (rclosed_lv _ _ wB hI13)
      rw [cls_ref] at C9
      generalize lvI r = L at *
      generalize blw (stI r) = bw at *
      obtain ⟨al, capl, rfl, hll⟩ := hI13.form
      go_loopw [30] (fun i wr => ∃ k : Nat, k ≤ 12 ∧ i = .int .i64 k ∧ wB = wr) (fun i _ => 12 - (intOf i).toNat)
      case atStart => exact ⟨0, by omega, rfl, rfl⟩
      case round =>
        obtain ⟨k, hk, rfl, rfl⟩ := hrel
        by_cases hlt2 : k < 12
        · have hki : (k : Int) < 12 := by omega
          have hck := h0s.cell hlt2
          rw [HBS.out k hlt2] at hck
          go_wp2_with fail
          go_loopw [9, 35] (fun d i wr => ∃ j : Nat, j ≤ L.length ∧ i = .int .i64 j ∧ d = .bool ((L.take j).any fun a => impB a (k : Int)) ∧ wB = wr) (fun _ i _ => L.length - (intOf i).toNat)
          case atStart => exact ⟨0, by omega, rfl, rfl, rfl⟩
          case round =>
            obtain ⟨j, hj, rfl, rfl, rfl⟩ := hrel
            by_cases hlj : j < L.length
            · have hji : (j : Int) < (L.length : Int) := by omega
              obtain ⟨gj, oj, haoj, hcj⟩ := hI13.at hlj
              cases haoj
              have HT : Hid ((L.take (j + 1)).any (fun a => impB a (k : Int)) = ((L.take j).any (fun a => impB a (k : Int)) || impB L[j] (k : Int))) := Lib.hid (by rw [List.take_succ_eq_append_getElem hlj, List.any_append]; simp)
              generalize (L.take j).any (fun a => impB a (k : Int)) = d at *
              generalize L[j] = x at *
              have CI := Lib.hid (rimp_any x (k : Int) wB)
              generalize impB x (k : Int) = m at *
              cases d
              · have HM : Hid ((L.take (j + 1)).any (fun a => impB a (k : Int)) = m) := Lib.hid (by rw [HT.out]; rfl)
                clear HT
                go_wp2_with (go_at_call 8; refine (CI.out).mono ?_; rintro e w' ⟨rfl, rfl⟩)
                go_roundw
                case rel => exact ⟨j + 1, by omega, by go_num, by rw [HM.out], by trivial⟩
                case measure => simp [intOf]; omega
              · have HM : Hid ((L.take (j + 1)).any (fun a => impB a (k : Int)) = true) := Lib.hid (by rw [HT.out]; rfl)
                clear HT
                go_wp2_with fail
                go_roundw
                case rel => exact ⟨j + 1, by omega, by go_num, by rw [HM.out], by trivial⟩
                case measure => simp [intOf]; omega
            · have hjl : j = L.length := by omega
              subst hjl
              rw [List.take_length]
              generalize L.any (fun a => impB a (k : Int)) = d at *
              go_wp2_with fail
              go_roundw
              case rel => exact ⟨k + 1, by omega, by go_num, by trivial⟩
              case measure => simp [intOf]; omega
        · have hk12 : k = 12 := by omega
          subst hk12
          cases hcl : cls r
          · rw [hcl] at C9
            go_wp2_with fail
            refine (C9.out).mono ?_
            rintro e wC ⟨rfl, rfl⟩
            go_wp2_with fail
            go_ret
            exact ⟨rfl, hbwB⟩
          · rw [hcl] at C9
            have h0e := h0s.congr (HEQ.out hcl)
            have G0 := fun (x y : Operand) (w : World) => guard_rowB .eql x y r r w
            have E0 := fun (w : World) => run_eql_rowB r w
            clear HK HEQ HBS h0s
            go_wp2_with fail
            refine (C9.out).mono ?_
            rintro e wC ⟨rfl, rfl⟩
            go_wp2_with (first
              | (with_reducible refine wpList_load_rowB_g h0e _ rfl (by kernel_rfl) rfl ?_)
              | (with_reducible refine wpList_load_rowB_g h1B _ rfl (by kernel_rfl) rfl ?_))
            go_ret
            exact ⟨rfl, hbwB⟩
end Go.Proofs.YtadihdkpoeibhaaDoor
