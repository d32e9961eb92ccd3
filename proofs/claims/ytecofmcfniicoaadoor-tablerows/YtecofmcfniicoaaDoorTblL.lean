/- The walk of the law on rows of levels. Conditions: the table of the levels lies where it is laid; the bits are a number below 65536. -/
import Derived.Test.YtecofmcfniicoaaDoorTblK
import Derived.Test.YtecofmcfniicoaaDoorTblI
import Derived.Test.YtecofmcfniicoaaDoorSetF
import Derived.Test.YtecofmcfniicoaaDoorTblM
namespace Go.Proofs.YtecofmcfniicoaaDoor
set_option maxRecDepth 100000
open Go.RowKit

set_option maxHeartbeats 4000000 in
theorem rows10_walk (s : Nat) (w : World) (hs : s < 65536) (hK : Kinds w) : Calls Tryd.prog 6 #[.int .u16 s] w fun e w' => e = .returned (.bool true) ∧ Below w.heap.size w w' := by
  obtain ⟨i0, hi, hz0, hz1, hz2⟩ := info_parts infoIntL
  have HK := Lib.hid (fun wx (hb : Below w.heap.size w wx) => hK.below hb)
  have CS := Lib.hid (speaks10_any w hK)
  have CO := Lib.hid (fun wx => of10_any s wx hs)
  clear hK hs
  obtain ⟨r, hr⟩ : ∃ r : Nat → Bool, r = fun i => s.testBit i := ⟨_, rfl⟩
  have HLV : Hid ((lvTo (fun i => s.testBit i) 12).map Int.ofNat = lvI r) := Lib.hid (by rw [hr]; rfl)
  rw [HLV.out, ← hr] at CO
  clear hr HLV
  have CT := Lib.hid (fun wx hx => strongest_any r wx (HK.out wx hx))
  have CC := fun wx hx => tclosed_any r wx (HK.out wx hx)
  go_enter Tryd.func6, Tryd.ntmps6
  go_wp2_with fail
  refine (CS.out).mono ?_
  rintro e w1 ⟨rfl, hb1⟩
  clear CS
  go_wp2_with fail
  refine (CO.out _).mono ?_
  rintro e w2 ⟨vl, rfl, hIl, hb⟩
  have hb2 := hb1.trans (hb.mono hb1.size)
  clear CO hb hb1
  have h0 : BRow (w2.alloc (.cells #[.bool false, .bool false, .bool false, .bool false, .bool false, .bool false, .bool false, .bool false, .bool false, .bool false, .bool false, .bool false] 36)) w2.heap.size noB := BRow.made w2 noB rfl rowB_none.symm
  have h1 := h0.setRow r
  go_wp2_with (first
    | (with_reducible refine wpList_store_rowB h0 r rfl _ _ rfl rfl rfl ?_)
    | (with_reducible refine wpList_load_rowB h1 rfl _ rfl rfl ?_))
  have hb3 : Below w2.heap.size w2 _ := below_setRow ((Below.refl w2.heap.size w2).alloc (Nat.le_refl _) (.cells #[.bool false, .bool false, .bool false, .bool false, .bool false, .bool false, .bool false, .bool false, .bool false, .bool false, .bool false, .bool false] 36)) (Nat.le_refl _) (rowB r) (g := w2.heap.size)
  have hI3 := hIl.below hb3
  have hbw3 := hb2.trans (hb3.mono hb2.size)
  have HG := Lib.hid (Nat.lt_of_lt_of_le (Nat.lt_succ_self w2.heap.size) (show w2.heap.size + 1 ≤ _ from h1.lt))
  clear h0 hIl hb3 hb2
  generalize (w2.alloc (.cells #[.bool false, .bool false, .bool false, .bool false, .bool false, .bool false, .bool false, .bool false, .bool false, .bool false, .bool false, .bool false] 36)).setRow w2.heap.size (rowB r) = w3 at *
  generalize w2.heap.size = g at *
  clear w2
  refine (CT.out _ hbw3).mono ?_
  rintro e w4 ⟨v4, rfl, hown, hb⟩
  have hbw4 := hbw3.trans (hb.mono hbw3.size)
  have h14 := h1.below hb h1.lt
  have hI4 := hI3.below hb
  have hST := ints_natV hown
  clear hown hb h1 hI3 hbw3
  have hsl := stI_len r
  obtain ⟨ao, cap, rfl, hlen⟩ := hST.form
  go_wp2_with fail
  go_loopw [5, 23] (fun v i wr => ∃ k : Nat, k ≤ (stI r).length ∧ i = .int .i64 k ∧ wr.ownsRow w4.heap.size 3 1 v ((stI r).take k).length (((stI r).take k).map (Value.int .i64)) ∧ Below w4.heap.size w4 wr) (fun _ i _ => (stI r).length - (intOf i).toNat)
  case atStart => exact ⟨0, by omega, rfl, World.ownsRow_nil _ _ _ _, Below.refl _ _⟩
  case round =>
    obtain ⟨k, hk, rfl, hown, hb⟩ := hrel
    have hszr := hb.size
    by_cases hlt : k < (stI r).length
    · have hki : (k : Int) < ((stI r).length : Int) := by omega
      obtain ⟨g2, o2, hao, hc⟩ := (hST.below hb).at hlt
      cases hao
      have HM : Hid ((stI r).take (k + 1) = (stI r).take k ++ [(stI r)[k]]) := Lib.hid (List.take_succ_eq_append_getElem hlt)
      have hkl : ((stI r).take k).length ≤ 12 := by rw [List.length_take]; omega
      generalize (stI r)[k] = x at *
      generalize (stI r).take k = M at *
      go_wp2_with (at_builtin; refine wpList_append_own _ rfl _ _ 40 rfl w4.heap.size 3 i0 (.int .i64 0) 1 8 Tryd.underlying40 hi hz0 hz1 hz2 rfl (by decide) _ _ _ rfl (hown.alloc _) ⟨_, 0, none⟩ 1 1 [.int .i64 x] rfl rfl ?c1 ?c2 ?c3 ?c4 ?c5 ?_)
      case c1 => exact cell_one_new _ _ _
      case c2 => intro u hu; simp at hu; subst hu; rfl
      case c3 => unfold maxLen; omega
      case c4 => omega
      case c5 => simp; omega
      · intro v' w7 hown' hgrow _
        have hb' := below_app0 hb (Nat.le_refl _) hown (Nat.le_refl _) hgrow
        clear hown hb hgrow
        go_wp2_with fail
        go_roundw
        case rel =>
          refine ⟨k + 1, by omega, by go_num, ?_, hb'⟩
          rw [HM.out, List.map_append, List.length_append]
          exact hown'
        case measure => simp [intOf]; omega
    · have hkl : k = (stI r).length := by omega
      subst hkl
      rw [List.take_length] at hown
      have hI5 : Ints wr u5 (stI r) := Ints.of_owns hown
      have h15 := h14.below hb h14.lt
      have hI6 := hI4.below hb
      have hbw5 := hbw4.trans (hb.mono hbw4.size)
      clear hown hb hI4 h14 hST hbw4
      go_wp2_with (with_reducible refine wpList_load_rowB h15 rfl _ rfl rfl ?_)
      have HS1 := Lib.hid (rclosed_lv vl (lvI r))
      have HS2 := Lib.hid (rstrong_lv vl (lvI r))
      have HS3 : Hid (clsR (lvI r) = cls r) := Lib.hid (cls_ref r)
      have HS4 : Hid (strR (lvI r) (lvI r) = stI r) := Lib.hid (str_ref r)
      have HS5 : Hid ((lvI r).length ≤ 4096) := Lib.hid (by have := lvI_len r; omega)
      refine (CC _ hbw5).mono ?_
      rintro e w6 ⟨rfl, hb6⟩
      have h16 := h15.below hb6 h15.lt
      have hI7 := hI6.below hb6
      have hI8 := hI5.below hb6
      have hbw6 := hbw5.trans (hb6.mono hbw5.size)
      clear hb6 h15 hI6 hI5 hbw5
      have C1 := Lib.hid (HS1.out w6 hI7)
      rw [HS3.out] at C1
      go_wp2_with fail
      refine (C1.out).mono ?_
      rintro e w' ⟨rfl, rfl⟩
      clear C1 HS1
      have C2 := Lib.hid (HS2.out w6 hI7 HS5.out)
      rw [HS4.out] at C2
      go_wp2_with fail
      refine (C2.out).mono ?_
      rintro e w7 ⟨v7, rfl, hown7, hb7⟩
      have hI9 : Ints w7 v7 (stI r) := Ints.of_owns hown7
      have h17 := h16.below hb7 h16.lt
      have hI7' := hI7.below hb7
      have hI8' := hI8.below hb7
      have hbw7 := hbw6.trans (hb7.mono hbw6.size)
      have C3 := Lib.hid (same_any _ _ _ _ w7 hI8' hI9)
      rw [show sameL (stI r) (stI r) = true from by simp [sameL]] at C3
      clear C2 HS2 hown7 hb7 h16 hI7 hI8 hbw6
      go_wp2_with fail
      refine (C3.out).mono ?_
      rintro e w8 ⟨rfl, hb8⟩
      have h18 := h17.below hb8 h17.lt
      have hI10 := hI7'.below hb8
      have hbw8 := hbw7.trans (hb8.mono hbw7.size)
      clear C3 hb8 hI8' hI9 h17 hI7' hbw7
      go_wp2_with (with_reducible refine wpList_load_rowB h18 rfl _ rfl rfl ?_)
      refine (CT.out _ hbw8).mono ?_
      rintro e w9 ⟨v9, rfl, hown9, hb9⟩
      have hIA := ints_natV hown9
      have h19 := h18.below hb9 h18.lt
      have hI11 := hI10.below hb9
      have hbw9 := hbw8.trans (hb9.mono hbw8.size)
      have CB := Lib.hid (tbelow_any _ _ w9 (HK.out _ hbw9) hIA)
      clear hown9 hb9 h18 hI10 hbw8
      go_wp2_with fail
      refine (CB.out).mono ?_
      rintro e wA ⟨rfl, hbA⟩
      have h1A := h19.below hbA h19.lt
      have hI12 := hI11.below hbA
      have hbwA := hbw9.trans (hbA.mono hbw9.size)
      clear CB hbA h19 hI11 hbw9 hIA
      have h0 : BRow (wA.alloc (.cells #[.bool false, .bool false, .bool false, .bool false, .bool false, .bool false, .bool false, .bool false, .bool false, .bool false, .bool false, .bool false] 36)) wA.heap.size noB := BRow.made wA noB rfl rowB_none.symm
      have h0s := h0.setRow (blw (stI r))
      have hbB : Below wA.heap.size wA _ := below_setRow ((Below.refl wA.heap.size wA).alloc (Nat.le_refl _) (.cells #[.bool false, .bool false, .bool false, .bool false, .bool false, .bool false, .bool false, .bool false, .bool false, .bool false, .bool false, .bool false] 36)) (Nat.le_refl _) (rowB (blw (stI r))) (g := wA.heap.size)
      go_wp2_with (with_reducible refine wpList_store_rowB h0 (blw (stI r)) rfl _ _ rfl rfl rfl ?_)
      have h1B := h1A.below hbB h1A.lt
      have hI13 := hI12.below hbB
      have hbwB := hbwA.trans (hbB.mono hbwA.size)
      clear h0 hbB h1A hI12 hbwA
      generalize (wA.alloc (.cells #[.bool false, .bool false, .bool false, .bool false, .bool false, .bool false, .bool false, .bool false, .bool false, .bool false, .bool false, .bool false] 36)).setRow wA.heap.size (rowB (blw (stI r))) = wB at *
      generalize wA.heap.size = gb at *
      clear wA
      have HBS : Hid (∀ b, b < 12 → blw (stI r) b = (lvI r).any fun a => impB a (b : Int)) := Lib.hid (fun b hb => blw_strong r hb)
      have HEQ : Hid (cls r = true → rowB (blw (stI r)) = rowB r) := Lib.hid blw_shut
      have HLL : Hid ((lvI r).length ≤ 12) := Lib.hid (lvI_len r)
      clear HS3 HS4 HS5 hsl CT
      generalize lvI r = L at *
      generalize blw (stI r) = bw at *
      obtain ⟨al, capl, rfl, hll⟩ := hI13.form
      go_loopw [47] (fun i wr => ∃ k : Nat, k ≤ 12 ∧ i = .int .i64 k ∧ wB = wr) (fun i _ => 12 - (intOf i).toNat)
      case atStart => exact ⟨0, by omega, rfl, rfl⟩
      case round =>
        obtain ⟨k, hk, rfl, rfl⟩ := hrel
        by_cases hlt2 : k < 12
        · have hki : (k : Int) < 12 := by omega
          have hck := h0s.cell hlt2
          rw [HBS.out k hlt2] at hck
          go_wp2_with fail
          go_loopw [10, 52] (fun d i wr => ∃ j : Nat, j ≤ L.length ∧ i = .int .i64 j ∧ d = .bool ((L.take j).any fun a => impB a (k : Int)) ∧ wB = wr) (fun _ i _ => L.length - (intOf i).toNat)
          case atStart => exact ⟨0, by omega, rfl, rfl, rfl⟩
          case round =>
            obtain ⟨j, hj, rfl, rfl, rfl⟩ := hrel
            by_cases hlj : j < L.length
            · have hji : (j : Int) < (L.length : Int) := by omega
              obtain ⟨gj, oj, haoj, hcj⟩ := hI13.at hlj
              cases haoj
              have HT : Hid ((L.take (j + 1)).any (fun a => impB a (k : Int)) = ((L.take j).any (fun a => impB a (k : Int)) || impB L[j] (k : Int))) := Lib.hid (by rw [List.take_succ_eq_append_getElem hlj, List.any_append]; simp)
              generalize (L.take j).any (fun a => impB a (k : Int)) = d at *
              generalize L[j] = x at *
              have CI := Lib.hid (rimp_any x (k : Int) wB)
              generalize impB x (k : Int) = m at *
              cases d
              · have HM : Hid ((L.take (j + 1)).any (fun a => impB a (k : Int)) = m) := Lib.hid (by rw [HT.out]; rfl)
                clear HT
                go_wp2_with (go_at_call 20; refine (CI.out).mono ?_; rintro e w' ⟨rfl, rfl⟩)
                go_roundw
                case rel => exact ⟨j + 1, by omega, by go_num, by rw [HM.out], by trivial⟩
                case measure => simp [intOf]; omega
              · have HM : Hid ((L.take (j + 1)).any (fun a => impB a (k : Int)) = true) := Lib.hid (by rw [HT.out]; rfl)
                clear HT
                go_wp2_with fail
                go_roundw
                case rel => exact ⟨j + 1, by omega, by go_num, by rw [HM.out], by trivial⟩
                case measure => simp [intOf]; omega
            · have hjl : j = L.length := by omega
              subst hjl
              rw [List.take_length]
              generalize L.any (fun a => impB a (k : Int)) = d at *
              go_wp2_with fail
              go_roundw
              case rel => exact ⟨k + 1, by omega, by go_num, by trivial⟩
              case measure => simp [intOf]; omega
        · have hk12 : k = 12 := by omega
          subst hk12
          go_wp2_with (with_reducible refine wpList_load_rowB h1B rfl _ rfl rfl ?_)
          cases hcl : cls r
          · have C9 := Lib.hid (CC wB hbwB)
            rw [hcl] at C9
            refine (C9.out).mono ?_
            rintro e wC ⟨rfl, hbC⟩
            have hbwC := hbwB.trans (hbC.mono hbwB.size)
            go_wp2_with fail
            go_ret
            exact ⟨rfl, hbwC⟩
          · have C9 := Lib.hid (CC wB hbwB)
            rw [hcl] at C9
            have h0e := h0s.congr (HEQ.out hcl)
            refine (C9.out).mono ?_
            rintro e wC ⟨rfl, hbC⟩
            have hbwC := hbwB.trans (hbC.mono hbwB.size)
            have h1C := h1B.below hbC h1B.lt
            have h0C := h0e.below hbC h0e.lt
            have G0 := fun (x y : Operand) (w : World) => guard_rowB .eql x y r r w
            have E0 := fun (w : World) => run_eql_rowB r w
            clear HK CC HEQ HBS h0s h0e h1B hbC hbwB
            go_wp2_with (first
              | (with_reducible refine wpList_load_rowB_g h0C _ rfl (by kernel_rfl) rfl ?_)
              | (with_reducible refine wpList_load_rowB_g h1C _ rfl (by kernel_rfl) rfl ?_))
            go_ret
            exact ⟨rfl, hbwC⟩
end Go.Proofs.YtecofmcfniicoaaDoor
