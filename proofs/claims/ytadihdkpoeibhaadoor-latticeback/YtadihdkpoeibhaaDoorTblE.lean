/- The walk of the reference's Strongest. Conditions: a slice's cells are known; at most 4096 levels. -/
import Derived.Test.YtadihdkpoeibhaaDoorTblD
import Derived.Outline
namespace Go.Proofs.YtadihdkpoeibhaaDoor
set_option maxRecDepth 100000
open Go.RowKit

/-- Does another one of some, of the first k, imply a level? -/
def ovr (l : List Int) (x : Int) : Bool := l.any fun y => decide (y ≠ x) && impB y x
def strR (l : List Int) (m : List Int) : List Int := m.filter fun x => !ovr l x
theorem ovr_take {l : List Int} {x : Int} {k : Nat} (hk : k < l.length) : (l.take (k + 1)).any (fun y => decide (y ≠ x) && impB y x) = ((l.take k).any (fun y => decide (y ≠ x) && impB y x) || (decide (l[k] ≠ x) && impB l[k] x)) := by
  rw [List.take_succ_eq_append_getElem hk, List.any_append]; simp
theorem strR_take {l : List Int} {k : Nat} (hk : k < l.length) : strR l (l.take (k + 1)) = strR l (l.take k) ++ (if ovr l l[k] then [] else [l[k]]) := by
  unfold strR
  rw [List.take_succ_eq_append_getElem hk, List.filter_append]
  congr 1
  cases h : ovr l l[k] <;> simp [h]
theorem strR_len (l : List Int) (k : Nat) : (strR l (l.take k)).length ≤ l.length := by
  unfold strR
  have := List.length_filter_le (fun x => !ovr l x) (l.take k)
  have h2 : (l.take k).length ≤ l.length := by rw [List.length_take]; omega
  omega
set_option maxHeartbeats 2000000 in
theorem rstrong_lv (v : Value) (l : List Int) (w : World) (hI : Ints w v l) (hl : l.length ≤ 4096) : Calls Tryd.prog 7 #[v] w fun e w' => ∃ v, e = .returned v ∧ w'.ownsRow w.heap.size 3 1 v (strR l l).length ((strR l l).map (Value.int .i64)) ∧ Below w.heap.size w w' := by
  obtain ⟨i0, hi, hz0, hz1, hz2⟩ := info_parts infoIntL
  have HI := Lib.hid (fun wx (hx : Below w.heap.size w wx) => hI.below hx)
  obtain ⟨ao, cap, rfl, hlen⟩ := hI.form
  clear hI
  go_enter Tryd.func7, Tryd.ntmps7
  go_wp2_with fail
  go_loopw [3, 4] (fun v i wr => ∃ k : Nat, k ≤ l.length ∧ i = .int .i64 k ∧ wr.ownsRow w.heap.size 3 1 v (strR l (l.take k)).length ((strR l (l.take k)).map (Value.int .i64)) ∧ Below w.heap.size w wr) (fun _ i _ => l.length - (intOf i).toNat)
  case atStart => exact ⟨0, by omega, rfl, World.ownsRow_lit _ _ _ (Nat.le_refl _) (by simp) (by simp), (Below.refl w.heap.size w).alloc (Nat.le_refl _) _⟩
  case round =>
    obtain ⟨k, hk, rfl, hown, hb⟩ := hrel
    have hsz := hb.size
    by_cases hlt : k < l.length
    · have hki : (k : Int) < (l.length : Int) := by omega
      obtain ⟨g, o, hao, hc⟩ := (HI.out _ hb).at hlt
      cases hao
      have hll := strR_len l k
      have HS := Lib.hid (strR_take hlt)
      have HIr := Lib.hid (HI.out _ hb)
      generalize l[k] = x at *
      have HO := Lib.hid hown
      have HB := Lib.hid hb
      clear hown hb
      go_wp2_with fail
      go_loopw [5, 6] (fun d i wx => ∃ j : Nat, j ≤ l.length ∧ i = .int .i64 j ∧ d = .bool (!(l.take j).any (fun y => decide (y ≠ x) && impB y x)) ∧ Below wr.heap.size wr wx) (fun _ i _ => l.length - (intOf i).toNat)
      case atStart => exact ⟨0, by omega, rfl, rfl, Below.refl _ _⟩
      case round =>
        obtain ⟨j, hj, rfl, rfl, hb2⟩ := hrel
        by_cases hlj : j < l.length
        · have hji : (j : Int) < (l.length : Int) := by omega
          obtain ⟨g2, o2, hao2, hc2⟩ := (HIr.out.below hb2).at hlj
          cases hao2
          have hcx := (hb2.cell (block_lt hc)).trans hc
          have HT := Lib.hid (ovr_take (x := x) hlj)
          generalize (l.take j).any (fun y => decide (y ≠ x) && impB y x) = d at *
          by_cases hyx : l[j] = x
          · have hd : decide (l[j] ≠ x) = false := decide_eq_false (fun h => h hyx)
            rw [hd] at HT
            rw [hyx] at hc2
            have HM : Hid ((l.take (j + 1)).any (fun y => decide (y ≠ x) && impB y x) = d) := Lib.hid (by rw [HT.out]; simp)
            clear HT hd hyx
            go_wp2_with fail
            go_quiet (fail)
            go_wp2_with fail
            go_roundw
            case rel => exact ⟨j + 1, by omega, by go_num, by rw [HM.out], below_drewN hb2 _⟩
            case measure => simp [intOf]; omega
          · generalize l[j] = y at *
            have CI := fun wx => rimp_any y x wx
            have hd : decide (y ≠ x) = true := decide_eq_true hyx
            rw [hd] at HT
            cases hm : impB y x
            · simp only [hm] at CI
              rw [hm] at HT
              have HM : Hid ((l.take (j + 1)).any (fun y => decide (y ≠ x) && impB y x) = d) := Lib.hid (by rw [HT.out]; simp)
              have CJ := Lib.hid (fun wx => (CI wx).mono (fun _ _ (h : _ ∧ _) => And.intro h.1 h.2.symm))
              clear CI HT hd hm
              go_wp2_with fail
              go_quiet ((go_at_call 8; exact Calls.quiet_of_same (CJ.out _)))
              go_wp2_with fail
              go_roundw
              case rel => exact ⟨j + 1, by omega, by go_num, by rw [HM.out], below_drewN hb2 _⟩
              case measure => simp [intOf]; omega
            · simp only [hm] at CI
              rw [hm] at HT
              have HM : Hid ((l.take (j + 1)).any (fun y => decide (y ≠ x) && impB y x) = true) := Lib.hid (by rw [HT.out]; simp)
              have CJ := Lib.hid (fun wx => (CI wx).mono (fun _ _ (h : _ ∧ _) => And.intro h.1 h.2.symm))
              clear CI HT hd hm
              go_wp2_with fail
              go_quiet ((go_at_call 8; exact Calls.quiet_of_same (CJ.out _)))
              go_wp2_with fail
              go_roundw
              case rel => exact ⟨j + 1, by omega, by go_num, by rw [HM.out]; rfl, below_drewN hb2 _⟩
              case measure => simp [intOf]; omega
        · have hjl : j = l.length := by omega
          subst hjl
          rw [List.take_length]
          have hov : l.any (fun y => decide (y ≠ x) && impB y x) = ovr l x := rfl
          rw [hov]
          clear hov
          have hbw := HB.out.trans (hb2.mono hsz)
          have hown2 := owns_below HO.out hb2
          have hs2 := hbw.size
          have hcx := (hb2.cell (block_lt hc)).trans hc
          cases ho : ovr l x
          · rw [ho] at HS
            have HM : Hid (strR l (l.take (k + 1)) = strR l (l.take k) ++ [x]) := Lib.hid HS.out
            clear HS ho HO HB
            go_wp2_with (at_builtin; refine wpList_append_own _ rfl _ _ 27 rfl w.heap.size 3 i0 (.int .i64 0) 1 8 Tryd.underlying27 hi hz0 hz1 hz2 rfl (by decide) _ _ _ rfl (hown2.alloc _) ⟨_, 0, none⟩ 1 1 [.int .i64 x] rfl rfl ?c1 ?c2 ?c3 ?c4 ?c5 ?_)
            case c1 => exact cell_one_new _ _ _
            case c2 => intro u hu; simp at hu; subst hu; rfl
            case c3 => unfold maxLen; omega
            case c4 => omega
            case c5 => simp; omega
            · intro v' w7 hown' hgrow _
              have hb' := below_app0 hbw (Nat.le_refl _) hown2 (Nat.le_refl _) hgrow
              clear hown2 hbw hgrow hb2
              go_wp2_with fail
              go_roundw
              case rel =>
                refine ⟨k + 1, by omega, by go_num, ?_, hb'⟩
                rw [HM.out, List.map_append, List.length_append]
                exact hown'
              case measure => simp [intOf]; omega
          · rw [ho] at HS
            have HM : Hid (strR l (l.take (k + 1)) = strR l (l.take k)) := Lib.hid (HS.out.trans (List.append_nil _))
            clear HS ho HO HB
            go_wp2_with fail
            go_roundw
            case rel => exact ⟨k + 1, by omega, by go_num, by rw [HM.out]; exact hown2, hbw⟩
            case measure => simp [intOf]; omega
    · have hkl : k = l.length := by omega
      subst hkl
      rw [List.take_length] at hown
      go_wp2_with fail
      go_ret
      exact ⟨_, rfl, hown, hb⟩
end Go.Proofs.YtadihdkpoeibhaaDoor
