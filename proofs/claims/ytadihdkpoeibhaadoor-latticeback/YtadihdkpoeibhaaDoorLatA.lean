/- The walks of lattice.beyond and lattice.weakest. Conditions: the table of the levels lies where it is laid. -/
import Derived.Test.YtadihdkpoeibhaaDoorTblC
namespace Go.Proofs.YtadihdkpoeibhaaDoor
set_option maxRecDepth 100000
open Go.RowKit

/-- Does it imply another level, of the first k, that is not in the row? -/
def bydTo (r : Nat → Bool) (b : Int) (k : Nat) : Bool := (List.range k).any fun a => !r a && (decide (b ≠ (a : Int)) && impB b (a : Int))
def byd (r : Nat → Bool) (b : Int) : Bool := bydTo r b 12
theorem bydTo_succ (r : Nat → Bool) (b : Int) (k : Nat) : bydTo r b (k + 1) = (bydTo r b k || (!r k && (decide (b ≠ (k : Int)) && impB b (k : Int)))) := by
  unfold bydTo; rw [List.range_succ, List.any_append]; simp
theorem bydTo_hit {r : Nat → Bool} {b : Int} {k : Nat} (hk : k < 12) (h : (!r k && (decide (b ≠ (k : Int)) && impB b (k : Int))) = true) : byd r b = true := List.any_eq_true.2 ⟨k, List.mem_range.2 hk, h⟩
set_option maxHeartbeats 2000000 in
theorem lbeyond_any (r : Nat → Bool) (b : Int) (w : World) (hK : Kinds w) : Calls Tryd.prog 24 #[.agg (rowB r), .int .i64 b] w fun e w' => e = .returned (.bool (byd r b)) ∧ Below w.heap.size w w' := by
  have HK := Lib.hid (fun wx (hb : Below w.heap.size w wx) => hK.below hb)
  clear hK
  go_enter Tryd.func24, Tryd.ntmps24
  go_wp2_with fail
  go_loopw [6] (fun i wr => ∃ k : Nat, k ≤ 12 ∧ i = .int .i64 k ∧ bydTo r b k = false ∧ BRow wr w.heap.size r ∧ Below w.heap.size w wr) (fun i _ => 12 - (intOf i).toNat)
  case atStart => exact ⟨0, by omega, rfl, rfl, BRow.made w r rfl rfl, (Below.refl w.heap.size w).alloc (Nat.le_refl _) _⟩
  case round =>
    obtain ⟨k, hk, rfl, hno, h0, hb⟩ := hrel
    have HNO := Lib.hid hno
    clear hno
    by_cases hlt : k < 12
    · have hki : (k : Int) < 12 := by omega
      have hc := h0.cell hlt
      have HS := Lib.hid (bydTo_succ r b k)
      have HH := Lib.hid (fun h => bydTo_hit (r := r) (b := b) hlt h)
      have CI := Lib.hid (limp_any b (k : Int) wr (HK.out _ hb))
      rw [HNO.out] at HS
      cases hr : r k
      rotate_left
      · rw [hr] at hc HS
        clear hr HH CI
        have HM : Hid (bydTo r b (k + 1) = false) := Lib.hid (by rw [HS.out]; rfl)
        go_wp2_with fail
        go_roundw
        case rel => exact ⟨k + 1, by omega, by go_num, HM.out, h0, hb⟩
        case measure => simp [intOf]; omega
      · rw [hr] at hc HS HH
        clear hr
        by_cases hkb : b = (k : Int)
        · have HM : Hid (bydTo r b (k + 1) = false) := Lib.hid (by rw [HS.out, decide_eq_false (by simpa using hkb)]; rfl)
          clear HH CI HS HNO
          subst hkb
          go_wp2_with fail
          go_roundw
          case rel => exact ⟨k + 1, by omega, by go_num, HM.out, h0, hb⟩
          case measure => simp [intOf]; omega
        · rw [decide_eq_true (show b ≠ (k : Int) from hkb)] at HS HH
          cases hm : impB b (k : Int)
          · rw [hm] at CI HS
            have HM : Hid (bydTo r b (k + 1) = false) := Lib.hid (by rw [HS.out]; rfl)
            clear hm HH HS
            go_wp2_with (go_at_call 22; refine (CI.out).mono ?_; rintro e w' ⟨rfl, rfl⟩)
            go_roundw
            case rel => exact ⟨k + 1, by omega, by go_num, HM.out, h0, hb⟩
            case measure => simp [intOf]; omega
          · rw [hm] at CI HH
            have HM : Hid (true = byd r b) := Lib.hid (HH.out rfl).symm
            clear hm HH HS
            go_wp2_with (go_at_call 22; refine (CI.out).mono ?_; rintro e w' ⟨rfl, rfl⟩)
            go_ret
            exact ⟨lret_b HM.out, hb⟩
    · have hkn : k = 12 := by omega
      subst hkn
      have HM : Hid (false = byd r b) := Lib.hid HNO.out.symm
      go_wp2_with fail
      go_ret
      exact ⟨lret_b HM.out, hb⟩
/-- The levels, of the first k, that are not in a row and imply no other one that is not. -/
def wkTo (r : Nat → Bool) (k : Nat) : List Nat := (List.range k).filter fun b => !r b && !byd r (b : Int)
theorem wkTo_succ (r : Nat → Bool) (k : Nat) : wkTo r (k + 1) = wkTo r k ++ (if !r k && !byd r (k : Int) then [k] else []) := by
  unfold wkTo
  rw [List.range_succ, List.filter_append]
  congr 1
  cases h : !r k && !byd r (k : Int) <;> simp [h]
theorem wkTo_len (r : Nat → Bool) (k : Nat) : (wkTo r k).length ≤ k := by
  unfold wkTo
  have := List.length_filter_le (fun b => !r b && !byd r (b : Int)) (List.range k)
  simpa using this
set_option maxHeartbeats 2000000 in
theorem lweakest_any (r : Nat → Bool) (w : World) (hK : Kinds w) : Calls Tryd.prog 19 #[.agg (rowB r)] w fun e w' => ∃ v, e = .returned v ∧ w'.ownsRow w.heap.size 34 1 v (wkTo r 12).length (natV (wkTo r 12)) ∧ Below w.heap.size w w' := by
  obtain ⟨i0, hi, hz0, hz1, hz2⟩ := info_parts infoLv
  have HK := Lib.hid (fun wx (hb : Below w.heap.size w wx) => hK.below hb)
  clear hK
  go_enter Tryd.func19, Tryd.ntmps19
  go_wp2_with fail
  go_loopw [3, 5] (fun v i wr => ∃ k : Nat, k ≤ 12 ∧ i = .int .i64 k ∧ wr.ownsRow (w.heap.size + 1) 34 1 v (wkTo r k).length (natV (wkTo r k)) ∧ BRow wr w.heap.size r ∧ Below w.heap.size w wr) (fun _ i _ => 12 - (intOf i).toNat)
  case atStart => exact ⟨0, by omega, rfl, World.ownsRow_nil _ _ _ _, BRow.made w r rfl rfl, (Below.refl w.heap.size w).alloc (Nat.le_refl _) _⟩
  case round =>
    obtain ⟨k, hk, rfl, hown, h0, hb⟩ := hrel
    have hll := wkTo_len r k
    by_cases hlt : k < 12
    · have hki : (k : Int) < 12 := by omega
      have hc := h0.cell hlt
      have HS := Lib.hid (wkTo_succ r k)
      have CI := Lib.hid (lbeyond_any r (k : Int) wr (HK.out _ hb))
      have H2 := Lib.hid (fun wx (hx : Below wr.heap.size wr wx) => h0.below hx h0.lt)
      have HB := Lib.hid (fun wx (hx : Below wr.heap.size wr wx) => hb.trans (hx.mono hb.size))
      have HO := Lib.hid (fun wx (hx : Below wr.heap.size wr wx) => owns_below hown hx)
      have hsz := h0.lt
      cases hr : r k
      rotate_left
      · rw [hr] at hc HS
        have HM : Hid (wkTo r (k + 1) = wkTo r k) := Lib.hid (by rw [HS.out]; simp)
        clear hr HS CI
        go_wp2_with fail
        go_roundw
        case rel => exact ⟨k + 1, by omega, by go_num, by rw [HM.out]; exact hown, h0, hb⟩
        case measure => simp [intOf]; omega
      · rw [hr] at hc HS
        clear hr
        cases hm : byd r (k : Int)
        · rw [hm] at CI HS
          have HM : Hid (wkTo r (k + 1) = wkTo r k ++ [k]) := Lib.hid (by rw [HS.out]; simp)
          clear hm HS
          go_wp2_with (with_reducible refine wpList_load_rowB_g h0 _ rfl (by kernel_rfl) rfl ?_)
          refine (CI.out).mono ?_
          rintro e w6 ⟨rfl, hb6⟩
          have h6 := H2.out _ hb6
          have hbw := HB.out _ hb6
          have hown6 := HO.out _ hb6
          have hs6 := h6.lt
          clear CI hown h0 hb hb6 hsz H2 HB HO
          go_wp2_with (at_builtin; refine wpList_append_own _ rfl _ _ 30 rfl (w.heap.size + 1) 34 i0 (.int .i64 0) 1 8 Tryd.underlying30 hi hz0 hz1 hz2 rfl (by decide) _ _ _ rfl (hown6.alloc _) ⟨_, 0, none⟩ 1 1 [.int .i64 (k : Int)] rfl rfl ?c1 ?c2 ?c3 ?c4 ?c5 ?_)
          case c1 => exact cell_one_new _ _ _
          case c2 => intro u hu; simp at hu; subst hu; rfl
          case c3 => unfold maxLen; omega
          case c4 => omega
          case c5 => simp; omega
          · intro v' w7 hown' hgrow _
            have hb' := below_app0 hbw (Nat.le_refl _) hown6 (by omega) hgrow
            have h7 := (h6.alloc _).kept hgrow (fun e => by have := (hown6.lt _ e.symm).1; omega)
            clear hown6 h6 hbw hgrow
            go_wp2_with fail
            go_roundw
            case rel =>
              refine ⟨k + 1, by omega, by go_num, ?_, h7, hb'⟩
              rw [HM.out, natV_snoc, List.length_append]
              exact hown'
            case measure => simp [intOf]; omega
        · rw [hm] at CI HS
          have HM : Hid (wkTo r (k + 1) = wkTo r k) := Lib.hid (by rw [HS.out]; simp)
          clear hm HS
          go_wp2_with (first
            | (with_reducible refine wpList_load_rowB_g h0 _ rfl (by kernel_rfl) rfl ?_)
            | (go_at_call 24; refine (CI.out).mono ?_; rintro e w' ⟨rfl, hbb⟩))
          go_roundw
          case rel => exact ⟨k + 1, by omega, by go_num, by rw [HM.out]; exact HO.out _ hbb, H2.out _ hbb, HB.out _ hbb⟩
          case measure => simp [intOf]; omega
    · have hkn : k = 12 := by omega
      subst hkn
      go_wp2_with fail
      go_ret
      exact ⟨_, rfl, own_base0 hown (by omega), hb⟩
end Go.Proofs.YtadihdkpoeibhaaDoor
