/- Walks: above, Closed, Strongest of rows of levels. Conditions: the table of the levels lies where it is laid. -/
import Derived.Test.YtadihdkpoeibhaaDoorTblB
namespace Go.Proofs.YtadihdkpoeibhaaDoor
set_option maxRecDepth 100000
open Go.RowKit

/-- Does another level of a row, of the first k, imply this one? -/
def abvTo (r : Nat → Bool) (b : Int) (k : Nat) : Bool := (List.range k).any fun a => r a && (decide ((a : Int) ≠ b) && impB (a : Int) b)
def abv (r : Nat → Bool) (b : Int) : Bool := abvTo r b 12
theorem abvTo_succ (r : Nat → Bool) (b : Int) (k : Nat) : abvTo r b (k + 1) = (abvTo r b k || (r k && (decide ((k : Int) ≠ b) && impB (k : Int) b))) := by
  unfold abvTo; rw [List.range_succ, List.any_append]; simp
theorem abvTo_hit {r : Nat → Bool} {b : Int} {k : Nat} (hk : k < 12) (h : (r k && (decide ((k : Int) ≠ b) && impB (k : Int) b)) = true) : abv r b = true := List.any_eq_true.2 ⟨k, List.mem_range.2 hk, h⟩
set_option maxHeartbeats 2000000 in
theorem above_any (r : Nat → Bool) (b : Int) (w : World) (hK : Kinds w) : Calls Tryd.prog 23 #[.agg (rowB r), .int .i64 b] w fun e w' => e = .returned (.bool (abv r b)) ∧ Below w.heap.size w w' := by
  have HK := Lib.hid (fun wx (hb : Below w.heap.size w wx) => hK.below hb)
  clear hK
  go_enter Tryd.func23, Tryd.ntmps23
  go_wp2_with fail
  go_loopw [6] (fun i wr => ∃ k : Nat, k ≤ 12 ∧ i = .int .i64 k ∧ abvTo r b k = false ∧ BRow wr w.heap.size r ∧ Below w.heap.size w wr) (fun i _ => 12 - (intOf i).toNat)
  case atStart => exact ⟨0, by omega, rfl, rfl, BRow.made w r rfl rfl, (Below.refl w.heap.size w).alloc (Nat.le_refl _) _⟩
  case round =>
    obtain ⟨k, hk, rfl, hno, h0, hb⟩ := hrel
    have HNO := Lib.hid hno
    clear hno
    by_cases hlt : k < 12
    · have hki : (k : Int) < 12 := by omega
      have hc := h0.cell hlt
      have HS := Lib.hid (abvTo_succ r b k)
      have HH := Lib.hid (fun h => abvTo_hit (r := r) (b := b) hlt h)
      have CI := Lib.hid (limp_any (k : Int) b wr (HK.out _ hb))
      rw [HNO.out] at HS
      cases hr : r k
      · rw [hr] at hc HS
        clear hr HH CI
        have HM : Hid (abvTo r b (k + 1) = false) := Lib.hid (by rw [HS.out]; rfl)
        go_wp2_with fail
        go_roundw
        case rel => exact ⟨k + 1, by omega, by go_num, HM.out, h0, hb⟩
        case measure => simp [intOf]; omega
      · rw [hr] at hc HS HH
        clear hr
        by_cases hkb : (k : Int) = b
        · have HM : Hid (abvTo r b (k + 1) = false) := Lib.hid (by rw [HS.out, decide_eq_false (by simpa using hkb)]; rfl)
          have hkb' : ((k : Int) == b) = true := by rw [beq_iff_eq]; exact hkb
          clear hkb HH CI HS
          go_wp2_with fail
          · go_roundw
            case rel => exact ⟨k + 1, by omega, by go_num, HM.out, h0, hb⟩
            case measure => simp [intOf]; omega
          · exact absurd (beq_iff_eq.1 hkb') (by assumption)
        · rw [decide_eq_true (show (k : Int) ≠ b from hkb)] at HS HH
          cases hm : impB (k : Int) b
          · rw [hm] at CI HS
            have HM : Hid (abvTo r b (k + 1) = false) := Lib.hid (by rw [HS.out]; rfl)
            clear hm HH HS
            go_wp2_with (go_at_call 22; refine (CI.out).mono ?_; rintro e w' ⟨rfl, rfl⟩)
            go_roundw
            case rel => exact ⟨k + 1, by omega, by go_num, HM.out, h0, hb⟩
            case measure => simp [intOf]; omega
          · rw [hm] at CI HH
            have HM : Hid (true = abv r b) := Lib.hid (HH.out rfl).symm
            clear hm HH HS
            go_wp2_with (go_at_call 22; refine (CI.out).mono ?_; rintro e w' ⟨rfl, rfl⟩)
            go_ret
            exact ⟨lret_b HM.out, hb⟩
    · have hkn : k = 12 := by omega
      subst hkn
      have HM : Hid (false = abv r b) := Lib.hid HNO.out.symm
      go_wp2_with fail
      go_ret
      exact ⟨lret_b HM.out, hb⟩
theorem wpList_load_rowB_g {ops : Array Oper} {rest : List Oper} {o : Oper} {a : Act} {w : World} {Q : Exit → Act → World → Prop} {g : Nat} {r : Nat → Bool} (h : BRow w g r) (x : Operand) (ho : o.op = .load 25 x)
    (hw : Region.wanted o (yielded ops a.tmps) = true) (hx : a.eval x = .pointer (some ⟨g, 0, none⟩)) (hn : wpList Tryd.prog ops Q rest (a.put o.dst (.agg (rowB r))) w) : wpList Tryd.prog ops Q (o :: rest) a w :=
  wpList_step fun K hK => by rw [if_pos hw]; exact wp_load_row 25 x ho g hx _ (rowB r) _ _ h Tryd.underlying25 rfl (infoRow' _) (hK _ _ hn)
def clsTo (r : Nat → Bool) (k : Nat) : Bool := (List.range k).all fun b => !(!r b && abv r (b : Int))
/-- Is whatever another one implies in the row? -/
def cls (r : Nat → Bool) : Bool := clsTo r 12
theorem clsTo_succ (r : Nat → Bool) (k : Nat) : clsTo r (k + 1) = (clsTo r k && !(!r k && abv r (k : Int))) := by
  unfold clsTo; rw [List.range_succ, List.all_append]; simp
theorem cls_no {r : Nat → Bool} {k : Nat} (hk : k < 12) (h : (!(!r k && abv r (k : Int))) = false) : cls r = false := by
  unfold cls clsTo
  rw [List.all_eq_false]
  exact ⟨k, List.mem_range.2 hk, by rw [h]; simp⟩
theorem own_base0 {w : World} {base base' : Nat} {v : Value} {e : TypeId} {size n : Nat} {xs : List Value} (h : w.ownsRow base e size v n xs) (hb : base' ≤ base) : w.ownsRow base' e size v n xs := by
  obtain ⟨h1, h2⟩ := h
  refine ⟨h1, ?_⟩
  rcases h2 with h2 | ⟨g, cap, cur, e1, e2, r⟩
  · exact .inl h2
  · exact .inr ⟨g, cap, cur, e1, Nat.le_trans hb e2, r⟩
/-- The levels of a row, of the first k, that no other one of it implies. -/
def strTo (r : Nat → Bool) (k : Nat) : List Nat := (List.range k).filter fun b => r b && !abv r (b : Int)
theorem below_app0 {B B' : Nat} {W wr w1 : World} {o : Obj} {e : TypeId} {n size : Nat} {v : Value} {xs : List Value} (hb : Below B W wr) (hB : B ≤ W.heap.size) (hown : wr.ownsRow B' e size v n xs) (hBB : B ≤ B')
    (hg : (wr.alloc o).grownBy w1 v.ownBlock) : Below B W w1 :=
  (hb.alloc (Nat.le_trans hB hb.size) o).grown hg (by have := hb.size; simp; omega) fun k hk => Nat.le_trans hBB (hown.lt k hk).1
def natV (l : List Nat) : List Value := l.map fun i : Nat => Value.int .i64 (i : Int)
theorem strTo_succ (r : Nat → Bool) (k : Nat) : strTo r (k + 1) = strTo r k ++ (if r k && !abv r (k : Int) then [k] else []) := by
  unfold strTo
  rw [List.range_succ, List.filter_append]
  congr 1
  cases h : r k && !abv r (k : Int) <;> simp [h]
theorem strTo_len (r : Nat → Bool) (k : Nat) : (strTo r k).length ≤ k := by
  unfold strTo
  have := List.length_filter_le (fun b => r b && !abv r (b : Int)) (List.range k)
  simpa using this
theorem natV_snoc (l : List Nat) (k : Nat) : natV (l ++ [k]) = natV l ++ [.int .i64 (k : Int)] := by simp [natV]
theorem infoIntL : (Tryd.prog.info? 3).map (fun i => (i.zero, i.size, i.bytes)) = some (some (.int .i64 0), 1, 8) := by kernel_rfl
theorem infoLv : (Tryd.prog.info? 34).map (fun i => (i.zero, i.size, i.bytes)) = some (some (.int .i64 0), 1, 8) := by kernel_rfl
set_option maxHeartbeats 2000000 in
theorem strongest_any (r : Nat → Bool) (w : World) (hK : Kinds w) : Calls Tryd.prog 18 #[.agg (rowB r)] w fun e w' => ∃ v, e = .returned v ∧ w'.ownsRow w.heap.size 34 1 v (strTo r 12).length (natV (strTo r 12)) ∧ Below w.heap.size w w' := by
  obtain ⟨i0, hi, hz0, hz1, hz2⟩ := info_parts infoLv
  have HK := Lib.hid (fun wx (hb : Below w.heap.size w wx) => hK.below hb)
  clear hK
  go_enter Tryd.func18, Tryd.ntmps18
  go_wp2_with fail
  go_loopw [3, 5] (fun v i wr => ∃ k : Nat, k ≤ 12 ∧ i = .int .i64 k ∧ wr.ownsRow (w.heap.size + 1) 34 1 v (strTo r k).length (natV (strTo r k)) ∧ BRow wr w.heap.size r ∧ Below w.heap.size w wr) (fun _ i _ => 12 - (intOf i).toNat)
  case atStart => exact ⟨0, by omega, rfl, World.ownsRow_nil _ _ _ _, BRow.made w r rfl rfl, (Below.refl w.heap.size w).alloc (Nat.le_refl _) _⟩
  case round =>
    obtain ⟨k, hk, rfl, hown, h0, hb⟩ := hrel
    have hll := strTo_len r k
    by_cases hlt : k < 12
    · have hki : (k : Int) < 12 := by omega
      have hc := h0.cell hlt
      have HS := Lib.hid (strTo_succ r k)
      have CI := Lib.hid (above_any r (k : Int) wr (HK.out _ hb))
      have H2 := Lib.hid (fun wx (hx : Below wr.heap.size wr wx) => h0.below hx h0.lt)
      have HB := Lib.hid (fun wx (hx : Below wr.heap.size wr wx) => hb.trans (hx.mono hb.size))
      have HO := Lib.hid (fun wx (hx : Below wr.heap.size wr wx) => owns_below hown hx)
      have hsz := h0.lt
      cases hr : r k
      · rw [hr] at hc HS
        have HM : Hid (strTo r (k + 1) = strTo r k) := Lib.hid (by rw [HS.out]; simp)
        clear hr HS CI
        go_wp2_with fail
        go_roundw
        case rel => exact ⟨k + 1, by omega, by go_num, by rw [HM.out]; exact hown, h0, hb⟩
        case measure => simp [intOf]; omega
      · rw [hr] at hc HS
        clear hr
        cases hm : abv r (k : Int)
        · rw [hm] at CI HS
          have HM : Hid (strTo r (k + 1) = strTo r k ++ [k]) := Lib.hid (by rw [HS.out]; simp)
          clear hm HS
          go_wp2_with (with_reducible refine wpList_load_rowB_g h0 _ rfl (by kernel_rfl) rfl ?_)
          refine (CI.out).mono ?_
          rintro e w6 ⟨rfl, hb6⟩
          have h6 := H2.out _ hb6
          have hbw := HB.out _ hb6
          have hown6 := HO.out _ hb6
          have hs6 := h6.lt
          clear CI hown h0 hb hb6 hsz H2 HB HO
          go_wp2_with (at_builtin; refine wpList_append_own _ rfl _ _ 30 rfl (w.heap.size + 1) 34 i0 (.int .i64 0) 1 8 Tryd.underlying30 hi hz0 hz1 hz2 rfl (by decide) _ _ _ rfl (hown6.alloc _) ⟨_, 0, none⟩ 1 1 [.int .i64 (k : Int)] rfl rfl ?c1 ?c2 ?c3 ?c4 ?c5 ?_)
          case c1 => exact cell_one_new _ _ _
          case c2 => intro u hu; simp at hu; subst hu; rfl
          case c3 => unfold maxLen; omega
          case c4 => omega
          case c5 => simp; omega
          · intro v' w7 hown' hgrow _
            have hb' := below_app0 hbw (Nat.le_refl _) hown6 (by omega) hgrow
            have h7 := (h6.alloc _).kept hgrow (fun e => by have := (hown6.lt _ e.symm).1; omega)
            clear hown6 h6 hbw hgrow
            go_wp2_with fail
            go_roundw
            case rel =>
              refine ⟨k + 1, by omega, by go_num, ?_, h7, hb'⟩
              rw [HM.out, natV_snoc, List.length_append]
              exact hown'
            case measure => simp [intOf]; omega
        · rw [hm] at CI HS
          have HM : Hid (strTo r (k + 1) = strTo r k) := Lib.hid (by rw [HS.out]; simp)
          clear hm HS
          go_wp2_with (first
            | (with_reducible refine wpList_load_rowB_g h0 _ rfl (by kernel_rfl) rfl ?_)
            | (go_at_call 23; refine (CI.out).mono ?_; rintro e w' ⟨rfl, hbb⟩))
          go_roundw
          case rel => exact ⟨k + 1, by omega, by go_num, by rw [HM.out]; exact HO.out _ hbb, H2.out _ hbb, HB.out _ hbb⟩
          case measure => simp [intOf]; omega
    · have hkn : k = 12 := by omega
      subst hkn
      go_wp2_with fail
      go_ret
      exact ⟨_, rfl, own_base0 hown (by omega), hb⟩
end Go.Proofs.YtadihdkpoeibhaaDoor
