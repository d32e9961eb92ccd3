/- Walks: the reference's Has and Put of pairs, Right. Conditions: a slice's cells are known. -/
import Derived.Test.YtjfegknokombgaaDoorRelE
import Derived.Test.YtjfegknokombgaaDoorRelP
namespace Go.Proofs.YtjfegknokombgaaDoor
set_option maxRecDepth 100000
open Go.RowKit

set_option maxHeartbeats 1000000 in
theorem phas_any (v : Value) (l : List Pr) (a b : Int) (w : World) (hv : Prs w v l) :
    Calls Tryd.prog 17 #[v, .int .i64 a, .int .i64 b] w fun e w' => e = .returned (.bool (hasP l a b)) ∧ w = w' := by
  obtain ⟨ao, cap, rfl, hlen⟩ := hv.form
  go_enter Tryd.func17, Tryd.ntmps17
  go_wp2
  go_loop [7] (fun i => ∃ k : Nat, k ≤ l.length ∧ i = .int .i64 k ∧ hasP (l.take k) a b = false) (fun i => l.length - (intOf i).toNat)
  case atStart => exact ⟨0, Nat.zero_le _, rfl, by simp [hasP]⟩
  case round =>
    obtain ⟨k, hk, rfl, hno⟩ := hrel
    have HNO := Lib.hid hno; clear hno
    by_cases hlt : k < l.length
    · obtain ⟨p, off, rfl, hc1, hc2⟩ := hv.at hlt
      have HS := Lib.hid (hasP_succ l a b k hlt)
      have HH := Lib.hid (hasP_hit l a b k hlt)
      generalize l[k] = z at *
      obtain ⟨x, y⟩ := z
      simp only at hc1 hc2
      by_cases hx : x = a
      · have hx' : (x == a) = true := by simpa using hx
        have HX := Lib.hid hx
        clear hx
        by_cases hy : y = b
        · have hy' : (y == b) = true := by simpa using hy
          have HY := Lib.hid hy
          clear hy
          go_wp2
          go_ret
          exact ⟨ret_b (HH.out HX.out HY.out), rfl⟩
        · have hy' : (y == b) = false := by simpa using hy
          go_wp2
          go_round
          case rel => exact ⟨k + 1, by omega, by go_num, by rw [HS.out, HNO.out, hx', hy']; rfl⟩
          case measure => simp [intOf]; omega
      · have hx' : (x == a) = false := by simpa using hx
        go_wp2
        go_round
        case rel => exact ⟨k + 1, by omega, by go_num, by rw [HS.out, HNO.out, hx']; rfl⟩
        case measure => simp [intOf]; omega
    · go_wp2
      go_ret
      exact ⟨ret_b (by rw [← HNO.out, List.take_of_length_le (by omega)]), rfl⟩
theorem infoPair : (Tryd.prog.info? 61).map (fun i => (i.zero, i.size, i.bytes)) = some (some (.agg #[.int .i64 0, .int .i64 0]), 2, 16) := by kernel_rfl
theorem pair_new (w : World) (cs : Array Value) (t : TypeId) (fr : Nat × Nat) : ∀ j u, cs.toList[j]? = some u → (w.alloc (.cells cs t fr)).cell? ((⟨w.heap.size, 0, none⟩ : Addr).add j) = some u := by
  intro j u hu
  rw [Addr.add_lit, Nat.zero_add, cell_of_row _ _ j cs t fr (heap_alloc_new w _)]
  simpa using hu
theorem Prs.lit (w : World) (base : Nat) (a b : Int) (hb : base ≤ w.heap.size) : (w.alloc (.cells #[.int .i64 a, .int .i64 b] 61)).ownsRow base 61 2 (.slice (some ⟨w.heap.size, 0, none⟩) 1 1) 1 (prV [(a, b)]) :=
  World.ownsRow_lit (base := base) (size := 2) w #[.int .i64 a, .int .i64 b] 1 hb (by decide) rfl
set_option maxHeartbeats 1000000 in
theorem put_any (v : Value) (l : List Pr) (a b : Int) (w : World) (hv : Prs w v l) (hlen : l.length ≤ 1000000000) :
    Calls Tryd.prog 49 #[v, .int .i64 a, .int .i64 b] w fun e w' => ∃ v', e = .returned v' ∧ Prs w' v' (putP l a b) ∧ Below w.heap.size w w' := by
  obtain ⟨i0, hi, hz0, hz1, hz2⟩ := info_parts infoPair
  have C := phas_any v l a b w hv
  cases hh : hasP l a b
  · have HP : Hid (putP l a b = l ++ [(a, b)]) := Lib.hid (by unfold putP; rw [hh]; rfl)
    rw [hh] at C
    have CH := Lib.hid C
    clear C hh
    go_enter Tryd.func49, Tryd.ntmps49
    go_wp2_with fail
    refine (CH.out).mono ?_
    rintro e w' ⟨rfl, rfl⟩
    go_wp2_with (at_builtin; refine wpList_append_row rfl _ _ 22 rfl w.heap.size 61 i0 (.agg #[.int .i64 0, .int .i64 0]) 2 16 Tryd.underlying22 hi hz0 hz1 hz2 rfl (by decide) _ 0 [] rfl (World.ownsRow_lit _ _ _ (Nat.le_refl _) (by decide) rfl) _ l.length _ rfl (hv.below ((Below.refl _ _).alloc (Nat.le_refl _) _)) ?c1 ?c2 ?c3 ?c4 ?_)
    case c1 => exact prV_oneCell _
    case c2 => unfold maxLen; omega
    case c3 => omega
    case c4 => simp
    intro v5 w5 hown5 hg5
    have hb5 : Below w.heap.size w w5 := ((Below.refl w.heap.size w).alloc (Nat.le_refl _) _).grown hg5 (by simp) (by intro k hk; simp [Value.ownBlock] at hk; omega)
    clear hg5
    have hsz := hb5.size
    have hown5' : w5.ownsRow w.heap.size 61 2 v5 l.length (prV l) := by simpa using hown5
    clear hown5
    go_wp2_with (at_builtin; refine wpList_append_row rfl _ _ 22 rfl w.heap.size 61 i0 (.agg #[.int .i64 0, .int .i64 0]) 2 16 Tryd.underlying22 hi hz0 hz1 hz2 rfl (by decide) _ _ _ rfl (hown5'.alloc _) _ 1 _ rfl (Row.of_owns (Prs.lit w5 0 a b (Nat.zero_le _))) ?d1 ?d2 ?d3 ?d4 ?_)
    case d1 => exact prV_oneCell _
    case d2 => unfold maxLen; omega
    case d3 => omega
    case d4 => simp; omega
    intro v6 w6 hown6 hg6
    have hb6 := below_app hb5 (Nat.le_refl _) hown5' hg6
    clear hg6 hown5' hb5
    go_wp2
    go_ret
    refine ⟨_, rfl, ?_, hb6⟩
    rw [HP.out]
    rw [← prV_append] at hown6
    exact Prs.of_owns hown6
  · have HP : Hid (putP l a b = l) := Lib.hid (by unfold putP; rw [hh]; rfl)
    rw [hh] at C
    have CH := Lib.hid C
    clear C hh
    go_enter Tryd.func49, Tryd.ntmps49
    go_wp2_with fail
    refine (CH.out).mono ?_
    rintro e w' ⟨rfl, rfl⟩
    go_wp2_with fail
    go_ret
    exact ⟨_, rfl, by rw [HP.out]; exact hv, Below.refl _ _⟩
end Go.Proofs.YtjfegknokombgaaDoor
