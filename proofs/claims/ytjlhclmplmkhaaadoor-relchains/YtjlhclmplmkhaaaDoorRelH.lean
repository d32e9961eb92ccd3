/- Walks: the reference's Then of pairs. Conditions: slices' cells are known; not too many pairs. -/
import Derived.Test.YtjlhclmplmkhaaaDoorRelG
namespace Go.Proofs.YtjlhclmplmkhaaaDoor
open Go.RowKit

set_option maxHeartbeats 2000000 in
theorem pthen_any (va vb : Value) (l m : List Pr) (w : World) (ha : Prs w va l) (hb : Prs w vb m) (hbig : l.length * m.length ≤ 1000000) :
    Calls Tryd.prog 34 #[va, vb] w fun e w' => ∃ v', e = .returned v' ∧ Prs w' v' (thenP l m) ∧ Below w.heap.size w w' := by
  obtain ⟨ao, cap, rfl, hal⟩ := ha.form
  obtain ⟨bo, bap, rfl, hbl⟩ := hb.form
  have HLEN : Hid (∀ k j, (thenOne (thenP (l.take k) m) (l.getD k (0, 0)) (m.take j)).length ≤ l.length * m.length + m.length) := Lib.hid (fun k j => by
    have h1 := thenOne_len (p := l.getD k (0, 0)) (m.take j) (thenP (l.take k) m)
    have h2 := thenP_len (l.take k) m
    have h3 : (l.take k).length * m.length ≤ l.length * m.length := Nat.mul_le_mul_right _ (by simp; omega)
    have h4 : (m.take j).length ≤ m.length := by simp; omega
    omega)
  have hpos : Hid (∀ k, k < l.length → m.length ≤ l.length * m.length) := Lib.hid (fun k hk => Nat.le_mul_of_pos_left _ (by omega))
  go_enter Tryd.func34, Tryd.ntmps34
  go_wp2
  go_loopw [5, 6] (fun v i wr => ∃ k : Nat, k ≤ l.length ∧ i = .int .i64 k ∧ Prs wr v (thenP (l.take k) m) ∧ Below w.heap.size w wr) (fun _ i _ => l.length - (intOf i).toNat)
  case atStart =>
    refine ⟨0, by omega, rfl, ?_, (Below.refl _ _).alloc (Nat.le_refl _) _⟩
    exact Prs.of_owns (l := []) (base := 0) (World.ownsRow_lit (size := 2) _ _ _ (Nat.zero_le _) (by simp) (by simp))
  case round =>
    obtain ⟨k, hk, rfl, hp, hbr⟩ := hrel
    by_cases hlt : k < l.length
    · have hdk : decide ((k : Int) < (l.length : Int)) = true := by simp; omega
      have HS := Lib.hid (thenP_succ l m k hlt)
      have hgd : Hid (l.getD k (0, 0) = l[k]) := Lib.hid (by simp [List.getD, hlt])
      have HLK : Hid (∀ j, (thenOne (thenP (l.take k) m) l[k] (m.take j)).length ≤ 10000000) := Lib.hid (fun j => by
        have h1 := HLEN.out k j
        rw [hgd.out] at h1
        have h2 := hpos.out k hlt
        omega)
      have hat := fun (wx : World) (hbx : Below w.heap.size w wx) => (ha.below hbx).at hlt
      have HAT := Lib.hid hat
      have HBT : Hid (∀ wx, Below w.heap.size w wx → Prs wx (.slice bo m.length bap) m) := Lib.hid (fun wx hbx => hb.below hbx)
      clear hat hgd
      generalize l[k] = z at *
      obtain ⟨x, y⟩ := z
      generalize thenP (l.take k) m = o at *
      go_wp2_with fail
      go_loopw [5, 7] (fun v i wx => ∃ j : Nat, j ≤ m.length ∧ i = .int .i64 j ∧ Prs wx v (thenOne o (x, y) (m.take j)) ∧ Below w.heap.size w wx) (fun _ i _ => m.length - (intOf i).toNat)
      case atStart => exact ⟨0, by omega, rfl, hp, hbr⟩
      case round =>
        obtain ⟨j, hj, rfl, hpx, hbx⟩ := hrel
        by_cases hlj : j < m.length
        · obtain ⟨p, off, hao, hc1, hc2⟩ := HAT.out _ hbx
          cases hao
          have HBJ := Lib.hid (fun (wx : World) (hbx : Below w.heap.size w wx) => (HBT.out wx hbx).at hlj)
          have HQ := Lib.hid (thenOne_succ o (x, y) m j hlj)
          have HLJ := HLK.out j
          have hpd := fun n => hpx.below (below_drewN (Below.refl _ _) n)
          have HPD := Lib.hid hpd
          clear hpd hpx
          generalize m[j] = z at *
          obtain ⟨x2, y2⟩ := z
          obtain ⟨q, offb, hbo, hd1, hd2⟩ := HBJ.out _ hbx
          cases hbo
          simp only at hc1 hc2 hd1 hd2
          have hki : (k : Int) < (l.length : Int) := by omega
          have hji : (j : Int) < (m.length : Int) := by omega
          by_cases hy : y = x2
          · have hy' : (y == x2) = true := by simpa using hy
            have HY := Lib.hid hy'
            clear hy
            go_wp2
            go_quiet (fail)
            go_wp2
            have hb2 : Below w.heap.size w (wr.drewN nq) := below_drewN hbx nq
            have HP2 := Lib.hid (HPD.out nq)
            clear hc1 hc2 hd1 hd2 hbx
            generalize wr.drewN nq = w2 at *
            obtain ⟨_, _, e1, hc1, hc2⟩ := HAT.out _ hb2
            cases e1
            obtain ⟨_, _, e2, hd1, hd2⟩ := HBJ.out _ hb2
            cases e2
            go_still_tail 11, (by kernel_rfl)
            go_wp2_with fail
            refine (put_any _ _ x y2 _ ((HP2.out).below ((Below.refl _ _).drew)) (by omega)).mono ?_
            rintro e w3 ⟨v3, rfl, hp3, hb3⟩
            have hb4 : Below w.heap.size w w3 := (hb2.drew).trans (hb3.mono (by simpa using hb2.size))
            clear hc1 hc2 hd1 hd2 hb3
            have HP3 := Lib.hid hp3
            clear hp3
            go_wp2_with fail
            go_roundw
            case rel => exact ⟨j + 1, by omega, by go_num, by rw [HQ.out, if_pos HY.out]; exact HP3.out, hb4⟩
            case measure => simp [intOf]; omega
          · have hy' : (y == x2) = false := by simpa using hy
            have HY : Hid (¬ (y == x2) = true) := Lib.hid (by rw [hy']; simp)
            clear hy
            go_wp2
            go_quiet (fail)
            go_wp2
            go_roundw
            case rel => exact ⟨j + 1, by omega, by go_num, by rw [HQ.out, if_neg HY.out]; exact HPD.out _, below_drewN hbx _⟩
            case measure => simp [intOf]; omega
        · have HX : Hid (Prs wr u5 (thenP (l.take (k + 1)) m)) := Lib.hid (by
            rw [HS.out]
            rwa [List.take_of_length_le (by omega)] at hpx)
          clear hpx
          go_wp2_with fail
          go_roundw
          case rel => exact ⟨k + 1, by omega, by go_num, HX.out, hbx⟩
          case measure => simp [intOf]; omega
    · have HX : Hid (Prs wr u5 (thenP l m)) := Lib.hid (by rwa [List.take_of_length_le (by omega)] at hp)
      clear hp
      go_wp2_with fail
      go_ret
      exact ⟨_, rfl, HX.out, hbr⟩
end Go.Proofs.YtjlhclmplmkhaaaDoor
