/- The walks of what rises, of Reads and of Writes. Conditions: a slice's cells are known, and hold operations of ints; there are at most 100000. -/
import Derived.Test.YtlkdojcimlfmdaaTxnF
namespace Go.Proofs.Ytlkdojcimlfmdaa
set_option maxRecDepth 100000
open Go.RowKit Go.Lib Go.Sort Go.Shelf

theorem mapIO : Try.prog.underlying 94 = some (.map 3 31) := Try.underlying94
theorem zeroO (w : World) : (zeroValue 31).run Try.prog w = .ok (eO opZ) w := by kernel_rfl
theorem Own.split {w : World} {base : Nat} {v : Value} {l : List OpV} (h : Own w base v l) : (v = .slice none 0 0 ∧ l = []) ∨ ∃ g cap, v = .slice (some ⟨g, 0, none⟩) l.length cap ∧ base ≤ g := by
  obtain ⟨_, h2⟩ := h
  rcases h2 with ⟨e1, e2⟩ | ⟨g, cap, cur, e1, e2, _⟩
  · exact .inl ⟨e1, List.eq_nil_of_length_eq_zero e2⟩
  · exact .inr ⟨g, cap, e1, e2⟩
/-- The world behind an append onto a call's own slice leaves what was there before. -/
theorem below_own {w w1 w2 : World} {base : Nat} {v : Value} {l : List OpV} (hb : Below w.heap.size w w1) (hO : Own w1 base v l) (hbase : w.heap.size ≤ base) (hg : w1.grownBy w2 v.ownBlock) : Below w.heap.size w w2 :=
  hb.grown hg hb.size (fun j hj => by
    rcases hO.split with ⟨e, _⟩ | ⟨g, cap, e, hg'⟩
    · rw [e] at hj; cases hj
    · rw [e] at hj; have : g = j := (by simpa [Value.ownBlock] using hj); omega)
theorem own_ne {w1 : World} {base b : Nat} {v : Value} {l : List OpV} (hO : Own w1 base v l) (hb : b < base) : some b ≠ v.ownBlock := by
  rcases hO.split with ⟨e, _⟩ | ⟨g, cap, e, hg'⟩
  · rw [e]; simp [Value.ownBlock]
  · rw [e]; intro h; have : b = g := (by simpa [Value.ownBlock] using h); omega
set_option maxHeartbeats 4000000 in
theorem rising_any (b n c : Nat) (f : Int → Option OpV) (wt : Bool) (w : World) (hM : MapI eO Try.prog 3 w b n f c) (hf : ∀ x o, f x = some o → o.key = x ∧ InI x) (hc : c ≤ 100000) :
    Calls Try.prog 76 #[.map (some b), .bool wt] w fun e w' => ∃ v out, e = .returned v ∧ Own w' w.heap.size v out ∧ Rise f wt out ∧ out.length ≤ c ∧ Below w.heap.size w w' := by
  obtain ⟨i0, hi, hz0, hz1, hz2⟩ := info_parts infoOp
  have HF := Lib.hid hf
  have hbm := hM.lt
  clear hf
  go_enter Try.func76, Try.ntmps76
  go_wp2_with (first | (at_range; refine wpList_rangeI _ rfl _ 94 rfl 3 31 keyI mapIO _ _ _ _ rfl hM ?_; intro w0 hR0 hg0 hs0) | go_in)
  go_frame
  have hb0 := (Below.refl w.heap.size w).grown hg0 (Nat.le_refl _) (fun j hj => by cases hj)
  go_loopw [5] (fun v wr' => ∃ left cnt acc, RangeI eO Try.prog 3 wr' b w.heap.size n f left cnt ∧ Own wr' (w.heap.size + 1) v acc ∧ acc.length + cnt ≤ c ∧ Got f wt left acc ∧ Below w.heap.size w wr') (fun _ wr' => wr'.rangeLeft b w.heap.size)
  case atStart => exact ⟨_, _, [], hR0, Own.nil _ _, by simp, Got.start f wt, hb0⟩
  case round =>
    obtain ⟨left, cnt, acc, hR, hO, hl, hG, hb⟩ := hrel
    clear hM hR0 hg0 hb0
    go_wp2_with (first | (at_next; refine wpList_nextI _ rfl _ rfl 3 keyI eO_inj _ _ _ _ _ _ rfl hR ?_ ?_) | go_in)
    · intro hc0 hl0
      have hmem : Hid (∀ o, o ∈ acc ↔ (f o.key = some o ∧ o.wr = wt)) := Lib.hid (fun o => (hG.2 o).trans ⟨fun ⟨h1, h2, _⟩ => ⟨h1, h2⟩, fun ⟨h1, h2⟩ => ⟨h1, h2, hl0 _ (HF.out _ _ h1).2⟩⟩)
      have hnd := Lib.hid hG.1
      clear hG hl0 hR
      rcases hO.split with ⟨rfl, rfl⟩ | ⟨g, cap, rfl, hbg⟩
      · go_wp2_with fail
        refine (sort_none _ _ _ _).mono ?_
        rintro e w1 ⟨rfl, rfl⟩
        go_wp2_with fail
        go_ret
        exact ⟨_, [], rfl, Own.nil _ _, ⟨List.Pairwise.nil, hmem.out⟩, by simp, hb⟩
      · have hH := Lib.hid (own_holds hO)
        have HO := Lib.hid hO
        clear hO
        go_wp2_with fail
        refine (sort_any g 0 cap acc.toArray wr hH.out.1 hH.out.2.1 (by simp; omega)).mono ?_
        rintro e w1 ⟨rfl, d', m, os, hp, hs, rfl⟩
        obtain ⟨hlen, hrise⟩ := sort_rise hmem.out hnd.out hp hs
        have hown := own_sorted (n := m) (os := os) hlen HO.out
        have hb1 := hb.grown hown.2 hb.size (fun j hj => by cases hj; omega)
        have hO1 := Lib.hid (hown.1.base (show w.heap.size ≤ w.heap.size + 1 by omega))
        clear hown hp hs
        generalize sortWorldK encO 3 wr g 0 m d'.toList.toArray os = w1 at *
        go_wp2_with fail
        go_ret
        exact ⟨_, _, rfl, hO1.out, hrise, by rw [hlen]; omega, hb1⟩
    · intro x u w1 cnt1 hx hlx hfu hR1 hlt1 hg1 hs1 hen
      obtain ⟨hux, _⟩ := HF.out _ _ hfu
      subst hux
      have hb1 := hb.grown hg1 hb.size (fun j hj => by cases hj; omega)
      have hO1 : Own w1 (w.heap.size + 1) u5 acc := World.ownsRow.kept hO hg1 (.inr (own_ne hO (Nat.lt_succ_self _)).symm)
      have GY := Lib.hid (fun h => hG.yes hlx hfu h)
      have GN := Lib.hid (fun h => hG.no hfu h)
      have hle := hR.left_eq
      clear hO hR hG hlx hfu hb hx
      obtain ⟨uw, uk, uv⟩ := u
      change Sem.run _ _ _ = Result.ok (Value.tuple #[.int .i64 uk, .agg #[.bool uw, .int .i64 uk, .int .i64 uv]]) _ at hen
      simp only [eO, OpV.v]
      have hR2 := hR1.alloc (.cells #[.bool uw, .int .i64 uk, .int .i64 uv] 31)
      have hO2 := World.ownsRow.alloc hO1 (.cells #[.bool uw, .int .i64 uk, .int .i64 uv] 31)
      have hb2 := hb1.alloc hb1.size (.cells #[.bool uw, .int .i64 uk, .int .i64 uv] 31)
      by_cases hw : uw = wt
      · subst hw
        have hw' : (uw == uw) = true := by simp
        have G := Lib.hid (GY.out rfl)
        have hx := opBlock w1 (.bool uw) (.int .i64 uk) (.int .i64 uv) 31
        have hws := hb1.size
        have hlit := opLit (w1.alloc (.cells #[.bool uw, .int .i64 uk, .int .i64 uv] 31)) 0 ⟨uw, uk, uv⟩ (Nat.zero_le _)
        rw [show (w1.alloc (.cells #[.bool uw, .int .i64 uk, .int .i64 uv] 31)).heap.size = w1.heap.size + 1 from by simp] at hlit
        clear GY GN hR1 hO1 hb1 hs1
        go_wp2_with (first | (at_builtin; go_loud (refine wpList_append_row rfl _ _ 27 rfl (w.heap.size + 1) 31 i0 (.agg #[.bool false, .int .i64 0, .int .i64 0]) 3 24 Try.underlying27 hi hz0 hz1 hz2 rfl (by decide) _ _ _ rfl (hO2.alloc _) _ 1 _ rfl (Row.of_owns hlit) ?d1 ?d2 ?d3 ?d4 ?_)) | go_in)
        case d1 => exact opV_one _
        case d2 => unfold maxLen; omega
        case d3 => omega
        case d4 => first | omega | (simp; omega)
        intro v6 w6 hown6 hg6
        clear hlit
        have hO3 : Own _ _ _ (acc ++ [⟨uw, uk, uv⟩]) := ⟨by rw [opV_len], by rw [opV_app]; simpa using hown6.2⟩
        have hg3 := hg6
        have hR3 := (hR2.alloc (.cells #[.bool uw, .int .i64 uk, .int .i64 uv] 31)).kept hg6 (own_ne hO2 (by omega)) (own_ne hO2 (by omega))
        have hb3 := below_own (hb2.alloc hb2.size (.cells #[.bool uw, .int .i64 uk, .int .i64 uv] 31)) (hO2.alloc (.cells #[.bool uw, .int .i64 uk, .int .i64 uv] 31)) (by omega) hg6
        clear hown6 hg6 hR2 hb2 hO2
        go_wp2_with fail
        go_roundw
        case rel => exact ⟨_, _, _, hR3, hO3, by simp; omega, G.out, hb3⟩
        case measure => rw [hR3.left_eq, hle]; exact hlt1
      · have hw' : (uw == wt) = false := by simpa using hw
        have G := Lib.hid (GN.out hw)
        clear GY GN hw
        go_wp2_with fail
        go_roundw
        case rel => exact ⟨_, _, _, hR2, hO2, by omega, G.out, hb2⟩
        case measure => rw [hR2.left_eq, hle]; exact hlt1
end Go.Proofs.Ytlkdojcimlfmdaa
