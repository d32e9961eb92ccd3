/- Walks: Acyclic, Turned, Then of relations. Conditions: a relation's array is the one of a table of yes and no; First's library table lies where it is laid. -/
import Derived.Test.YtjfegknokombgaaDoorRelB
namespace Go.Proofs.YtjfegknokombgaaDoor
set_option maxRecDepth 100000
open Go.RowKit

def irrTo (R : Mat) (k : Nat) : Bool := (List.range k).all fun i => !R i i
theorem irrTo_no (R : Mat) (k : Nat) (hk : k < 64) (h : R k k = true) : false = irr R := by
  symm
  unfold irr
  rw [List.all_eq_false]
  exact ⟨k, List.mem_range.2 hk, by simp [h]⟩
set_option maxHeartbeats 1000000 in
theorem acyclic_any (R : Mat) (w : World) :
    Calls Tryd.prog 38 #[.agg (rowsA R)] w fun e w' => e = .returned (.bool (acy R)) ∧ Below w.heap.size w w' := by
  have h0 := RelAt.new w 27 R
  have HD : Hid (acy R = irr (clo R)) := Lib.hid rfl
  go_enter Tryd.func38, Tryd.ntmps38
  go_wp2_with (with_reducible refine wpList_load_rel h0 rfl _ rfl rfl ?_)
  refine (closure_any R _).mono ?_
  rintro e w1 ⟨rfl, hb⟩
  have hb1 : Below w.heap.size w w1 := ((Below.refl w.heap.size w).alloc (Nat.le_refl _) _).trans (hb.mono (by simp))
  clear hb h0
  go_wp2_with fail
  generalize clo R = C at *
  go_loop [7] (fun i => ∃ k : Nat, k ≤ 64 ∧ i = .int .i64 k ∧ irrTo C k = true) (fun i => 64 - (intOf i).toNat)
  case atStart => exact ⟨0, by omega, rfl, rfl⟩
  case round =>
    obtain ⟨k, hk, rfl, hirr⟩ := hrel
    have HI := Lib.hid hirr
    clear hirr
    by_cases hlt : k < 64
    · have hidx := fun wx => run_index_rel C k hlt wx
      have CH := fun wx => has_any (mkS (C k)) (k : Int) wx (isSet_mkS _)
      rw [hasB_mkS _ _ hlt] at CH
      have HS := Lib.hid (irr_succ C k)
      have HN := Lib.hid (irrTo_no C k hlt)
      cases hh : C k k
      all_goals
        rw [hh] at CH
        have CH' := Lib.hid CH
        have HE := Lib.hid hh
        clear CH hh
        generalize mkS (C k) = x at *
        go_wp2_with (go_at_call 61; refine (CH'.out _).mono ?_; rintro e w' ⟨rfl, rfl⟩)
      · go_round
        case rel => exact ⟨k + 1, by omega, by go_num, by unfold irrTo; rw [HS.out, HE.out]; have := HI.out; unfold irrTo at this; rw [this]; rfl⟩
        case measure => simp [intOf]; omega
      · go_ret
        exact ⟨ret_b (by rw [HD.out]; exact HN.out HE.out), hb1⟩
    · have hk64 : k = 64 := by omega
      subst hk64
      go_wp2
      go_ret
      exact ⟨ret_b (by rw [HD.out]; exact HI.out.symm), hb1⟩

def turnR (R : Mat) : Mat := fun i j => R j i
/-- Turned, done for the columns below a, and for column a as far as p says. -/
def turnTo (R : Mat) (a : Nat) (p : Nat → Bool) : Mat := fun i j => (decide (j < a) && R j i) || (decide (j = a) && p i)
theorem withS_mkS (q : Nat → Bool) (a : Nat) (ha : a < 64) : withS (mkS q) (a : Int) = mkS fun j => q j || decide (j = a) := by
  apply mkS_eq (isSet_withS (isSet_mkS q))
  intro i hi
  rw [testBit_withS, testBit_mkS]
  have h : 0 ≤ (a : Int) ∧ (a : Int) < 64 := by omega
  simp only [hi, h, decide_true, Bool.true_and, and_self, Int.toNat_natCast]
  congr 1
  rw [Bool.eq_iff_iff]; simp; exact ⟨fun h => h.symm, fun h => h.symm⟩
theorem turnTo_step (R : Mat) (a b : Nat) (p : Nat → Bool) : rowSet (turnTo R a p) b (fun j => turnTo R a p b j || decide (j = a)) = turnTo R a (fun i => p i || decide (i = b)) := by
  funext i j
  unfold rowSet turnTo
  by_cases e : i = b
  · subst e
    by_cases h : j = a
    · subst h; simp
    · simp [h]
  · rw [if_neg e]; simp [e]
theorem turnTo_next (R : Mat) (a : Nat) (p : Nat → Bool) (h : ∀ i, i < 64 → p i = R a i) : rowsA (turnTo R a p) = rowsA (turnTo R (a + 1) fun _ => false) := by
  apply rowsA_congr
  intro i j hi hj
  unfold turnTo
  by_cases e : j = a
  · subst e; simp [h i hi]
  · by_cases h2 : j < a
    · have : j < a + 1 := by omega
      simp [h2, this, e]
    · have : ¬ j < a + 1 := by omega
      simp [h2, this, e]
theorem turnTo_start (R : Mat) : rowsA noR = rowsA (turnTo R 0 fun _ => false) := rowsA_congr fun i j _ _ => by unfold turnTo noR; simp
theorem turnTo_end (R : Mat) : rowsA (turnTo R 64 fun _ => false) = rowsA (turnR R) := rowsA_congr fun i j _ hj => by unfold turnTo turnR; simp [hj]
theorem any_take (L : List Nat) (k : Nat) (hk : k < L.length) (i : Nat) : (L.take (k + 1)).contains i = ((L.take k).contains i || decide (i = L[k])) := by
  rw [Bool.eq_iff_iff, Bool.or_eq_true, List.contains_iff_mem, List.contains_iff_mem, List.take_succ_eq_append_getElem hk, List.mem_append, List.mem_singleton, decide_eq_true_iff]
theorem lst_mem_mkS (p : Nat → Bool) (i : Nat) (hi : i < 64) : (lst (mkS p)).contains i = p i := by
  rw [lst_mkS, Bool.eq_iff_iff]; simp [hi]
theorem lst_lt {s k : Nat} (hk : k < (lst s).length) : (lst s)[k] < 64 := (mem_lst.1 (List.getElem_mem hk)).1
set_option maxHeartbeats 2000000 in
theorem turned_any (R : Mat) (w : World) (ht : Tab w) :
    Calls Tryd.prog 45 #[.agg (rowsA R)] w fun e w' => e = .returned (.agg (rowsA (turnR R))) ∧ Below w.heap.size w w' := by
  have hg := ht.pos
  have HT : Hid (∀ wx, Below w.heap.size w wx → Tab wx) := Lib.hid (fun wx hb => ht.below hb hg)
  clear ht
  obtain ⟨B, hB⟩ : ∃ B, B = w.heap.size := ⟨_, rfl⟩
  have h0 : RelAt (w.alloc (.cells (rowsA R) 27)) B 27 R := RelAt.made w _ R hB rfl
  subst hB
  go_enter Tryd.func45, Tryd.ntmps45
  go_wp2_with (with_reducible refine wpList_load_rel ((h0.alloc _).alloc _) rfl _ rfl rfl ?_)
  go_loopw [9] (fun i wr => ∃ a : Nat, a ≤ 64 ∧ i = .int .i64 a ∧ RelAt wr (w.heap.size + 2) 27 (turnTo R a fun _ => false) ∧ RelAt wr (w.heap.size + 1) 27 noR ∧ Below w.heap.size w wr)
    (fun i _ => 64 - (intOf i).toNat)
  case atStart =>
    refine ⟨0, by omega, rfl, ?_, ?_, ?_⟩
    · exact RelAt.made _ _ _ (by simp) (by rw [← turnTo_start, rowsA_none]; rfl)
    · exact (RelAt.made _ _ noR (by simp) (by rw [rowsA_none]; rfl)).alloc _
    · exact (((Below.refl w.heap.size w).alloc (Nat.le_refl _) _).alloc (by simp) _).alloc (by simp; omega) _
  case round =>
    obtain ⟨a, ha, rfl, h2, h1, hb⟩ := hrel
    by_cases hlt : a < 64
    · have hidx := fun wx => run_index_rel R a hlt wx
      have hda : decide ((a : Int) < 64) = true := by simp; omega
      have HNX := Lib.hid (turnTo_next R a ((lst (mkS (R a))).contains ·) (fun i hi => lst_mem_mkS _ i hi))
      have hset := isSet_mkS (R a)
      have hlen := lstTo_len (mkS (R a)) 64
      have HL : Hid (∀ (k : Nat) (hk : k < (lst (mkS (R a))).length), (lst (mkS (R a)))[k] < 64) := Lib.hid (fun k hk => lst_lt hk)
      have hlen' : (lst (mkS (R a))).length ≤ 64 := hlen
      clear hlen
      generalize mkS (R a) = x at *
      have hal : (a : Int) < 64 := by omega
      go_wp2_with fail
      refine (list_any x wr hset (HT.out _ hb)).mono ?_
      rintro e w1 ⟨v, rfl, hown, hb1⟩
      have h2' := h2.below hb1 h2.lt
      have h1' := h1.below hb1 h1.lt
      have hbb := hb.trans (hb1.mono hb.size)
      have hD : w.heap.size + 2 < wr.heap.size := h2.lt
      clear hb1 hb h1 h2 hset
      generalize wr.heap.size = D at *
      generalize lst x = L at *
      obtain ⟨ao, cap, rfl, hml⟩ := (Ints.of_nats hown).form
      rw [List.length_map] at *
      go_wp2_with fail
      go_loopw [16] (fun i wx => ∃ k : Nat, k ≤ L.length ∧ i = .int .i64 k ∧ RelAt wx (w.heap.size + 2) 27 (turnTo R a ((L.take k).contains ·)) ∧ RelAt wx (w.heap.size + 1) 27 noR ∧ Below w.heap.size w wx ∧ wx.ownsRow D 3 1 (.slice ao L.length cap) L.length (L.map fun i : Nat => Value.int .i64 (i : Int)))
        (fun i _ => L.length - (intOf i).toNat)
      case atStart => exact ⟨0, by omega, rfl, h2', h1', hbb, hown⟩
      case round =>
        obtain ⟨k, hk, rfl, hx2, hx1, hxb, hxo⟩ := hrel
        by_cases hlk : k < L.length
        · obtain ⟨p, off, hao, hc⟩ := (Ints.of_nats hxo).at (k := k) (by simpa using hlk)
          cases hao
          rw [List.getElem_map] at hc
          have hbl := HL.out k hlk
          have hbi : (L[k] : Int) < 64 := by omega
          have HQ := Lib.hid (any_take L k hlk)
          have HStep := Lib.hid (turnTo_step R a L[k] ((L.take k).contains ·))
          generalize L[k] = b at *
          have hcb := hx2.cell hbl
          have hf := hx2.free b
          have hM := Lib.hid (withS_mkS (turnTo R a ((L.take k).contains ·) b) a hlt)
          have hset := isSet_mkS (turnTo R a ((L.take k).contains ·) b)
          have HN := Lib.hid (hx2.store b _ (fun j => turnTo R a ((L.take k).contains ·) b j || decide (j = a)) hM.out)
          have H1 := Lib.hid (fun v => hx1.other (k := ⟨w.heap.size + 2, b, none⟩) (by simp) v)
          have HB := Lib.hid (fun v => hxb.setCell (p := ⟨w.heap.size + 2, b, none⟩) (by simp) v)
          have HI := Lib.hid (fun v => ownsRow_setCell_below hxo (a := ⟨w.heap.size + 2, b, none⟩) hD v)
          clear hx2 hx1 hxb hxo
          generalize mkS (turnTo R a ((L.take k).contains ·) b) = y at *
          change World.cell? _ ⟨p, off + k, none⟩ = some (.int .i64 (b : Int)) at hc
          go_wp2_with (go_at_call 59; refine (with_any y (a : Int) _ hset).mono ?_; rintro e w' ⟨rfl, rfl⟩)
          go_roundw
          case rel =>
            refine ⟨k + 1, by omega, by go_num, ?_, H1.out _, HB.out _, HI.out _⟩
            have h := HN.out
            rw [HStep.out, ← funext HQ.out] at h
            exact h
          case measure => simp [intOf]; omega
        · have hkL : k = L.length := by omega
          subst hkL
          have HX : Hid (RelAt _ (w.heap.size + 2) 27 (turnTo R (a + 1) fun _ => false)) := Lib.hid (by
            rw [List.take_length] at hx2
            unfold RelAt at *
            rw [← HNX.out]; exact hx2)
          clear hx2 hxo
          go_wp2
          go_roundw
          case rel => exact ⟨a + 1, by omega, by go_num, HX.out, hx1, hxb⟩
          case measure => simp [intOf]; omega
    · have ha64 : a = 64 := by omega
      subst ha64
      go_wp2_with (first
        | (with_reducible refine wpList_load_rel h2 rfl _ rfl rfl ?_)
        | (with_reducible refine wpList_store_rel h1 (turnTo R 64 fun _ => false) rfl _ _ rfl rfl rfl ?_))
      have h3 := h1.setRow' (turnTo_end R)
      exact bodyPost_ret (results_rel rfl _ _ _ _ rfl h3) rfl ⟨rfl, below_setRow hb (by omega) _⟩
end Go.Proofs.YtjfegknokombgaaDoor
