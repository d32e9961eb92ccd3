/- Walks: Then of relations. Conditions: a relation's array is the one of a table of yes and no; First's library table lies where it is laid. -/
import Derived.Test.YtjfegknokombgaaDoorRelD
namespace Go.Proofs.YtjfegknokombgaaDoor
set_option maxRecDepth 100000
open Go.RowKit

/-- Who one comes to by one of some numbers. -/
def viaL (S : Mat) (L : List Nat) (j : Nat) : Bool := L.any fun m => S m j
def thenR (R S : Mat) : Mat := fun i j => (List.range 64).any fun m => R i m && S m j
/-- One behind the other, done for the rows below a, and of row a as far as q says. -/
def thTo (R S : Mat) (a : Nat) (q : Nat → Bool) : Mat := fun i j => if i < a then thenR R S i j else if i = a then q j else false
theorem viaL_lst (R S : Mat) (a j : Nat) : viaL S (lst (mkS (R a))) j = thenR R S a j := by
  unfold viaL thenR
  rw [lst_mkS, List.any_filter]
theorem viaL_take (S : Mat) (L : List Nat) (k : Nat) (hk : k < L.length) (j : Nat) : viaL S (L.take (k + 1)) j = (viaL S (L.take k) j || S L[k] j) := by
  unfold viaL
  rw [List.take_succ_eq_append_getElem hk, List.any_append]; simp
theorem thTo_at (R S : Mat) (a : Nat) (q : Nat → Bool) : thTo R S a q a = q := by
  funext j; unfold thTo; rw [if_neg (by omega), if_pos rfl]
theorem thTo_step (R S : Mat) (a : Nat) (q q' : Nat → Bool) : rowSet (thTo R S a q) a q' = thTo R S a q' := by
  funext i j
  unfold rowSet thTo
  by_cases e : i = a
  · subst e; rw [if_pos rfl, if_neg (by omega), if_pos rfl]
  · rw [if_neg e]; simp [e]
theorem thTo_next (R S : Mat) (a : Nat) (q : Nat → Bool) (h : ∀ j, q j = thenR R S a j) : rowsA (thTo R S a q) = rowsA (thTo R S (a + 1) fun _ => false) := by
  apply rowsA_congr
  intro i j _ _
  unfold thTo
  by_cases e : i = a
  · subst e; rw [if_neg (by omega), if_pos rfl, if_pos (by omega), h]
  · by_cases h2 : i < a
    · rw [if_pos h2, if_pos (by omega)]
    · rw [if_neg h2, if_neg e, if_neg (by omega)]; simp
theorem thTo_start (R S : Mat) : rowsA noR = rowsA (thTo R S 0 fun _ => false) := rowsA_congr fun i j _ _ => by unfold thTo noR; simp
theorem thTo_end (R S : Mat) : rowsA (thTo R S 64 fun _ => false) = rowsA (thenR R S) := rowsA_congr fun i j hi _ => by unfold thTo; rw [if_pos hi]
theorem mkS_nil : mkS (fun _ => false) = 0 := mkS_false
set_option maxHeartbeats 2000000 in
theorem then_any (R S : Mat) (w : World) (ht : Tab w) :
    Calls Tryd.prog 43 #[.agg (rowsA R), .agg (rowsA S)] w fun e w' => e = .returned (.agg (rowsA (thenR R S))) ∧ Below w.heap.size w w' := by
  have hg := ht.pos
  have HT : Hid (∀ wx, Below w.heap.size w wx → Tab wx) := Lib.hid (fun wx hb => ht.below hb hg)
  clear ht
  have h0 : RelAt (w.alloc (.cells (rowsA R) 27)) w.heap.size 27 R := RelAt.new w _ R
  go_enter Tryd.func43, Tryd.ntmps43
  go_wp2_with (with_reducible refine wpList_load_rel (((h0.alloc _).alloc _).alloc _) rfl _ rfl rfl ?_)
  go_loopw [11] (fun i wr => ∃ a : Nat, a ≤ 64 ∧ i = .int .i64 a ∧ RelAt wr (w.heap.size + 3) 27 (thTo R S a fun _ => false) ∧ RelAt wr (w.heap.size + 2) 27 noR ∧ RelAt wr (w.heap.size + 1) 27 S ∧ Below w.heap.size w wr)
    (fun i _ => 64 - (intOf i).toNat)
  case atStart =>
    refine ⟨0, by omega, rfl, ?_, ?_, ?_, ?_⟩
    · exact RelAt.made _ _ _ (by simp) (by rw [← thTo_start, rowsA_none]; rfl)
    · exact (RelAt.made _ _ noR (by simp) (by rw [rowsA_none]; rfl)).alloc _
    · exact ((RelAt.made _ _ S (by simp) rfl).alloc _).alloc _
    · exact ((((Below.refl w.heap.size w).alloc (Nat.le_refl _) _).alloc (by simp) _).alloc (by simp; omega) _).alloc (by simp; omega) _
  case round =>
    obtain ⟨a, ha, rfl, h3, h2, h1, hb⟩ := hrel
    by_cases hlt : a < 64
    · have hidx := fun wx => run_index_rel R a hlt wx
      have hda : decide ((a : Int) < 64) = true := by simp; omega
      have HNX := Lib.hid (thTo_next R S a (viaL S (lst (mkS (R a)))) (viaL_lst R S a))
      have hset := isSet_mkS (R a)
      have hlen := lstTo_len (mkS (R a)) 64
      have HL : Hid (∀ (k : Nat) (hk : k < (lst (mkS (R a))).length), (lst (mkS (R a)))[k] < 64) := Lib.hid (fun k hk => lst_lt hk)
      have hlen' : (lst (mkS (R a))).length ≤ 64 := hlen
      clear hlen
      generalize mkS (R a) = x at *
      have hal : (a : Int) < 64 := by omega
      go_wp2_with fail
      refine (list_any x wr hset (HT.out _ hb)).mono ?_
      rintro e w1 ⟨v, rfl, hown, hb1⟩
      have h3' := h3.below hb1 h3.lt
      have h2' := h2.below hb1 h2.lt
      have h1' := h1.below hb1 h1.lt
      have hbb := hb.trans (hb1.mono hb.size)
      have hD : w.heap.size + 3 < wr.heap.size := h3.lt
      clear hb1 hb h1 h2 h3 hset
      generalize wr.heap.size = D at *
      generalize lst x = L at *
      obtain ⟨ao, cap, rfl, hml⟩ := (Ints.of_nats hown).form
      rw [List.length_map] at *
      go_wp2_with fail
      go_loopw [18] (fun i wx => ∃ k : Nat, k ≤ L.length ∧ i = .int .i64 k ∧ RelAt wx (w.heap.size + 3) 27 (thTo R S a (viaL S (L.take k))) ∧ RelAt wx (w.heap.size + 2) 27 noR ∧ RelAt wx (w.heap.size + 1) 27 S ∧ Below w.heap.size w wx ∧ wx.ownsRow D 3 1 (.slice ao L.length cap) L.length (L.map fun i : Nat => Value.int .i64 (i : Int)))
        (fun i _ => L.length - (intOf i).toNat)
      case atStart => exact ⟨0, by omega, rfl, h3', h2', h1', hbb, hown⟩
      case round =>
        obtain ⟨k, hk, rfl, hx3, hx2, hx1, hxb, hxo⟩ := hrel
        by_cases hlk : k < L.length
        · obtain ⟨p, off, hao, hc⟩ := (Ints.of_nats hxo).at (k := k) (by simpa using hlk)
          cases hao
          rw [List.getElem_map] at hc
          have hbl := HL.out k hlk
          have hbi : (L[k] : Int) < 64 := by omega
          have HQ := Lib.hid (funext (viaL_take S L k hlk))
          generalize L[k] = b at *
          have hcb := hx1.cell hbl
          have hca := hx3.cell hlt
          rw [thTo_at] at hca
          have hf := hx3.free a
          have HO := u64_or (viaL S (L.take k)) (S b)
          have HN := Lib.hid (hx3.store a _ (fun j => viaL S (L.take k) j || S b j) rfl)
          have H2 := Lib.hid (fun v => hx2.other (k := ⟨w.heap.size + 3, a, none⟩) (by simp) v)
          have H1 := Lib.hid (fun v => hx1.other (k := ⟨w.heap.size + 3, a, none⟩) (by simp) v)
          have HB := Lib.hid (fun v => hxb.setCell (p := ⟨w.heap.size + 3, a, none⟩) (by simp) v)
          have HI := Lib.hid (fun v => ownsRow_setCell_below hxo (a := ⟨w.heap.size + 3, a, none⟩) hD v)
          have HStep := Lib.hid (thTo_step R S a (viaL S (L.take k)) (fun j => viaL S (L.take k) j || S b j))
          clear hx3 hx2 hx1 hxb hxo
          generalize mkS (fun j => viaL S (L.take k) j || S b j) = z at *
          generalize mkS (viaL S (L.take k)) = x1 at *
          generalize mkS (S b) = y1 at *
          change World.cell? _ ⟨p, off + k, none⟩ = some (.int .i64 (b : Int)) at hc
          go_wp2
          go_still_tail 8, (by kernel_rfl)
          go_wp2
          go_roundw
          case rel =>
            refine ⟨k + 1, by omega, by go_num, ?_, H2.out _, H1.out _, (HB.out _).drew, HI.out _⟩
            have h := HN.out
            rw [HStep.out, ← HQ.out] at h
            exact h
          case measure => simp [intOf]; omega
        · have hkL : k = L.length := by omega
          subst hkL
          have HX : Hid (RelAt _ (w.heap.size + 3) 27 (thTo R S (a + 1) fun _ => false)) := Lib.hid (by
            rw [List.take_length] at hx3
            unfold RelAt at *
            rw [← HNX.out]; exact hx3)
          clear hx3 hxo
          go_wp2
          go_roundw
          case rel => exact ⟨a + 1, by omega, by go_num, HX.out, hx2, hx1, hxb⟩
          case measure => simp [intOf]; omega
    · have ha64 : a = 64 := by omega
      subst ha64
      go_wp2_with (first
        | (with_reducible refine wpList_load_rel h3 rfl _ rfl rfl ?_)
        | (with_reducible refine wpList_store_rel h2 (thTo R S 64 fun _ => false) rfl _ _ rfl rfl rfl ?_))
      exact bodyPost_ret (results_rel rfl _ _ _ _ rfl (h2.setRow' (thTo_end R S))) rfl ⟨rfl, below_setRow hb (by omega) _⟩
end Go.Proofs.YtjfegknokombgaaDoor
