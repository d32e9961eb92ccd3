/- Walks: free and Sorted of relations. Conditions: a relation's array is the one of a table of yes and no; First's library table lies where it is laid. -/
import Derived.Test.YtjfegknokombgaaDoorRelE
namespace Go.Proofs.YtjfegknokombgaaDoor
set_option maxRecDepth 100000
open Go.RowKit

/-- The least of some numbers to which none of them stands; 64: there is none. -/
def subS (s t : Nat) : Nat := s ^^^ (s &&& t)
def freeS (R : Mat) (s : Nat) : Nat := fst (subS s (mkS fun j => viaL R (lst s) j))
theorem isSet_subS {s t : Nat} (hs : IsSet s) : IsSet (subS s t) := isSet_xor hs (isSet_and hs)
theorem testBit_subS (s t i : Nat) : (subS s t).testBit i = (s.testBit i && !t.testBit i) := by
  unfold subS
  rw [Nat.testBit_xor, Nat.testBit_and]
  cases s.testBit i <;> cases t.testBit i <;> rfl
theorem mkS_via (R : Mat) (L : List Nat) (k : Nat) (hk : k < L.length) : Go.bits .or .u64 ((mkS (fun j => viaL R (L.take k) j) : Nat) : Int) ((mkS (R L[k]) : Nat) : Int) = ((mkS (fun j => viaL R (L.take (k + 1)) j) : Nat) : Int) := by
  rw [u64_or]
  congr 2
  funext j
  rw [viaL_take R L k hk]
set_option maxHeartbeats 2000000 in
theorem free_any (R : Mat) (s : Nat) (w : World) (hs : IsSet s) (ht : Tab w) :
    Calls Tryd.prog 51 #[.agg (rowsA R), .int .u64 (s : Int)] w fun e w' => e = .returned (.int .i64 ((freeS R s : Nat) : Int)) ∧ Below w.heap.size w w' := by
  have hg := ht.pos
  have HT : Hid (∀ wx, Below w.heap.size w wx → Tab wx) := Lib.hid (fun wx hb => ht.below hb hg)
  clear ht
  have HB0 : Below w.heap.size w (w.alloc (.cells (rowsA R) 27)) := (Below.refl w.heap.size w).alloc (Nat.le_refl _) _
  have HR0 := RelAt.new w 27 R
  go_enter Tryd.func51, Tryd.ntmps51
  go_wp2_with fail
  refine (list_any s _ hs (HT.out _ HB0)).mono ?_
  rintro e w1 ⟨v, rfl, hown, hb1⟩
  have hlen := lstTo_len s 64
  have HL : Hid (∀ (k : Nat) (hk : k < (lst s).length), (lst s)[k] < 64) := Lib.hid (fun k hk => lst_lt hk)
  have hlen' : (lst s).length ≤ 64 := hlen
  have HEND : Hid (freeS R s = fst (subS s (mkS fun j => viaL R (lst s) j))) := Lib.hid rfl
  clear hlen
  have hI := Ints.of_nats hown
  have hr1 := HR0.below hb1 HR0.lt
  have hbb : Below w.heap.size w w1 := HB0.trans (hb1.mono (by simp))
  clear hown hb1 HB0 HR0
  generalize lst s = L at *
  obtain ⟨ao, cap, rfl, hml⟩ := hI.form
  rw [List.length_map] at *
  go_wp2_with fail
  go_loop [5, 11] (fun x i => ∃ k : Nat, k ≤ L.length ∧ i = .int .i64 k ∧ x = .int .u64 ((mkS (fun j => viaL R (L.take k) j) : Nat) : Int)) (fun _ i => L.length - (intOf i).toNat)
  case atStart => exact ⟨0, by omega, rfl, by have : mkS (fun j => viaL R (L.take 0) j) = 0 := mkS_false; rw [this]; rfl⟩
  case round =>
    obtain ⟨k, hk, rfl, rfl⟩ := hrel
    by_cases hlk : k < L.length
    · obtain ⟨p, off, hao, hc⟩ := hI.at (k := k) (by simpa using hlk)
      cases hao
      rw [List.getElem_map] at hc
      have hbl := HL.out k hlk
      have hbi : (L[k] : Int) < 64 := by omega
      have HQ := Lib.hid (mkS_via R L k hlk)
      have hcb := hr1.cell hbl
      generalize L[k] = b at *
      change World.cell? _ ⟨p, off + k, none⟩ = some (.int .i64 (b : Int)) at hc
      go_wp2
      go_round
      case rel => exact ⟨k + 1, by omega, by go_num, by rw [HQ.out]⟩
      case measure => simp [intOf]; omega
    · have hkL : k = L.length := by omega
      subst hkL
      have ht1 := Lib.hid (HT.out _ hbb)
      have HM : Hid (mkS (fun j => viaL R (L.take L.length) j) = mkS (fun j => viaL R L j)) := Lib.hid (by rw [List.take_length])
      have hset := isSet_mkS (fun j => viaL R (L.take L.length) j)
      have HN : Hid (Go.bits .andNot .u64 (s : Int) ((mkS (fun j => viaL R (L.take L.length) j) : Nat) : Int) = ((subS s (mkS (fun j => viaL R (L.take L.length) j)) : Nat) : Int)) := Lib.hid (bits_andNot_u64_nat s _ hs hset)
      have hn := HN.out
      generalize mkS (fun j => viaL R (L.take L.length) j) = q at *
      go_wp2_with (go_at_call 63; refine (first_any (subS s q) _ (isSet_subS hs) ht1.out).mono ?_; rintro e w' ⟨rfl, rfl⟩)
      go_ret
      exact ⟨ret_i (by rw [HEND.out, ← HM.out]), hbb⟩

/-- A set's numbers in a row, the least free one first, again and again; none: there is no such row. -/
def sortS (R : Mat) : Nat → Nat → Option (List Nat)
  | 0, _ => some []
  | f + 1, c => if c = 0 then some [] else if freeS R c = 64 then none else (sortS R f (woS c (freeS R c : Int))).map (freeS R c :: ·)
theorem freeS_mem {R : Mat} {c : Nat} (h : freeS R c ≠ 64) : freeS R c ∈ lst c := by
  unfold freeS at *
  have hne : lst (subS c (mkS fun j => viaL R (lst c) j)) ≠ [] := by
    intro e; apply h; unfold fst; rw [e]; rfl
  have hm := mem_lst.1 (fst_mem hne)
  rw [testBit_subS, Bool.and_eq_true] at hm
  exact mem_lst.2 ⟨hm.1, hm.2.1⟩
theorem lst_wo_any {c n : Nat} (hn : n ∈ lst c) : (lst (woS c (n : Int))).length + 1 = (lst c).length := by
  have hlt := (mem_lst.1 hn).1
  rw [lst_woS c n hlt]
  have h2 := lst_nodup c
  generalize lst c = L at *
  induction L with
  | nil => cases hn
  | cons a L ih =>
    rw [List.nodup_cons] at h2
    rw [List.filter_cons]
    by_cases e : a = n
    · subst e
      have : L.filter (fun i => i != a) = L := List.filter_eq_self.2 (fun b hb => by simp; rintro rfl; exact h2.1 hb)
      simp [this]
    · have hn' : n ∈ L := (List.mem_cons.1 hn).resolve_left (fun h => e h.symm)
      have := ih hn' h2.2
      have e' : (a != n) = true := by simp [e]
      rw [if_pos e', List.length_cons, List.length_cons]; omega

def SortRes (w : World) (v : Value) (b : Bool) : Option (List Nat) → Prop
  | none => v = .slice none 0 0 ∧ b = false
  | some L => b = true ∧ Ints w v (L.map Int.ofNat)
/-- What is left to sort, behind what stands in the row. -/
def SortAt (R : Mat) (s c f : Nat) (acc : List Nat) : Prop := sortS R 65 s = (sortS R (f + 1) c).map (acc ++ ·) ∧ (lst c).length ≤ f ∧ acc.length + (lst c).length ≤ 64
theorem sortAt_zero {R : Mat} {s f : Nat} {acc : List Nat} (h : SortAt R s 0 f acc) : sortS R 65 s = some acc := by
  rw [h.1]; simp [sortS]
theorem sortAt_none {R : Mat} {s c f : Nat} {acc : List Nat} (h : SortAt R s c f acc) (h0 : 0 < c) (hf : freeS R c = 64) : sortS R 65 s = none := by
  rw [h.1]
  have : ¬ c = 0 := by omega
  simp [sortS, this, hf]
theorem sortAt_next {R : Mat} {s c f : Nat} {acc : List Nat} (h : SortAt R s c f acc) (h0 : 0 < c) (hf : freeS R c ≠ 64) : ∃ f', SortAt R s (woS c (freeS R c : Int)) f' (acc ++ [freeS R c]) := by
  have hm := freeS_mem hf
  have hl := lst_wo_any hm
  obtain ⟨h1, h2, h3⟩ := h
  obtain ⟨f', rfl⟩ : ∃ f', f = f' + 1 := ⟨f - 1, by omega⟩
  refine ⟨f', ?_, by omega, by simp; omega⟩
  rw [h1]
  have : ¬ c = 0 := by omega
  rw [show sortS R (f' + 1 + 1) c = (sortS R (f' + 1) (woS c (freeS R c : Int))).map (freeS R c :: ·) from by rw [sortS]; simp [this, hf]]
  rw [Option.map_map]
  congr 1
  funext l
  simp
set_option maxHeartbeats 2000000 in
theorem sorted_any (R : Mat) (s : Nat) (w : World) (hs : IsSet s) (ht : Tab w) :
    Calls Tryd.prog 15 #[.agg (rowsA R), .int .u64 (s : Int)] w fun e w' => ∃ v b, e = .returned (.tuple #[v, .bool b]) ∧ SortRes w' v b (sortS R 65 s) ∧ Below w.heap.size w w' := by
  obtain ⟨i0, hi, hz0, hz1, hz2⟩ := info_parts infoInt
  have hg := ht.pos
  have HT : Hid (∀ wx, Below w.heap.size w wx → Tab wx) := Lib.hid (fun wx hb => ht.below hb hg)
  clear ht
  have HB0 : Below w.heap.size w (w.alloc (.cells (rowsA R) 27)) := (Below.refl w.heap.size w).alloc (Nat.le_refl _) _
  have HR0 := RelAt.new w 27 R
  have hle : (lst s).length ≤ 64 := lstTo_len s 64
  have HST : Hid (SortAt R s s 64 []) := Lib.hid ⟨by simp, hle, by simpa using hle⟩
  go_enter Tryd.func15, Tryd.ntmps15
  go_wp2_with (first
    | (go_at_call 50; refine (count_any _ _ hs).mono ?_; rintro e w' ⟨rfl, rfl⟩)
    | (at_make; refine wpList_make_own _ rfl _ _ 30 rfl (w.heap.size + 1) 3 i0 (.int .i64 0) 1 Tryd.underlying30 hi hz0 hz1 _ _ _ (lst s).length rfl rfl rfl ?b1 ?b2 ?b3 ?_))
  case b1 => rw [hz2]; omega
  case b2 => unfold maxLen; omega
  case b3 => simp
  intro w1 hown0 hg0
  have hb0 : Below w.heap.size w w1 := HB0.grown hg0 (by simp) (by simp)
  have hr0 : RelAt w1 w.heap.size 27 R := HR0.below ((Below.refl (w.heap.size + 1) _).grown hg0 (by simp) (by simp)) (by omega)
  clear hg0 HR0 HB0
  go_wp2_with fail
  go_loopw [6, 7] (fun x v wr => ∃ (c f : Nat) (acc : List Nat), IsSet c ∧ v = .int .u64 (c : Int) ∧ SortAt R s c f acc ∧ wr.ownsRow (w.heap.size + 1) 3 1 x acc.length (acc.map fun i : Nat => Value.int .i64 (i : Int)) ∧ RelAt wr w.heap.size 27 R ∧ Below w.heap.size w wr)
    (fun _ v _ => (lst (intOf v).toNat).length)
  case atStart => exact ⟨s, 64, [], hs, rfl, HST.out, hown0, hr0, hb0⟩
  case round =>
    obtain ⟨c, f, acc, hc, rfl, hst, hown, hr, hb⟩ := hrel
    have HS := Lib.hid hst
    have hal : acc.length ≤ 64 := by have := hst.2.2; omega
    clear hst
    have hsz := hb.size
    rcases Nat.eq_zero_or_pos c with h0 | h0
    · subst h0
      have HF := Lib.hid (sortAt_zero HS.out)
      go_wp2
      go_ret2
      exact ⟨_, true, rfl, by rw [HF.out]; exact ⟨rfl, Ints.of_nats hown⟩, hb⟩
    · have CF := Lib.hid (free_any R c wr hc (HT.out _ hb))
      go_wp2_with (with_reducible refine wpList_load_rel hr rfl _ rfl rfl ?_)
      refine (CF.out).mono ?_
      rintro e w2 ⟨rfl, hb2⟩
      have hr2 := hr.below hb2 hr.lt
      have hbb := hb.trans (hb2.mono hb.size)
      have hown2 := owns_below hown hb2
      have hsz2 := hbb.size
      clear hown hr hb hb2 CF
      by_cases hf : freeS R c = 64
      · have HF := Lib.hid (sortAt_none HS.out h0 hf)
        rw [hf]
        clear hf
        go_wp2_with fail
        go_ret2
        exact ⟨_, false, rfl, by rw [HF.out]; exact ⟨rfl, rfl⟩, hbb⟩
      · have hlt : freeS R c < 64 := (mem_lst.1 (freeS_mem hf)).1
        have hwo := isSet_woS (n := (freeS R c : Int)) hc
        have HN := Lib.hid (sortAt_next HS.out h0 hf)
        have HD : Hid ((lst (woS c (freeS R c : Int))).length + 1 = (lst c).length) := Lib.hid (lst_wo_any (freeS_mem hf))
        have hne : ((freeS R c : Int) == 64) = false := by rw [beq_eq_false_iff_ne]; omega
        clear hf
        generalize freeS R c = n at *
        go_wp2_with (at_builtin; refine wpList_append_own _ rfl _ _ 30 rfl (w.heap.size + 1) 3 i0 (.int .i64 0) 1 8 Tryd.underlying30 hi hz0 hz1 hz2 rfl (by decide) _ _ _ rfl (hown2.alloc _) ⟨_, 0, none⟩ 1 1 [.int .i64 (n : Int)] rfl rfl ?c1 ?c2 ?c3 ?c4 ?c5 ?_)
        case c1 => exact cell_one_new _ _ _
        case c2 => intro u hu; simp at hu; subst hu; rfl
        case c3 => unfold maxLen; omega
        case c4 => omega
        case c5 => have := hr2.lt; simp; omega
        intro v3 w3 hown3 hg3 _
        have hb3 : Below (w.heap.size + 1) w2 w3 := below_app (Below.refl _ _) hr2.lt hown2 hg3
        have hr3 := hr2.below hb3 (by omega)
        have hb4 := hbb.trans (hb3.mono (by omega))
        clear hown2 hg3 hb3 hr2 hbb
        go_wp2_with (go_at_call 52; refine (wo_any c _ _ hc).mono ?_; rintro e w' ⟨rfl, rfl⟩)
        go_roundw
        case rel =>
          obtain ⟨f', hst'⟩ := HN.out
          exact ⟨woS c (n : Int), f', acc ++ [n], hwo, rfl, hst', by simpa using hown3, hr3, hb4⟩
        case measure => have := HD.out; simp [intOf]; omega
end Go.Proofs.YtjfegknokombgaaDoor
