/- The walk of the statement on a set's parts: of any set and any number it answers true. Condition: First's library table lies where it is laid. -/
import Derived.Test.YtjlhclmplmkhaaaDoorSetG
namespace Go.Proofs.YtjlhclmplmkhaaaDoor
open Go.RowKit

theorem hasL_lst {s : Nat} (x : Int) : hasL ((lst s).map Int.ofNat) x = hasB s x := by
  rw [Bool.eq_iff_iff]
  unfold hasL hasB
  rw [List.any_eq_true]
  constructor
  · rintro ⟨y, hy, he⟩
    obtain ⟨i, hi, rfl⟩ := List.mem_map.1 hy
    obtain ⟨h1, h2⟩ := mem_lst.1 hi
    have : x = (i : Int) := (beq_iff_eq.1 he).symm
    subst this
    have h3 : 0 ≤ (i : Int) ∧ (i : Int) < 64 := by omega
    simp [h3, h2]
  · intro h
    simp only [Bool.and_eq_true, decide_eq_true_eq] at h
    obtain ⟨⟨h0, h1⟩, h2⟩ := h
    exact ⟨x, List.mem_map.2 ⟨x.toNat, mem_lst.2 ⟨by omega, h2⟩, by simp; omega⟩, by simp⟩
theorem ofL_cons (s : Nat) (n : Int) (hs : IsSet s) : ofL (n :: (lst s).map Int.ofNat) = withS s n := by
  apply set_ext (isSet_ofL _) (isSet_withS hs)
  intro i hi
  rw [testBit_ofL, testBit_withS]
  have e : hasL (n :: (lst s).map Int.ofNat) (i : Int) = ((n == (i : Int)) || hasL ((lst s).map Int.ofNat) (i : Int)) := by unfold hasL; rw [List.any_cons]
  rw [e, hasL_lst]
  unfold hasB
  have h3 : 0 ≤ (i : Int) ∧ (i : Int) < 64 := by omega
  simp only [hi, decide_true, Bool.true_and, h3, and_self, Int.toNat_natCast, Bool.or_comm]
  congr 1
  rw [Bool.eq_iff_iff]; simp; omega
theorem ofL_filter (s : Nat) (n : Int) (hs : IsSet s) : ofL (((lst s).map Int.ofNat).filter fun x => x != n) = woS s n := by
  apply set_ext (isSet_ofL _) (isSet_woS hs)
  intro i hi
  rw [testBit_ofL, testBit_woS]
  have e : hasL (((lst s).map Int.ofNat).filter fun x => x != n) (i : Int) = (((i : Int) != n) && hasL ((lst s).map Int.ofNat) (i : Int)) := by
    rw [Bool.eq_iff_iff]
    unfold hasL
    simp only [List.any_eq_true, List.mem_filter, Bool.and_eq_true, beq_iff_eq]
    constructor
    · rintro ⟨x, ⟨h1, h2⟩, rfl⟩; exact ⟨h2, _, h1, rfl⟩
    · rintro ⟨h2, x, h1, rfl⟩; exact ⟨_, ⟨h1, h2⟩, rfl⟩
  rw [e, hasL_lst]
  unfold hasB
  have h3 : 0 ≤ (i : Int) ∧ (i : Int) < 64 := by omega
  simp only [hi, decide_true, Bool.true_and, h3, and_self, Int.toNat_natCast]
  rw [Bool.and_comm]
  congr 1
  rw [Bool.eq_iff_iff]; simp; omega
/-- The first k numbers but one. -/
def butN (l : List Int) (n : Int) (k : Nat) : List Int := (l.take k).filter fun x => x != n
theorem butN_hit (l : List Int) (n : Int) (k : Nat) (hk : k < l.length) (h : l[k] ≠ n) : butN l n (k + 1) = butN l n k ++ [l[k]] := by
  unfold butN
  rw [List.take_succ_eq_append_getElem hk, List.filter_append]; simp [h]
theorem butN_miss (l : List Int) (n : Int) (k : Nat) (hk : k < l.length) (h : l[k] = n) : butN l n (k + 1) = butN l n k := by
  unfold butN
  rw [List.take_succ_eq_append_getElem hk, List.filter_append]; simp [h]
theorem butN_len (l : List Int) (n : Int) (k : Nat) : (butN l n k).length ≤ l.length :=
  Nat.le_trans (List.length_filter_le _ _) (by simp; omega)
theorem lstI_len (s : Nat) : ((lst s).map Int.ofNat).length ≤ 64 := by rw [List.length_map]; exact lstTo_len s 64

/-- What stands behind the numbers' first part: the two lists, and both sides' sets of them. -/
theorem parts_walk (s : Nat) (n : Int) (w : World) (hs : IsSet s) (ht : Tab w) :
    Calls Tryd.prog 3 #[.int .u64 (s : Int), .int .i64 n] w fun e w' => e = .returned (.bool true) ∧ Below w.heap.size w w' := by
  obtain ⟨i0, hi, hz0, hz1, hz2⟩ := info_parts infoInt
  have hg := ht.pos
  have HT : Hid (∀ wx, Below w.heap.size w wx → Tab wx) := Lib.hid (fun wx hb => ht.below hb hg)
  clear ht
  go_enter Tryd.func3, Tryd.ntmps3
  go_wp2_with fail
  refine (speaks1_any w (HT.out _ (Below.refl _ _))).mono ?_
  rintro e w1 ⟨rfl, hb1⟩
  go_wp2_with fail
  refine (rlist_any s w1 hs).mono ?_
  rintro e w2 ⟨v, rfl, hown, hb⟩
  have hb2 : Below w.heap.size w w2 := hb1.trans (hb.mono hb1.size)
  have hI := Ints.of_nats hown
  clear hown hb hb1
  obtain ⟨L, hL⟩ : ∃ L, L = (lst s).map Int.ofNat := ⟨_, rfl⟩
  have HL := Lib.hid hL
  rw [← hL] at hI
  clear hL
  have hlen : L.length ≤ 64 := by rw [HL.out]; exact lstI_len s
  have hcnt : ((lst s).length : Int) = (L.length : Int) := by rw [HL.out, List.length_map]
  have CC : Hid (∀ wx, Calls Tryd.prog 15 #[.int .u64 (s : Int)] wx fun e w' => e = .returned (.int .i64 (L.length : Int)) ∧ wx = w') :=
    Lib.hid (fun wx => by rw [← hcnt]; exact count_any s wx hs)
  clear hcnt
  obtain ⟨ao, cap, rfl, _⟩ := hI.form
  have key : ∃ z : Int, Hid (z = ((fst s : Nat) : Int)) ∧ ((L.length ≤ 0 ∧ z = 64) ∨ (0 < L.length ∧ ∃ b off, ao = some ⟨b, off, none⟩ ∧ w2.cell? ⟨b, off, none⟩ = some (.int .i64 z))) := by
    rcases Nat.eq_zero_or_pos L.length with h | h
    · refine ⟨64, Lib.hid ?_, .inl ⟨by omega, rfl⟩⟩
      have hl := HL.out
      rw [List.eq_nil_of_length_eq_zero h] at hl
      have : lst s = [] := List.map_eq_nil_iff.1 hl.symm
      unfold fst; rw [this]; rfl
    · obtain ⟨b, off, rfl, hc⟩ := hI.at (k := 0) h
      refine ⟨L[0], Lib.hid ?_, .inr ⟨h, b, off, rfl, by simpa using hc⟩⟩
      have hl := HL.out
      have hne : lst s ≠ [] := by intro e; rw [e] at hl; subst hl; simp at h
      rw [lst_cons hne] at hl
      subst hl
      rfl
  obtain ⟨z, HZ, hkey⟩ := key
  have CF : Hid (∀ wx, Tab wx → Calls Tryd.prog 16 #[.int .u64 (s : Int)] wx fun e w' => e = .returned (.int .i64 z) ∧ wx = w') :=
    Lib.hid (fun wx ht => by rw [HZ.out]; exact first_any s wx hs ht)
  clear HZ
  rcases hkey with ⟨hl0, rfl⟩ | ⟨hl0, b, off, rfl, hcell⟩
  all_goals
    go_wp2_with (first
      | (go_at_call 13; refine (has_any s n _ hs).mono ?_; rintro e w' ⟨rfl, rfl⟩)
      | (go_at_call 14; refine (rbit_any s n _ hs).mono ?_; rintro e w' ⟨rfl, rfl⟩)
      | (go_at_call 15; refine (CC.out _).mono ?_; rintro e w' ⟨rfl, rfl⟩)
      | (go_at_call 16; refine (CF.out _ (HT.out _ hb2)).mono ?_; rintro e w' ⟨rfl, rfl⟩))
    refine (list_any s w2 hs (HT.out _ hb2)).mono ?_
    rintro e w3 ⟨v2, rfl, hown, hb⟩
    have hb3 : Below w.heap.size w w3 := hb2.trans (hb.mono hb2.size)
    have hI3 := hI.below hb
    have hI2 : Ints w3 v2 L := by rw [HL.out]; exact Ints.of_nats hown
    clear hown hb
    have CS : Hid (∀ va vb, Ints w3 va L → Ints w3 vb L → Calls Tryd.prog 17 #[va, vb] w3 fun e w' => e = .returned (.bool true) ∧ Below w3.heap.size w3 w') :=
      Lib.hid (fun va vb h1 h2 => by have h := same_any va vb L L w3 h1 h2; rwa [show sameL L L = true from by simp [sameL]] at h)
    go_wp2_with fail
    refine (CS.out _ _ hI2 hI3).mono ?_
    rintro e w4 ⟨rfl, hb⟩
    have hb4 : Below w.heap.size w w4 := hb3.trans (hb.mono hb3.size)
    have hI4 := hI3.below hb
    clear hb hI3 hI2 CS CF CC
    have hsz := hb4.size
    go_wp2_with (at_builtin; refine wpList_append_row rfl _ _ 25 rfl w.heap.size 3 i0 (.int .i64 0) 1 8 Tryd.underlying25 hi hz0 hz1 hz2 rfl (by decide) _ 1 [.int .i64 n] rfl (World.ownsRow_lit _ _ _ hsz (by decide) rfl) _ L.length _ rfl (hI4.below ((Below.refl _ _).alloc (Nat.le_refl _) _)) ?c1 ?c2 ?c3 ?c4 ?_)
    case c1 => exact ints_oneCell _ _
    case c2 => unfold maxLen; omega
    case c3 => omega
    case c4 => simp; omega
    intro v5 w5 hown5 hg5
    have hb45 : Below w4.heap.size w4 w5 := ((Below.refl w4.heap.size w4).alloc (Nat.le_refl _) _).grown hg5 (by simp) (by intro k hk; simp [Value.ownBlock] at hk; omega)
    have hb5 := hb4.trans (hb45.mono hsz)
    have hI5 := hI4.below hb45
    have hW5 : Ints w5 v5 (n :: L) := Ints.of_owns (n := 1 + L.length) (by simpa using hown5)
    clear hown5 hg5 hb45 hI4 hb4 hsz hl0
    have hsz5 := hb5.size
    have HW := Lib.hid hW5
    clear hW5
    go_wp2_with fail
    go_loopw [9, 57] (fun v i wr => ∃ k : Nat, k ≤ L.length ∧ i = .int .i64 k ∧ wr.ownsRow w5.heap.size 3 1 v (butN L n k).length ((butN L n k).map (Value.int .i64)) ∧ Below w5.heap.size w5 wr)
      (fun _ i _ => L.length - (intOf i).toNat)
    case atStart => exact ⟨0, Nat.zero_le _, rfl, World.ownsRow_lit _ _ _ (Nat.le_refl _) (by simp) (by simp), (Below.refl _ _).alloc (Nat.le_refl _) _⟩
    case round =>
      obtain ⟨k, hk, rfl, hownr, hbr⟩ := hrel
      have hszr := hbr.size
      have hbl := butN_len L n k
      by_cases hlt : k < L.length
      · obtain ⟨bk, ok, hak, hck⟩ := (hI5.below hbr).at hlt
        have HH := Lib.hid (butN_hit L n k hlt)
        have HM := Lib.hid (butN_miss L n k hlt)
        try (exfalso; omega)
        all_goals
          cases hak
          generalize L[k] = x at *
          by_cases hx : x = n
          · have hx' : (x == n) = true := by simpa using hx
            have HM' := Lib.hid (HM.out hx)
            clear hx HH HM
            go_wp2_with fail
            go_roundw
            case rel => exact ⟨k + 1, by omega, by go_num, by rw [HM'.out]; exact hownr, hbr⟩
            case measure => simp [intOf]; omega
          · have hx' : (x == n) = false := by simpa using hx
            have HM' := Lib.hid (HH.out hx)
            clear hx HH HM
            go_wp2_with (at_builtin; refine wpList_append_own _ rfl _ _ 25 rfl w5.heap.size 3 i0 (.int .i64 0) 1 8 Tryd.underlying25 hi hz0 hz1 hz2 rfl (by decide) _ _ _ rfl (hownr.alloc _) ⟨_, 0, none⟩ 1 1 [.int .i64 x] rfl rfl ?d1 ?d2 ?d3 ?d4 ?d5 ?_)
            case d1 => exact cell_one_new _ _ _
            case d2 => intro u hu; simp at hu; subst hu; rfl
            case d3 => unfold maxLen; omega
            case d4 => omega
            case d5 => simp; omega
            intro v6 w6 hown6 hg6 _
            have hb6 := below_app hbr (Nat.le_refl _) hownr hg6
            clear hownr hbr hg6
            go_wp2_with fail
            go_roundw
            case rel => exact ⟨k + 1, by omega, by go_num, by rw [HM'.out]; simpa using hown6, hb6⟩
            case measure => simp [intOf]; omega
      · have hkL : Hid (butN L n k = L.filter fun x => x != n) := Lib.hid (by unfold butN; rw [List.take_of_length_le (by omega)])
        have hI6 : Hid (Ints wr u9 (L.filter fun x => x != n)) := Lib.hid (by rw [← hkL.out]; exact Ints.of_owns hownr)
        have HW6 := Lib.hid (HW.out.below hbr)
        have hb6 := hb5.trans (hbr.mono hsz5)
        have E1 : Hid (ofL (n :: L) = withS s n) := Lib.hid (by rw [HL.out]; exact ofL_cons s n hs)
        have E2 : Hid (ofL (L.filter fun x => x != n) = woS s n) := Lib.hid (by rw [HL.out]; exact ofL_filter s n hs)
        have C1 : Hid (Calls Tryd.prog 20 #[v5] wr fun e w' => e = .returned (.int .u64 ((withS s n : Nat) : Int)) ∧ wr = w') := Lib.hid (by have h := rof_any v5 _ wr HW6.out; rwa [E1.out] at h)
        have C2 : Hid (Calls Tryd.prog 20 #[u9] wr fun e w' => e = .returned (.int .u64 ((woS s n : Nat) : Int)) ∧ wr = w') := Lib.hid (by have h := rof_any u9 _ wr hI6.out; rwa [E2.out] at h)
        clear hownr hbr hbl hkL hI6 HW6 E1 E2
        go_wp2_with (go_at_call 19; refine (with_any s n _ hs).mono ?_; rintro e w' ⟨rfl, rfl⟩)
        refine (C1.out).mono ?_
        rintro e w' ⟨rfl, rfl⟩
        go_wp2_with (go_at_call 21; refine (wo_any s n _ hs).mono ?_; rintro e w' ⟨rfl, rfl⟩)
        refine (C2.out).mono ?_
        rintro e w' ⟨rfl, rfl⟩
        go_wp2_with fail
        go_ret
        exact ⟨rfl, hb6⟩
end Go.Proofs.YtjlhclmplmkhaaaDoor
