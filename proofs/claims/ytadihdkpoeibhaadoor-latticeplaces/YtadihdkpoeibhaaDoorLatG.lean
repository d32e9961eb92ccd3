/- The walk of the law on positions and their words. Conditions: the table of the levels lies where it is laid; the bits are a number below 65536. -/
import Derived.Test.YtadihdkpoeibhaaDoorLatE
import Derived.Deep.AppendLies
namespace Go.Proofs.YtadihdkpoeibhaaDoor
set_option maxRecDepth 100000
open Go.RowKit

/-- Those of some that imply no other one. -/
def wkR (l m : List Int) : List Int := m.filter fun x => l.all fun y => decide (y = x) || !impB x y
theorem wkR_take {l : List Int} {k : Nat} (hk : k < l.length) : wkR l (l.take (k + 1)) = wkR l (l.take k) ++ (if (l.all fun y => decide (y = l[k]) || !impB l[k] y) = true then [l[k]] else []) := by
  unfold wkR
  rw [List.take_succ_eq_append_getElem hk, List.filter_append]
  congr 1
  cases h : (l.all fun y => decide (y = l[k]) || !impB l[k] y) <;> simp [h]
theorem wkR_len (l : List Int) (k : Nat) : (wkR l (l.take k)).length ≤ k := by
  unfold wkR
  have := List.length_filter_le (fun x => l.all fun y => decide (y = x) || !impB x y) (l.take k)
  rw [List.length_take] at this; omega
/-- Those that are not in a row. -/
def nrB (r : Nat → Bool) : Nat → Bool := fun i => !r i
def wkI (r : Nat → Bool) : List Int := (wkTo r 12).map Int.ofNat
theorem wk_all (r : Nat → Bool) (b : Nat) : ((lvI (nrB r)).all fun y => decide (y = (b : Int)) || !impB (b : Int) y) = !byd r (b : Int) := by
  rw [Bool.eq_iff_iff, List.all_eq_true, Bool.not_eq_true']
  constructor
  · intro h
    unfold byd bydTo
    rw [List.any_eq_false]
    intro a ha
    have ha := List.mem_range.1 ha
    cases hr : r a with
    | true => simp
    | false =>
      have := h (a : Int) (mem_lvI.2 ⟨a, ha, by unfold nrB; rw [hr]; rfl, rfl⟩)
      simp only [Bool.or_eq_true, decide_eq_true_eq, Bool.not_eq_true'] at this
      rcases this with e | e
      · simp [e]
      · simp [e]
  · intro h y hy
    obtain ⟨a, ha, hr, rfl⟩ := mem_lvI.1 hy
    unfold byd bydTo at h
    rw [List.any_eq_false] at h
    have := h a (List.mem_range.2 ha)
    unfold nrB at hr
    rw [hr, Bool.true_and] at this
    by_cases e : (b : Int) = (a : Int)
    · simp [e]
    · simp only [ne_eq, e, not_false_eq_true, decide_true, Bool.true_and, Bool.not_eq_true] at this
      rw [this]; simp
theorem wk_ref (r : Nat → Bool) : wkR (lvI (nrB r)) (lvI (nrB r)) = wkI r := by
  unfold wkR
  conv => lhs; arg 2; unfold lvI lvTo
  unfold wkI wkTo
  rw [List.filter_map, List.filter_filter]
  congr 1
  refine List.filter_congr fun a _ => ?_
  show (((lvI (nrB r)).all fun y => decide (y = (a : Int)) || !impB (a : Int) y) && nrB r a) = _
  rw [wk_all, Bool.and_comm]; rfl
theorem wkI_len (r : Nat → Bool) : (wkI r).length ≤ 12 := by unfold wkI; rw [List.length_map]; exact wkTo_len r 12
theorem names_len {l : List Nat} (h : ∀ a ∈ l, a < 12) (k : Nat) : (spW (nmsW (l.take k))).length ≤ 1001 * l.length := by
  have h1 := spW_len (nmsW (l.take k)) (names_size fun a ha => h a (List.mem_of_mem_take ha))
  have h2 : (nmsW (l.take k)).length ≤ l.length := by unfold nmsW; rw [List.length_map, List.length_take]; omega
  have := Nat.mul_le_mul_left 1001 h2
  omega
theorem sp_more (l : List Nat) (k : Nat) (hk : k < l.length) : (⟨(spW (nmsW (l.take k))).toArray⟩ : ByteArray) ++ ((⟨#[32]⟩ : ByteArray) ++ nameN (l[k] : Int)) = ⟨(spW (nmsW (l.take (k + 1)))).toArray⟩ := by
  rw [nmsW_succ l k hk]
  unfold spW
  rw [List.flatMap_append]
  apply byteArray_ext
  simp
theorem own_len {w : World} {b e s n : Nat} {v : Value} {xs : List Value} (h : w.ownsRow b e s v n xs) : ∃ ao c, v = .slice ao n c := by
  rcases h.2 with ⟨rfl, rfl⟩ | ⟨g, cap, cur, rfl, _⟩
  · exact ⟨_, _, rfl⟩
  · exact ⟨_, _, rfl⟩
/-- What stands behind the first word. -/
def wdB (l : List Nat) : ByteArray := ⟨(spW (if l = [] then [⟨#[45]⟩] else nmsW l)).toArray⟩
theorem pos_cat (l m : List Nat) : ((((⟨#[115, 116, 114, 111, 110, 103, 101, 115, 116]⟩ : ByteArray) ++ wdB l) ++ (⟨#[10, 98, 101, 121, 111, 110, 100]⟩ : ByteArray)) ++ wdB m) ++ (⟨#[10]⟩ : ByteArray) = posB l m := by
  unfold posB lnB lnL wdB
  apply byteArray_ext
  simp
theorem wdB_none : wdB [] = ⟨#[32, 45]⟩ := rfl
theorem wdB_some {l : List Nat} (h : l ≠ []) : wdB l = ⟨(spW (nmsW l)).toArray⟩ := by unfold wdB; rw [if_neg h]
theorem wdB_size {l : List Nat} (h : ∀ a ∈ l, a < 12) (hn : l.length ≤ 12) : (wdB l).size ≤ 20000 := by
  unfold wdB
  split
  · decide
  · have h1 := spW_len (nmsW l) (names_size h)
    have h2 : (nmsW l).length = l.length := by unfold nmsW; simp
    show (spW (nmsW l)).toArray.size ≤ _
    simp; omega
theorem sp_ne {l : List Nat} (h : l ≠ []) : ((⟨(spW (nmsW l)).toArray⟩ : ByteArray).toList == (⟨#[]⟩ : ByteArray).toList) = false := by
  cases l with
  | nil => exact absurd rfl h
  | cons a t =>
    rw [beq_eq_false_iff_ne]
    intro e
    simp [spW, nmsW] at e
theorem sp_nes {S : ByteArray} (h : (S.toList == (⟨#[]⟩ : ByteArray).toList) = false) : (S.toList == ([] : List UInt8)) = false ∧ S.toList.isEmpty = false ∧ ¬ S.toList = [] := by
  have h2 : ¬ S.toList = [] := by
    rw [beq_eq_false_iff_ne] at h
    intro e; apply h; rw [e]; simp
  refine ⟨by rw [beq_eq_false_iff_ne]; exact h2, ?_, h2⟩
  cases hs : S.toList with
  | nil => exact absurd hs h2
  | cons a t => rfl
set_option maxRecDepth 100000 in
set_option maxHeartbeats 8000000 in
theorem places19_walk (s : Nat) (w : World) (hs : s < 65536) (hK : Kinds w) : Calls Tryd.prog 3 #[.int .u16 s] w fun e w' => e = .returned (.bool true) ∧ Below w.heap.size w w' := by
  obtain ⟨i0, hi, hz0, hz1, hz2⟩ := info_parts infoIntL
  have HK := Lib.hid (fun wx (hb : Below w.heap.size w wx) => hK.below hb)
  have CS := Lib.hid (speaks19_any w hK)
  have CO := Lib.hid (fun wx => row19_any s wx hs)
  clear hK hs
  generalize bitB s = r at *
  have CL := Lib.hid (fun wx (hx : Below w.heap.size w wx) => latof_any r wx (HK.out _ hx))
  go_enter Tryd.func3, Tryd.ntmps3
  go_wp2_with fail
  refine (CS.out).mono ?_
  rintro e w1 ⟨rfl, hb1⟩
  clear CS
  go_wp2_with fail
  refine (CO.out _).mono ?_
  rintro e w2 ⟨rfl, hb⟩
  have hb2 := hb1.trans (hb.mono hb1.size)
  clear CO hb hb1
  have h0 : BRow (w2.alloc (.cells #[.bool false, .bool false, .bool false, .bool false, .bool false, .bool false, .bool false, .bool false, .bool false, .bool false, .bool false, .bool false] 25)) w2.heap.size noB := BRow.made w2 noB rfl rowB_none.symm
  have h1 := h0.setRow r
  go_wp2_with (first
    | (with_reducible refine wpList_store_rowB h0 r rfl _ _ rfl rfl rfl ?_)
    | (with_reducible refine wpList_load_rowB h1 rfl _ rfl rfl ?_))
  have hb3 : Below w2.heap.size w2 _ := below_setRow ((Below.refl w2.heap.size w2).alloc (Nat.le_refl _) (.cells #[.bool false, .bool false, .bool false, .bool false, .bool false, .bool false, .bool false, .bool false, .bool false, .bool false, .bool false, .bool false] 25)) (Nat.le_refl _) (rowB r)
  have hbw3 := hb2.trans (hb3.mono hb2.size)
  clear h0 hb3 hb2
  generalize (w2.alloc (.cells #[.bool false, .bool false, .bool false, .bool false, .bool false, .bool false, .bool false, .bool false, .bool false, .bool false, .bool false, .bool false] 25)).setRow w2.heap.size (rowB r) = w3 at *
  generalize w2.heap.size = g at *
  clear w2
  have hb33 := Below.refl w3.heap.size w3
  go_loopw [4, 5, 27] (fun v u i wr => ∃ k : Nat, k ≤ 12 ∧ i = .int .i64 k ∧ wr.ownsRow w3.heap.size 3 1 v (lvTo r k).length (natV (lvTo r k)) ∧ wr.ownsRow w3.heap.size 3 1 u (lvTo (nrB r) k).length (natV (lvTo (nrB r) k)) ∧ (∀ b, v.ownBlock = some b → u.ownBlock ≠ some b) ∧ Below w3.heap.size w3 wr) (fun _ _ i _ => 12 - (intOf i).toNat)
  case atStart => exact ⟨0, by omega, rfl, World.ownsRow_nil _ _ _ _, World.ownsRow_nil _ _ _ _, (fun b e => (by cases e)), hb33⟩
  case round =>
    clear hb33
    obtain ⟨k, hk, rfl, hown, hou, hne, hb⟩ := hrel
    have hll := lvTo_len r k
    have hlu := lvTo_len (nrB r) k
    by_cases hlt : k < 12
    · have hki : (k : Int) < 12 := by omega
      have hix := fun wx => run_index_rowB r k hlt wx
      have HL := Lib.hid (lvTo_succ r k)
      have HU := Lib.hid (lvTo_succ (nrB r) k)
      have hszr := hb.size
      have HNE := Lib.hid hne
      clear hne
      cases hrk : r k with
      | false =>
        have hru : nrB r k = true := by unfold nrB; rw [hrk]; rfl
        rw [hrk] at hix HL
        rw [hru] at HU
        have HM : Hid (lvTo r (k + 1) = lvTo r k) := Lib.hid (by rw [HL.out]; simp)
        have HMU : Hid (lvTo (nrB r) (k + 1) = lvTo (nrB r) k ++ [k]) := Lib.hid (by rw [HU.out]; simp)
        clear HL HU hrk hru
        go_wp2_with (at_builtin; refine wpList_append_lies _ rfl _ _ 27 rfl w3.heap.size 3 i0 (.int .i64 0) 1 8 Tryd.underlying27 hi hz0 hz1 hz2 rfl (by decide) _ _ _ rfl (hou.alloc _) ⟨_, 0, none⟩ 1 1 [.int .i64 (k : Int)] rfl rfl ?c1 ?c2 (by decide) ?c3 ?c4 ?c5 _ rfl ?_)
        case c1 => exact cell_one_new _ _ _
        case c2 => intro u hu; simp at hu; subst hu; rfl
        case c3 => unfold maxLen; omega
        case c4 => omega
        case c5 => simp; omega
        · intro g2 cap2 w7 hown' hgrow hg2 _
          have hb' := below_app0 hb (Nat.le_refl _) hou (Nat.le_refl _) hgrow
          have hv7 := (hown.alloc (.cells #[.int .i64 (k : Int)] 3)).kept hgrow (by
            cases e : u4.ownBlock with
            | none => exact .inl rfl
            | some b => right; intro e2; exact HNE.out b e e2.symm)
          have HN7 : Hid (∀ b, u4.ownBlock = some b → (Value.slice (some ⟨g2, 0, none⟩) ((lvTo (nrB r) k).length + 1) cap2).ownBlock ≠ some b) := Lib.hid (fun b e e2 => by
            have hlt4 := (hown.lt b e).2
            simp only [Value.ownBlock, Option.some.injEq] at e2
            rcases hg2 with e3 | e3
            · exact HNE.out b e (by rw [e3, e2])
            · omega)
          clear hown hou hb hgrow hg2 HNE
          go_wp2_with fail
          go_roundw
          case rel =>
            refine ⟨k + 1, by omega, by go_num, by rw [HM.out]; exact hv7, ?_, HN7.out, hb'⟩
            rw [HMU.out, natV_snoc, List.length_append]
            exact hown'
          case measure => simp [intOf]; omega
      | true =>
        have hru : nrB r k = false := by unfold nrB; rw [hrk]; rfl
        rw [hrk] at hix HL
        rw [hru] at HU
        have HM : Hid (lvTo r (k + 1) = lvTo r k ++ [k]) := Lib.hid (by rw [HL.out]; simp)
        have HMU : Hid (lvTo (nrB r) (k + 1) = lvTo (nrB r) k) := Lib.hid (by rw [HU.out]; simp)
        clear HL HU hrk hru
        go_wp2_with (at_builtin; refine wpList_append_lies _ rfl _ _ 27 rfl w3.heap.size 3 i0 (.int .i64 0) 1 8 Tryd.underlying27 hi hz0 hz1 hz2 rfl (by decide) _ _ _ rfl (hown.alloc _) ⟨_, 0, none⟩ 1 1 [.int .i64 (k : Int)] rfl rfl ?c1 ?c2 (by decide) ?c3 ?c4 ?c5 _ rfl ?_)
        case c1 => exact cell_one_new _ _ _
        case c2 => intro u hu; simp at hu; subst hu; rfl
        case c3 => unfold maxLen; omega
        case c4 => omega
        case c5 => simp; omega
        · intro g2 cap2 w7 hown' hgrow hg2 _
          have hb' := below_app0 hb (Nat.le_refl _) hown (Nat.le_refl _) hgrow
          have hv7 := (hou.alloc (.cells #[.int .i64 (k : Int)] 3)).kept hgrow (by
            cases e : u4.ownBlock with
            | none =>
              cases e3 : u5.ownBlock with
              | none => exact .inl rfl
              | some b => exact .inr (by simp)
            | some b => right; exact HNE.out b e)
          have HN7 : Hid (∀ b, (Value.slice (some ⟨g2, 0, none⟩) ((lvTo r k).length + 1) cap2).ownBlock = some b → u5.ownBlock ≠ some b) := Lib.hid (fun b e2 e => by
            have hlt4 := (hou.lt b e).2
            simp only [Value.ownBlock, Option.some.injEq] at e2
            rcases hg2 with e3 | e3
            · exact HNE.out g2 e3 (by rw [e, e2])
            · omega)
          clear hown hou hb hgrow hg2 HNE
          go_wp2_with fail
          go_roundw
          case rel =>
            refine ⟨k + 1, by omega, by go_num, ?_, by rw [HMU.out]; exact hv7, HN7.out, hb'⟩
            rw [HM.out, natV_snoc, List.length_append]
            exact hown'
          case measure => simp [intOf]; omega
    · obtain rfl : k = 12 := by omega
      have hIl : Ints wr u4 (lvI r) := by
        have h := hown
        unfold natV at h
        have := Ints.of_owns (n := (lvTo r 12).length) (xs := lvI r) (by unfold lvI; rw [List.map_map]; exact h)
        exact this
      have hIu : Ints wr u5 (lvI (nrB r)) := by
        have h := hou
        unfold natV at h
        have := Ints.of_owns (n := (lvTo (nrB r) 12).length) (xs := lvI (nrB r)) (by unfold lvI; rw [List.map_map]; exact h)
        exact this
      have h14 := h1.below hb h1.lt
      have hbw4 := hbw3.trans (hb.mono hbw3.size)
      have CST := Lib.hid (rstrong_lv _ _ wr hIl (by have := lvI_len r; omega))
      rw [str_ref] at CST
      clear hown hou hb h1 hbw3 hll hlu hne
      go_wp2_with fail
      refine CST.out.mono ?_
      rintro e w5 ⟨vs, rfl, hos, h5⟩
      have hI5 := hIu.below h5
      have h15 := h14.below h5 h14.lt
      have hbw5 := hbw4.trans (h5.mono hbw4.size)
      have hIs : Ints w5 vs (stI r) := Ints.of_owns hos
      clear CST h5 h14 hIl hIu hbw4 hos
      have hll := lvI_len (nrB r)
      have HWR := Lib.hid (wk_ref r)
      generalize lvI (nrB r) = L at *
      obtain ⟨al, capl, rfl, _⟩ := hI5.form
      obtain ⟨asg, caps, rfl, _⟩ := hIs.form
      have HI5 := Lib.hid (fun wx (hx : Below w5.heap.size w5 wx) => hI5.below hx)
      go_wp2_with fail
      go_loopw [9, 46] (fun v i wx => ∃ k : Nat, k ≤ L.length ∧ i = .int .i64 k ∧ wx.ownsRow w5.heap.size 3 1 v (wkR L (L.take k)).length ((wkR L (L.take k)).map (Value.int .i64)) ∧ Below w5.heap.size w5 wx) (fun _ i _ => L.length - (intOf i).toNat)
      case atStart => exact ⟨0, by omega, rfl, World.ownsRow_lit _ _ _ (Nat.le_refl _) (by simp) (by simp), (Below.refl w5.heap.size w5).alloc (Nat.le_refl _) _⟩
      case round =>
        obtain ⟨k, hk, rfl, hown, hb⟩ := hrel
        have hszr := hb.size
        by_cases hlt2 : k < L.length
        · have hki : (k : Int) < (L.length : Int) := by omega
          obtain ⟨gk, ok, hao, hc⟩ := (HI5.out _ hb).at hlt2
          cases hao
          have HS := Lib.hid (wkR_take hlt2)
          have hwl := wkR_len L k
          have HIr := Lib.hid (HI5.out _ hb)
          generalize L[k] = x at *
          have HO := Lib.hid hown
          have HB := Lib.hid hb
          clear hown hb
          go_wp2_with fail
          go_loopw [12, 52] (fun d i wx => ∃ j : Nat, j ≤ L.length ∧ i = .int .i64 j ∧ d = .bool ((L.take j).all fun y => decide (y = x) || !impB x y) ∧ wr = wx) (fun _ i _ => L.length - (intOf i).toNat)
          case atStart => exact ⟨0, by omega, rfl, rfl, rfl⟩
          case round =>
            obtain ⟨j, hj, rfl, rfl, rfl⟩ := hrel
            by_cases hlj : j < L.length
            · have hji : (j : Int) < (L.length : Int) := by omega
              obtain ⟨gj, oj, haoj, hcj⟩ := HIr.out.at hlj
              cases haoj
              have HT : Hid ((L.take (j + 1)).all (fun y => decide (y = x) || !impB x y) = ((L.take j).all (fun y => decide (y = x) || !impB x y) && (decide (L[j] = x) || !impB x L[j]))) := Lib.hid (by rw [List.take_succ_eq_append_getElem hlj, List.all_append]; simp)
              generalize (L.take j).all (fun y => decide (y = x) || !impB x y) = d at *
              generalize L[j] = y at *
              cases d
              · have HM : Hid ((L.take (j + 1)).all (fun y => decide (y = x) || !impB x y) = false) := Lib.hid (by rw [HT.out]; rfl)
                clear HT
                go_wp2_with fail
                go_roundw
                case rel => exact ⟨j + 1, by omega, by go_num, by rw [HM.out], by first | rfl | trivial⟩
                case measure => simp [intOf]; omega
              · by_cases hyx : y = x
                · have HM : Hid ((L.take (j + 1)).all (fun y => decide (y = x) || !impB x y) = true) := Lib.hid (by rw [HT.out, decide_eq_true hyx]; rfl)
                  subst hyx
                  clear HT
                  go_wp2_with fail
                  go_roundw
                  case rel => exact ⟨j + 1, by omega, by go_num, by rw [HM.out], by first | rfl | trivial⟩
                  case measure => simp [intOf]; omega
                · have CI := Lib.hid (rimp_any x y wr)
                  rw [decide_eq_false hyx, Bool.false_or, Bool.true_and] at HT
                  generalize impB x y = m at *
                  have HM : Hid ((L.take (j + 1)).all (fun y => decide (y = x) || !impB x y) = !m) := HT
                  clear HT
                  have hyq : (y == x) = false := by rw [beq_eq_false_iff_ne]; exact hyx
                  go_wp2_with (go_at_call 8; refine (CI.out).mono ?_; rintro e w' ⟨rfl, rfl⟩)
                  go_roundw
                  case rel => exact ⟨j + 1, by omega, by go_num, by rw [HM.out], by first | rfl | trivial⟩
                  case measure => simp [intOf]; omega
            · obtain rfl : j = L.length := by omega
              rw [List.take_length]
              have hown := HO.out
              have hb := HB.out
              cases hall : L.all (fun y => decide (y = x) || !impB x y) with
              | false =>
                rw [hall] at HS
                have HM : Hid (wkR L (L.take (k + 1)) = wkR L (L.take k)) := Lib.hid (by rw [HS.out]; simp)
                clear HS hall
                go_wp2_with fail
                go_roundw
                case rel => exact ⟨k + 1, by omega, by go_num, by rw [HM.out]; exact hown, hb⟩
                case measure => simp [intOf]; omega
              | true =>
                rw [hall] at HS
                have HM : Hid (wkR L (L.take (k + 1)) = wkR L (L.take k) ++ [x]) := Lib.hid (by rw [HS.out]; simp)
                clear HS hall
                generalize wkR L (L.take k) = M at *
                go_wp2_with (at_builtin; refine wpList_append_own _ rfl _ _ 27 rfl w5.heap.size 3 i0 (.int .i64 0) 1 8 Tryd.underlying27 hi hz0 hz1 hz2 rfl (by decide) _ _ _ rfl (hown.alloc _) ⟨_, 0, none⟩ 1 1 [.int .i64 x] rfl rfl ?c1 ?c2 ?c3 ?c4 ?c5 ?_)
                case c1 => exact cell_one_new _ _ _
                case c2 => intro u hu; simp at hu; subst hu; rfl
                case c3 => unfold maxLen; omega
                case c4 => omega
                case c5 => simp; omega
                · intro v' w7 hown' hgrow _
                  have hb' := below_app0 hb (Nat.le_refl _) hown (Nat.le_refl _) hgrow
                  clear hown hb hgrow HO HB
                  go_wp2_with fail
                  go_roundw
                  case rel =>
                    refine ⟨k + 1, by omega, by go_num, ?_, hb'⟩
                    rw [HM.out, List.map_append, List.length_append]
                    exact hown'
                  case measure => simp [intOf]; omega
        · obtain rfl : k = L.length := by omega
          rw [List.take_length, HWR.out] at hown
          have hIw : Ints wr u9 (wkI r) := Ints.of_owns hown
          have hIs6 := hIs.below hb
          have h16 := h15.below hb h15.lt
          have hbw6 := hbw5.trans (hb.mono hbw5.size)
          have CL1 := Lib.hid (CL.out wr hbw6)
          clear hown hb h15 hbw5 CL HI5 hIs HWR hll hI5
          go_wp2_with (with_reducible refine wpList_load_rowB h16 rfl _ rfl rfl ?_)
          refine (CL1.out).mono ?_
          rintro e w7 ⟨v1, v2, rfl, hO, h7⟩
          have hbw7 := hbw6.trans (h7.mono hbw6.size)
          have hIs7 := hIs6.below h7
          have hIw7 := hIw.below h7
          obtain ⟨a1, k1, rfl⟩ := own_len hO.1
          obtain ⟨a2, k2, rfl⟩ := own_len hO.2
          clear CL1 h7 h16 hIs6 hIw hbw6
          have hx8 := box_below w7 (.cells #[.slice a1 (strTo r 12).length k1, .slice a2 (wkTo r 12).length k2] 32)
          have hP := heap_alloc_new w7 (.cells #[.slice a1 (strTo r 12).length k1, .slice a2 (wkTo r 12).length k2] 32)
          have c0 : (w7.alloc (.cells #[.slice a1 (strTo r 12).length k1, .slice a2 (wkTo r 12).length k2] 32)).cell? ⟨w7.heap.size, 0, none⟩ = some (.slice a1 (strTo r 12).length k1) := by simp only [World.cell?, hP]; rfl
          have c1 : (w7.alloc (.cells #[.slice a1 (strTo r 12).length k1, .slice a2 (wkTo r 12).length k2] 32)).cell? ⟨w7.heap.size, 1, none⟩ = some (.slice a2 (wkTo r 12).length k2) := by simp only [World.cell?, hP]; rfl
          have hb8 := below_then hbw7 hx8
          have hO8 := hO.below hx8
          have hIs8 := hIs7.below hx8
          have hIw8 := hIw7.below hx8
          have CTX := Lib.hid (hO8.text (HK.out _ hb8) (Below.refl _ _))
          have HPS := Lib.hid (ints_nat hO8.1)
          have HPW := Lib.hid (ints_nat hO8.2)
          have HL1 := Lib.hid (strTo_lt r)
          have HL2 := Lib.hid (wkTo_lt r)
          have hl1 := strTo_len r 12
          have hl2 := wkTo_len r 12
          clear hx8 hP hbw7 hO hIs7 hIw7 hO8
          unfold stI at hIs8
          unfold wkI at hIw8
          obtain ⟨aw, capw, rfl, _⟩ := hIw8.form
          simp only [stI, List.length_map] at hIs8 hIw8 ⊢
          generalize strTo r 12 = l1 at *
          generalize wkTo r 12 = l2 at *
          go_upto_region 26 with fail
          generalize w7.alloc (.cells #[.slice a1 l1.length k1, .slice a2 l2.length k2] 32) = w8 at *
          generalize w7.heap.size = g8 at *
          have HOS := Lib.hid hIs8
          have HOW := Lib.hid hIw8
          clear hIs8 hIw8
          go_wp2_with fail
          go_loopw [16, 94] (fun a i wr => ∃ k : Nat, k ≤ l1.length ∧ i = .int .i64 k ∧ a = .string ⟨(spW (nmsW (l1.take k))).toArray⟩ ∧ w8 = wr) (fun _ i _ => l1.length - (intOf i).toNat)
          case atStart => exact ⟨0, by omega, rfl, rfl, rfl⟩
          case round =>
            obtain ⟨k, hk, rfl, rfl, rfl⟩ := hrel
            by_cases hlt : k < l1.length
            · have hki : (k : Int) < (l1.length : Int) := by omega
              obtain ⟨gp, op, e, hc⟩ := HPS.out.at (k := k) (by simpa using hlt)
              cases e
              obtain ⟨gs, os, e, hd⟩ := HOS.out.at (k := k) (by simpa using hlt)
              cases e
              rw [List.getElem_map] at hc hd
              change w8.cell? _ = some (.int .i64 (l1[k] : Int)) at hc
              change w8.cell? _ = some (.int .i64 (l1[k] : Int)) at hd
              have HS := Lib.hid (sp_more l1 k hlt)
              have hsz := names_len (HL1.out) k
              have hnz : (nameN (l1[k] : Int)).size ≤ 100 := name_size ⟨l1[k], HL1.out _ (List.getElem_mem hlt)⟩
              have CN := Lib.hid (rl_name (l1[k] : Int) w8)
              generalize nameN (l1[k] : Int) = nm at *
              generalize (l1[k] : Int) = x at *
              have hxx : (x != x) = false := by simp
              have hov1 : ¬ 9223372036854775807 < (⟨#[32]⟩ : ByteArray).size + nm.size := by show ¬ _ < 1 + nm.size; omega
              have hov2 : ¬ 9223372036854775807 < (⟨(spW (nmsW (l1.take k))).toArray⟩ : ByteArray).size + ((⟨#[32]⟩ : ByteArray) ++ nm).size := by
                rw [ByteArray.size_append]
                show ¬ _ < (spW (nmsW (l1.take k))).toArray.size + (1 + nm.size)
                simp; omega
              generalize (⟨(spW (nmsW (l1.take k))).toArray⟩ : ByteArray) = A at *
              go_wp2_with fail
              refine CN.out.mono ?_
              rintro e wq ⟨rfl, rfl⟩
              go_wp2_with fail
              go_roundw
              case rel => exact ⟨k + 1, by omega, by go_num, by rw [HS.out], by first | rfl | trivial⟩
              case measure => simp [intOf]; omega
            · obtain rfl : k = l1.length := by omega
              try simp only [List.take_length]
              have c0 := c0; have c1 := c1
              go_wp2_with fail
              go_loopw [17, 117] (fun a i wr => ∃ k : Nat, k ≤ l2.length ∧ i = .int .i64 k ∧ a = .string ⟨(spW (nmsW (l2.take k))).toArray⟩ ∧ w8 = wr) (fun _ i _ => l2.length - (intOf i).toNat)
              case atStart => exact ⟨0, by omega, rfl, rfl, rfl⟩
              case round =>
                obtain ⟨k, hk, rfl, rfl, rfl⟩ := hrel
                by_cases hlt : k < l2.length
                · have hki : (k : Int) < (l2.length : Int) := by omega
                  obtain ⟨gp, op, e, hc⟩ := HPW.out.at (k := k) (by simpa using hlt)
                  cases e
                  obtain ⟨gs, os, e, hd⟩ := HOW.out.at (k := k) (by simpa using hlt)
                  cases e
                  rw [List.getElem_map] at hc hd
                  change w8.cell? _ = some (.int .i64 (l2[k] : Int)) at hc
                  change w8.cell? _ = some (.int .i64 (l2[k] : Int)) at hd
                  have HS := Lib.hid (sp_more l2 k hlt)
                  have hsz := names_len (HL2.out) k
                  have hnz : (nameN (l2[k] : Int)).size ≤ 100 := name_size ⟨l2[k], HL2.out _ (List.getElem_mem hlt)⟩
                  have CN := Lib.hid (rl_name (l2[k] : Int) w8)
                  generalize nameN (l2[k] : Int) = nm at *
                  generalize (l2[k] : Int) = x at *
                  have hxx : (x != x) = false := by simp
                  have hov1 : ¬ 9223372036854775807 < (⟨#[32]⟩ : ByteArray).size + nm.size := by show ¬ _ < 1 + nm.size; omega
                  have hov2 : ¬ 9223372036854775807 < (⟨(spW (nmsW (l2.take k))).toArray⟩ : ByteArray).size + ((⟨#[32]⟩ : ByteArray) ++ nm).size := by
                    rw [ByteArray.size_append]
                    show ¬ _ < (spW (nmsW (l2.take k))).toArray.size + (1 + nm.size)
                    simp; omega
                  generalize (⟨(spW (nmsW (l2.take k))).toArray⟩ : ByteArray) = A at *
                  go_wp2_with fail
                  refine CN.out.mono ?_
                  rintro e wq ⟨rfl, rfl⟩
                  go_wp2_with fail
                  go_roundw
                  case rel => exact ⟨k + 1, by omega, by go_num, by rw [HS.out], by first | rfl | trivial⟩
                  case measure => simp [intOf]; omega
                · obtain rfl : k = l2.length := by omega
                  try simp only [List.take_length]
                  clear c1 HPS HPW HOS HOW
                  have HZ1 := Lib.hid (wdB_size HL1.out hl1)
                  have HZ2 := Lib.hid (wdB_size HL2.out hl2)
                  rw [← pos_cat] at CTX
                  have z1 := HZ1.out
                  have z2 := HZ2.out
                  have hv1 : ¬ 9223372036854775807 < (⟨#[115, 116, 114, 111, 110, 103, 101, 115, 116]⟩ : ByteArray).size + (wdB l1).size := by show ¬ _ < 9 + (wdB l1).size; omega
                  have hv2 : ¬ 9223372036854775807 < ((⟨#[115, 116, 114, 111, 110, 103, 101, 115, 116]⟩ : ByteArray) ++ wdB l1).size + (⟨#[10, 98, 101, 121, 111, 110, 100]⟩ : ByteArray).size := by rw [ByteArray.size_append]; show ¬ _ < (9 + (wdB l1).size) + 7; omega
                  have hv3 : ¬ 9223372036854775807 < (((⟨#[115, 116, 114, 111, 110, 103, 101, 115, 116]⟩ : ByteArray) ++ wdB l1) ++ (⟨#[10, 98, 101, 121, 111, 110, 100]⟩ : ByteArray)).size + (wdB l2).size := by rw [ByteArray.size_append, ByteArray.size_append]; show ¬ _ < ((9 + (wdB l1).size) + 7) + (wdB l2).size; omega
                  have hv4 : ¬ 9223372036854775807 < ((((⟨#[115, 116, 114, 111, 110, 103, 101, 115, 116]⟩ : ByteArray) ++ wdB l1) ++ (⟨#[10, 98, 101, 121, 111, 110, 100]⟩ : ByteArray)) ++ wdB l2).size + (⟨#[10]⟩ : ByteArray).size := by rw [ByteArray.size_append, ByteArray.size_append, ByteArray.size_append]; show ¬ _ < (((9 + (wdB l1).size) + 7) + (wdB l2).size) + 1; omega
                  clear z1 z2 HZ1 HZ2
                  by_cases e1 : l1 = []
                  · have q1 : (⟨(spW (nmsW l1)).toArray⟩ : ByteArray) = ⟨#[]⟩ := by rw [e1]; rfl
                    have q2 : wdB l1 = ⟨#[32, 45]⟩ := by rw [e1]; rfl
                    rw [q1]
                    rw [q2] at CTX hv1 hv2 hv3 hv4
                    clear q1 q2 e1
                    by_cases e2 : l2 = []
                    · have q3 : (⟨(spW (nmsW l2)).toArray⟩ : ByteArray) = ⟨#[]⟩ := by rw [e2]; rfl
                      have q4 : wdB l2 = ⟨#[32, 45]⟩ := by rw [e2]; rfl
                      rw [q3]
                      rw [q4] at CTX hv3 hv4
                      clear q3 q4 e2
                      go_wp2_with fail
                      refine CTX.out.mono ?_
                      rintro e w9 ⟨rfl, h9⟩
                      have hb9 := below_then hb8 h9
                      clear CTX h9
                      go_wp2_with fail
                      go_ret
                      exact ⟨rfl, hb9⟩
                    · have q3 := wdB_some e2
                      have q4 := sp_ne e2
                      rw [← q3] at q4 ⊢
                      clear q3 e2
                      generalize wdB l2 = S2 at *
                      obtain ⟨y1, y2, y3⟩ := sp_nes q4
                      go_wp2_with fail
                      refine CTX.out.mono ?_
                      rintro e w9 ⟨rfl, h9⟩
                      have hb9 := below_then hb8 h9
                      clear CTX h9
                      go_wp2_with fail
                      go_ret
                      exact ⟨rfl, hb9⟩
                  · have q1 := wdB_some e1
                    have q2 := sp_ne e1
                    rw [← q1] at q2 ⊢
                    clear q1 e1
                    generalize wdB l1 = S1 at *
                    obtain ⟨x1, x2, x3⟩ := sp_nes q2
                    by_cases e2 : l2 = []
                    · have q3 : (⟨(spW (nmsW l2)).toArray⟩ : ByteArray) = ⟨#[]⟩ := by rw [e2]; rfl
                      have q4 : wdB l2 = ⟨#[32, 45]⟩ := by rw [e2]; rfl
                      rw [q3]
                      rw [q4] at CTX hv3 hv4
                      clear q3 q4 e2
                      go_wp2_with fail
                      refine CTX.out.mono ?_
                      rintro e w9 ⟨rfl, h9⟩
                      have hb9 := below_then hb8 h9
                      clear CTX h9
                      go_wp2_with fail
                      go_ret
                      exact ⟨rfl, hb9⟩
                    · have q3 := wdB_some e2
                      have q4 := sp_ne e2
                      rw [← q3] at q4 ⊢
                      clear q3 e2
                      generalize wdB l2 = S2 at *
                      obtain ⟨y1, y2, y3⟩ := sp_nes q4
                      go_wp2_with fail
                      refine CTX.out.mono ?_
                      rintro e w9 ⟨rfl, h9⟩
                      have hb9 := below_then hb8 h9
                      clear CTX h9
                      go_wp2_with fail
                      go_ret
                      exact ⟨rfl, hb9⟩
end Go.Proofs.YtadihdkpoeibhaaDoor
