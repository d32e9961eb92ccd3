/- The walks of the reference's May and Check of a history. Conditions: a slice's cells are known; there are at most 100000 operations. -/
import Derived.Test.YtlkdojcimlfmdaaHisI
namespace Go.Proofs.Ytlkdojcimlfmdaa
set_option maxRecDepth 100000
open Go.RowKit

/-- Do two transactions' stamps, and their sessions', go beside each other? -/
def apartB (a t : TxnV) : Bool := (a.b != t.b && (a.b != t.c && (a.c != t.b && a.c != t.c))) && !(a.s == t.s && decide (t.b < a.c))
def opR (h : List TxnV) (o : OpV) : Bool := if o.wr then tmH o.val h == 1 else o.val == 0 || !decide (wrI o.key o.val h < 0)
def rowR (h : List TxnV) (k : Nat) (t : TxnV) : Bool := mayT t.s t.b t.c t.l && ((h.take k).all (fun a => apartB a t) && t.l.all (opR h))
def mayRef (h : List TxnV) : Bool := (List.range h.length).all fun k => match h[k]? with
  | some t => rowR h k t
  | none => true
theorem mayRef_no {h : List TxnV} {k : Nat} (hk : k < h.length) (hn : rowR h k h[k] = false) : mayRef h = false := by
  unfold mayRef
  rw [List.all_eq_false]
  exact ⟨k, List.mem_range.2 hk, by rw [List.getElem?_eq_getElem hk]; simp [hn]⟩
theorem mayRef_yes {h : List TxnV} (hn : ∀ k, ∀ hk : k < h.length, rowR h k h[k] = true) : mayRef h = true := by
  unfold mayRef
  rw [List.all_eq_true]
  intro k hk
  have := List.mem_range.1 hk
  rw [List.getElem?_eq_getElem this]; exact hn k this
theorem rowR_a {h : List TxnV} {k : Nat} {t : TxnV} (hn : mayT t.s t.b t.c t.l = false) : rowR h k t = false := by unfold rowR; rw [hn]; rfl
theorem rowR_b {h : List TxnV} {k : Nat} {t : TxnV} {j : Nat} (hj : j < k) (hk : k ≤ h.length) (hn : apartB (h[j]'(by omega)) t = false) : rowR h k t = false := by
  unfold rowR
  have : (h.take k).all (fun a => apartB a t) = false := List.all_eq_false.2 ⟨h[j]'(by omega), by rw [List.mem_take_iff_getElem]; exact ⟨j, by omega, rfl⟩, by simp [hn]⟩
  rw [this]; simp
theorem rowR_c {h : List TxnV} {k : Nat} {t : TxnV} {j : Nat} (hj : j < t.l.length) (hn : opR h t.l[j] = false) : rowR h k t = false := by
  unfold rowR
  have : t.l.all (opR h) = false := List.all_eq_false.2 ⟨t.l[j], List.getElem_mem hj, by simp [hn]⟩
  rw [this]; simp
set_option maxHeartbeats 16000000 in
theorem rmay_any (va : Value) (h : List TxnV) (w : World) (hT : Txns w va h) (hn : opsN h ≤ 100000) :
    Calls Try.prog 50 #[va] w fun e w' => e = .returned (.bool (mayRef h)) ∧ Below w.heap.size w w' := by
  obtain ⟨ao, cap, rfl, hal⟩ := hT.form
  have HT := Lib.hid (fun wx (hx : Below w.heap.size w wx) => hT.below hx)
  have HNO : Hid (∀ k, ∀ hk : k < h.length, rowR h k h[k] = false → false = mayRef h) := Lib.hid (fun k hk hh => (mayRef_no hk hh).symm)
  have HTM : Hid (∀ x wx, Below w.heap.size w wx → Calls Try.prog 73 #[.slice ao h.length cap, .int .i64 x] wx fun e w' => e = .returned (.int .i64 (tmH x h)) ∧ Below wx.heap.size wx w') := Lib.hid (fun x wx hx => times_any _ h x wx (hT.below hx) hn)
  have HWR : Hid (∀ key x wx, Below w.heap.size w wx → Calls Try.prog 59 #[.slice ao h.length cap, .int .i64 key, .int .i64 x] wx fun e w' => e = .returned (.int .i64 (wrI key x h)) ∧ Below wx.heap.size wx w') := Lib.hid (fun key x wx hx => writer_any _ h key x wx (hT.below hx))
  clear hT
  go_enter Try.func50, Try.ntmps50
  go_wp2_with fail
  go_loopw [3] (fun i wr => ∃ k : Nat, k ≤ h.length ∧ i = .int .i64 k ∧ (∀ j, ∀ _ : j < k, ∀ hj : j < h.length, rowR h j h[j] = true) ∧ Below w.heap.size w wr) (fun i _ => h.length - (intOf i).toNat)
  case atStart => exact ⟨0, by omega, rfl, by omega, Below.refl _ _⟩
  case round =>
    obtain ⟨k, hk, rfl, hN, hb⟩ := hrel
    have HN := Lib.hid hN
    clear hN
    by_cases hlt : k < h.length
    · have hki : (k : Int) < (h.length : Int) := by omega
      obtain ⟨g, o, hao, c0, c1, c2, c3⟩ := (HT.out _ hb).at hlt
      cases hao
      have HOP := Lib.hid (fun wx (hx : Below w.heap.size w wx) => (HT.out wx hx).ops hlt)
      have HAT := Lib.hid (fun wx (hx : Below w.heap.size w wx) => (HT.out wx hx).at hlt)
      have HAJ := Lib.hid (fun wx (hx : Below w.heap.size w wx) j (hj : j < h.length) => (HT.out wx hx).at hj)
      have HNK := Lib.hid (HNO.out k hlt)
      have HLK : Hid (rowR h k h[k] = true → ∀ i, ∀ _ : i < k + 1, ∀ hi2 : i < h.length, rowR h i h[i] = true) := Lib.hid (fun hh i hi hi2 => by
        rcases Nat.lt_or_eq_of_le (Nat.le_of_lt_succ hi) with h1 | rfl
        · exact HN.out i h1 hi2
        · exact hh)
      have HJV : Hid (∀ wx, Below w.heap.size w wx → ∀ j, ∀ hj : j < h.length, ∃ a' m' c', (h[j]).v = .slice a' m' c') := Lib.hid (fun wx hx j hj => by
        obtain ⟨a', c', hv', _⟩ := ((HT.out wx hx).ops hj).form
        exact ⟨a', _, c', hv'⟩)
      generalize ht : h[k] = t at *
      have HTK := Lib.hid ht
      clear ht
      obtain ⟨s, b, c, v, l⟩ := t
      simp only at c0 c1 c2 c3 HOP HAT
      obtain ⟨ai, capi, rfl, hli⟩ := (HOP.out _ hb).form
      have CM := Lib.hid (maytxn_any s b c _ l wr (HOP.out _ hb))
      clear HN
      cases hm : mayT s b c l
      · have H := Lib.hid (HNK.out (rowR_a hm))
        rw [hm] at CM
        clear hm HNK HLK HNO
        go_wp2_with fail
        refine (CM.out).mono ?_
        rintro e w1 ⟨rfl, hb1⟩
        have hb2 := below_then hb hb1
        go_wp2_with fail
        go_ret
        exact ⟨ret_b H.out, hb2⟩
      rw [hm] at CM
      have HM := Lib.hid hm
      clear hm
      go_wp2_with fail
      refine (CM.out).mono ?_
      rintro e w1 ⟨rfl, hb1⟩
      have hb2 := below_then hb hb1
      clear CM hb hb1 c0 c1 c2 c3
      go_wp2_with fail
      go_loopw [4] (fun i wx => ∃ j : Nat, j ≤ k ∧ i = .int .i64 j ∧ ((h.take j).all (fun a => apartB a ⟨s, b, c, .slice ai l.length capi, l⟩) = true) ∧ Below w.heap.size w wx) (fun i _ => k - (intOf i).toNat)
      case atStart => exact ⟨0, by omega, rfl, rfl, hb2⟩
      case round =>
        obtain ⟨j, hj, rfl, hA, hb3⟩ := hrel
        have HA := Lib.hid hA
        clear hA hb2
        by_cases hltj : j < k
        · have hkj : (j : Int) < (k : Int) := by omega
          have hjl : j < h.length := by omega
          have hjl' : (j : Int) < (h.length : Int) := by omega
          obtain ⟨_, _, hao, c0, c1, c2, c3⟩ := HAJ.out _ hb3 j hjl
          cases hao
          have HS : Hid ((h.take (j + 1)).all (fun a => apartB a ⟨s, b, c, .slice ai l.length capi, l⟩) = ((h.take j).all (fun a => apartB a ⟨s, b, c, .slice ai l.length capi, l⟩) && apartB h[j] ⟨s, b, c, .slice ai l.length capi, l⟩)) := Lib.hid (by rw [List.take_succ_eq_append_getElem hjl, List.all_append]; simp)
          have HB := Lib.hid (fun hh => HNK.out (rowR_b hltj hk hh))
          obtain ⟨a1, m1, cap1, hv1⟩ := HJV.out _ hb3 j hjl
          rw [hv1] at c3
          generalize h[j] = u at *
          obtain ⟨us, ub, uc, uv, ul⟩ := u
          simp only at c0 c1 c2 hv1
          subst hv1
          have hb4 := hb3.alloc hb3.size (.cells #[.int .i64 us, .int .i64 ub, .int .i64 uc, .slice a1 m1 cap1] 29)
          have hb5 := hb4.alloc hb4.size (.cells #[.int .i64 s, .int .i64 b, .int .i64 c, .slice ai l.length capi] 29)
          obtain ⟨_, _, hao, e0, e1, e2, e3⟩ := HAT.out _ hb4
          cases hao
          have HAP : Hid (apartB ⟨us, ub, uc, .slice a1 m1 cap1, ul⟩ ⟨s, b, c, .slice ai l.length capi, l⟩ = ((ub != b && (ub != c && (uc != b && uc != c))) && !(us == s && decide (b < uc)))) := Lib.hid rfl
          generalize apartB ⟨us, ub, uc, .slice a1 m1 cap1, ul⟩ ⟨s, b, c, .slice ai l.length capi, l⟩ = q at *
          cases b1 : ub == b
          case true =>
            have H := Lib.hid (HB.out (by rw [HAP.out]; simp [bne, b1]))
            clear HLK HNO HNK HB HAP HS
            go_wp2_with fail
            go_ret
            exact ⟨ret_b H.out, hb5⟩
          cases b2 : ub == c
          case true =>
            have H := Lib.hid (HB.out (by rw [HAP.out]; simp [bne, b1, b2]))
            clear HLK HNO HNK HB HAP HS
            go_wp2_with fail
            go_ret
            exact ⟨ret_b H.out, hb5⟩
          cases b3 : uc == b
          case true =>
            have H := Lib.hid (HB.out (by rw [HAP.out]; simp [bne, b1, b2, b3]))
            clear HLK HNO HNK HB HAP HS
            go_wp2_with fail
            go_ret
            exact ⟨ret_b H.out, hb5⟩
          cases b4 : uc == c
          case true =>
            have H := Lib.hid (HB.out (by rw [HAP.out]; simp [bne, b1, b2, b3, b4]))
            clear HLK HNO HNK HB HAP HS
            go_wp2_with fail
            go_ret
            exact ⟨ret_b H.out, hb5⟩
          cases b5 : us == s
          case false =>
            have H : Hid ((h.take (j + 1)).all (fun a => apartB a ⟨s, b, c, .slice ai l.length capi, l⟩) = true) := Lib.hid (by rw [HS.out, HA.out, HAP.out]; simp [bne, b1, b2, b3, b4, b5])
            clear HB HAP HS
            go_wp2_with fail
            go_roundw
            case rel => exact ⟨j + 1, by omega, by go_num, H.out, hb5⟩
            case measure => simp [intOf]; omega
          by_cases d6 : b < uc
          · have H := Lib.hid (HB.out (by rw [HAP.out]; simp [bne, b1, b2, b3, b4, b5, d6]))
            clear HLK HNO HNK HB HAP HS
            go_wp2_with fail
            go_ret
            exact ⟨ret_b H.out, hb5⟩
          · have H : Hid ((h.take (j + 1)).all (fun a => apartB a ⟨s, b, c, .slice ai l.length capi, l⟩) = true) := Lib.hid (by rw [HS.out, HA.out, HAP.out]; simp [bne, b1, b2, b3, b4, b5, d6])
            clear HB HAP HS
            go_wp2_with fail
            go_roundw
            case rel => exact ⟨j + 1, by omega, by go_num, H.out, hb5⟩
            case measure => simp [intOf]; omega
        · have hjk : j = k := by omega
          subst hjk
          have HRO : Hid (rowR h j ⟨s, b, c, .slice ai l.length capi, l⟩ = l.all (opR h)) := Lib.hid (by unfold rowR; rw [HM.out, HA.out]; rfl)
          have HOO := Lib.hid (fun i hi hh => HNK.out (rowR_c (j := i) hi hh))
          clear HNK HM HA HJV HAJ
          go_wp2_with fail
          go_loopw [7] (fun i wx => ∃ m : Nat, m ≤ l.length ∧ i = .int .i64 m ∧ (l.take m).all (opR h) = true ∧ Below w.heap.size w wx) (fun i _ => l.length - (intOf i).toNat)
          case atStart => exact ⟨0, by omega, rfl, rfl, hb3⟩
          case round =>
            obtain ⟨m, hm, rfl, hA, hb4⟩ := hrel
            have HA := Lib.hid hA
            clear hA hb3
            obtain ⟨_, _, hao, c0, c1, c2, c3⟩ := HAT.out _ hb4
            cases hao
            clear c0 c1 c2
            by_cases hltm : m < l.length
            · have hkm : (m : Int) < (l.length : Int) := by omega
              obtain ⟨g2, o2, hao2, e0, e1, e2⟩ := (HOP.out _ hb4).at hltm
              cases hao2
              have HS : Hid ((l.take (m + 1)).all (opR h) = ((l.take m).all (opR h) && opR h l[m])) := Lib.hid (by rw [take_snoc l m hltm, List.all_append]; simp)
              have HB := Lib.hid (HOO.out m hltm)
              generalize l[m] = y at *
              obtain ⟨yw, yk, yv⟩ := y
              try simp only at e0 e1 e2
              have hb5 := hb4.alloc hb4.size (.cells #[.bool yw, .int .i64 yk, .int .i64 yv] 31)
              have HOR : Hid (opR h ⟨yw, yk, yv⟩ = if yw then tmH yv h == 1 else yv == 0 || !decide (wrI yk yv h < 0)) := Lib.hid rfl
              generalize opR h ⟨yw, yk, yv⟩ = q at *
              cases yw with
              | true =>
                simp only [if_true] at HOR
                have CT := Lib.hid (HTM.out yv _ hb5)
                generalize tmH yv h = n at *
                cases hn1 : n == 1
                · have H := Lib.hid (HB.out (by rw [HOR.out, hn1]))
                  have hn2 : ((n : Int) != 1) = true := by simp at hn1 ⊢; omega
                  clear HLK HNO HOO HB HOR HS hn1
                  go_wp2_with fail
                  refine (CT.out).mono ?_
                  rintro e w6 ⟨rfl, hb6⟩
                  have hb7 := below_then hb5 hb6
                  go_wp2_with fail
                  go_ret
                  exact ⟨ret_b H.out, hb7⟩
                · have H : Hid ((l.take (m + 1)).all (opR h) = true) := Lib.hid (by rw [HS.out, HA.out, HOR.out, hn1]; rfl)
                  obtain rfl : n = 1 := by simpa using hn1
                  change Hid (Calls _ _ _ _ fun e w' => e = .returned (.int .i64 1) ∧ _) at CT
                  clear HB HOR HS hn1
                  obtain ⟨x0, x1, x2⟩ := opBlock wr (.bool true) (.int .i64 yk) (.int .i64 yv) 31
                  go_wp2_with fail
                  refine (CT.out).mono ?_
                  rintro e w6 ⟨rfl, hb6⟩
                  have hb7 := below_then hb5 hb6
                  have z0 := (hb6.cell (p := ⟨wr.heap.size, 0, none⟩) (block_lt x0)).trans x0
                  have z1 := (hb6.cell (p := ⟨wr.heap.size, 1, none⟩) (block_lt x1)).trans x1
                  have z2 := (hb6.cell (p := ⟨wr.heap.size, 2, none⟩) (block_lt x2)).trans x2
                  clear x0 x1 x2
                  go_wp2_with fail
                  go_roundw
                  case rel => exact ⟨m + 1, by omega, by go_num, H.out, hb7⟩
                  case measure => simp [intOf]; omega
              | false =>
                simp only [Bool.false_eq_true, if_false] at HOR
                cases hz : yv == 0
                · have hz2 : (yv != 0) = true := by simp [bne, hz]
                  have CW := Lib.hid (HWR.out yk yv _ hb5)
                  generalize wrI yk yv h = n at *
                  by_cases hneg : n < 0
                  · have H := Lib.hid (HB.out (by rw [HOR.out, hz]; simp [hneg]))
                    clear HLK HNO HOO HB HOR HS
                    go_wp2_with fail
                    refine (CW.out).mono ?_
                    rintro e w6 ⟨rfl, hb6⟩
                    have hb7 := below_then hb5 hb6
                    go_wp2_with fail
                    go_ret
                    exact ⟨ret_b H.out, hb7⟩
                  · have H : Hid ((l.take (m + 1)).all (opR h) = true) := Lib.hid (by rw [HS.out, HA.out, HOR.out, hz]; simp [hneg])
                    clear HB HOR HS
                    go_wp2_with fail
                    refine (CW.out).mono ?_
                    rintro e w6 ⟨rfl, hb6⟩
                    have hb7 := below_then hb5 hb6
                    go_wp2_with fail
                    go_roundw
                    case rel => exact ⟨m + 1, by omega, by go_num, H.out, hb7⟩
                    case measure => simp [intOf]; omega
                · have hz2 : (yv != 0) = false := by simp [bne, hz]
                  have H : Hid ((l.take (m + 1)).all (opR h) = true) := Lib.hid (by rw [HS.out, HA.out, HOR.out, hz]; rfl)
                  clear HB HOR HS
                  go_wp2_with fail
                  go_roundw
                  case rel => exact ⟨m + 1, by omega, by go_num, H.out, hb5⟩
                  case measure => simp [intOf]; omega
            · have hm2 : m = l.length := by omega
              subst hm2
              have H := Lib.hid (HLK.out (by rw [HRO.out]; have := HA.out; rwa [List.take_length] at this))
              go_wp2_with fail
              go_roundw
              case rel => exact ⟨j + 1, by omega, by go_num, H.out, hb4⟩
              case measure => simp [intOf]; omega
    · have hkl : k = h.length := by omega
      subst hkl
      have H : Hid (true = mayRef h) := Lib.hid (mayRef_yes (fun k hk => HN.out k hk hk)).symm
      clear HNO HTM HWR
      go_wp2_with fail
      go_ret
      exact ⟨ret_b H.out, hb⟩
end Go.Proofs.Ytlkdojcimlfmdaa
