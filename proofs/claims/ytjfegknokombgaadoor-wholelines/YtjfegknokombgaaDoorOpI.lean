/- The walk of the statement on lines of operations: it answers true. Conditions: the library's variables are as a start leaves them; a slice's cells are known, and hold operations of ints. -/
import Derived.Test.YtjfegknokombgaaDoorOpH
import Derived.StillTailTactics
namespace Go.Proofs.YtjfegknokombgaaDoor
set_option maxRecDepth 100000
open Go.RowKit

def textO (o : OpV) : ByteArray := textB o.wr o.key o.val
/-- Operations, a line each. -/
def catB (l : List OpV) : ByteArray := ⟨(l.flatMap fun o => (textO o).data.toList ++ [10]).toArray⟩
theorem catB_zero (l : List OpV) : catB (l.take 0) = ⟨#[]⟩ := rfl
theorem catB_succ (l : List OpV) (k : Nat) (hk : k < l.length) : catB (l.take (k + 1)) = catB (l.take k) ++ (textO l[k] ++ ⟨#[10]⟩) := by
  apply byteArray_ext
  unfold catB
  rw [List.take_succ_eq_append_getElem hk, List.flatMap_append]
  simp
theorem textO_size (o : OpV) (h : o.ok) : (textO o).size ≤ 45 := by
  have := joinB_size (if o.wr then ⟨#[119]⟩ else ⟨#[114]⟩) [o.key, o.val] (by intro n hn; simp at hn; rcases hn with rfl | rfl; exact h.1; exact h.2)
  have e : (if o.wr then (⟨#[119]⟩ : ByteArray) else ⟨#[114]⟩).size = 1 := by cases o.wr <;> rfl
  rw [e] at this
  exact this
theorem catB_size : ∀ (l : List OpV), (∀ o ∈ l, o.ok) → (catB l).size ≤ 46 * l.length
  | [], _ => by simp [catB, ByteArray.size]
  | a :: l, h => by
    have h1 := catB_size l (fun o ho => h o (List.mem_cons_of_mem _ ho))
    have h2 := textO_size a (h a List.mem_cons_self)
    rw [Lib.size_eq] at h1 h2 ⊢
    unfold catB at *
    simp only [List.flatMap_cons, List.length_append, List.length_cons, List.length_nil] at *
    omega
theorem dec_ten (u : Nat) : ∀ x ∈ Lib.decDigits u, x ≠ 10 := by
  intro x hx e
  have := (dec_all u).1 x hx
  subst e
  exact absurd this (by decide)
theorem itoa_ten (n : Int) : ∀ x ∈ Lib.itoa n, x ≠ 10 := by
  intro x hx
  unfold Lib.itoa at hx
  split at hx
  · rcases List.mem_cons.1 hx with rfl | hx
    · decide
    · exact dec_ten _ x hx
  · exact dec_ten _ x hx
theorem textO_ten (o : OpV) : ∀ x ∈ (textO o).data.toList, x ≠ 10 := by
  intro x hx
  unfold textO textB joinB joinTo at hx
  simp only [List.flatMap_cons, List.flatMap_nil, List.append_nil, List.mem_append, List.mem_cons] at hx
  rcases hx with hx | (rfl | hx) | (rfl | hx)
  · cases hw : o.wr
    · rw [hw] at hx; simp at hx; subst hx; decide
    · rw [hw] at hx; simp at hx; subst hx; decide
  · decide
  · exact itoa_ten _ x hx
  · decide
  · exact itoa_ten _ x hx
theorem cut_cat : ∀ (l : List OpV), cutL 10 (l.flatMap fun o => (textO o).data.toList ++ [10]) = l.map (fun o => (textO o).data.toList) ++ [[]]
  | [] => rfl
  | a :: l => by
    rw [List.flatMap_cons, List.append_assoc, List.singleton_append, cutL_app _ (textO_ten a), cut_cat l]; rfl
theorem cutB_cat (l : List OpV) : cutB 10 (catB l) = l.map textO ++ [⟨#[]⟩] := by
  unfold cutB catB
  have e : (⟨(l.flatMap fun o => (textO o).data.toList ++ [10]).toArray⟩ : ByteArray).data.toList = l.flatMap fun o => (textO o).data.toList ++ [10] := by simp
  rw [e, cut_cat, List.map_append, List.map_map]
  congr 1
theorem lines_cat (l : List OpV) : linesB (catB l) = l.map textO ∧ endedB (catB l) = true := by
  unfold linesB endedB
  rw [cutB_cat]
  refine ⟨by simp, ?_⟩
  rw [List.getLastD_eq_getLast?]
  simp [ByteArray.toList_eq]
theorem parse_textO (o : OpV) (h : mayO o = true) : parseR (textO o) = (true, o) := by
  unfold textO
  rw [parse_text, h]; rfl
theorem words_textO (o : OpV) (h : mayO o = true) : wordsOK (textO o) 2 = true ∧ headB (textO o) = (if o.wr then ⟨#[119]⟩ else ⟨#[114]⟩) ∧ numsOf (textO o) = [o.key, o.val] := by
  have hc : ∀ x ∈ (if o.wr then (⟨#[119]⟩ : ByteArray) else ⟨#[114]⟩).data.toList, x ≠ 32 := by cases o.wr <;> decide
  obtain ⟨e1, e2, e3⟩ := words_join (if o.wr then ⟨#[119]⟩ else ⟨#[114]⟩) [o.key, o.val] hc
  obtain ⟨h1, h2⟩ := mayO_inR _ h
  have ha : allR [o.key, o.val] = true := by unfold allR; simp [h1, h2]
  rw [ha] at e1
  exact ⟨e1, e2, e3 ha⟩
theorem allM_at {l : List OpV} (h : allM l = true) {k : Nat} (hk : k < l.length) : mayO l[k] = true := List.all_eq_true.1 h _ (List.getElem_mem hk)
set_option maxHeartbeats 4000000 in
theorem whole2_walk (va : Value) (l : List OpV) (w : World) (he : Env w) (ha : Ops w va l) (hok : ∀ o ∈ l, o.ok) :
    Calls Tryd.prog 12 #[va] w fun e w' => e = .returned (.bool true) ∧ Below w.heap.size w w' := by
  have HEN : Hid (∀ wx, Below w.heap.size w wx → Env wx) := Lib.hid (fun wx h => he.below h)
  obtain ⟨ao, cap, rfl, hal⟩ := ha.form
  clear he
  have hx := fun (wx : World) => opBlock wx (.bool true) (.int .i64 3) (.int .i64 17) 52
  have HX := Lib.hid hx
  clear hx
  go_enter Tryd.func12, Tryd.ntmps12
  go_wp2_with fail
  refine (sp4_parse w (HEN.out _ (Below.refl _ _))).mono ?_
  rintro e w1 ⟨rfl, hb1⟩
  have hb2 := below_then hb1 (box_below w1 (.cells #[.bool true, .int .i64 3, .int .i64 17] 52))
  obtain ⟨x0, x1, x2⟩ := HX.out w1
  go_wp2_with fail
  generalize w1.alloc (.cells #[.bool true, .int .i64 3, .int .i64 17] 52) = w2 at *
  have hlt : w1.heap.size < w2.heap.size := block_lt x0
  have kk := Below.refl w2.heap.size w2
  go_region_held3 (fun w' => w'.cell? ⟨w1.heap.size, 0, none⟩ = some (.bool true) ∧ w'.cell? ⟨w1.heap.size, 1, none⟩ = some (.int .i64 3) ∧ w'.cell? ⟨w1.heap.size, 2, none⟩ = some (.int .i64 17))
    (go_keep)
    (first | (go_at_call 34; refine (write_op 3 17 _).mono ?_; rintro e wx ⟨rfl, hbx⟩; have kk : Below w2.heap.size w2 wx := (by first | exact below_then kk hbx | exact below_then kk ⟨hbx.os, hbx.tape, hbx.output, hbx.size, hbx.block⟩); have a0 := (kk.cell (p := ⟨w1.heap.size, 0, none⟩) hlt).trans x0; have a1 := (kk.cell (p := ⟨w1.heap.size, 1, none⟩) hlt).trans x1; have a2 := (kk.cell (p := ⟨w1.heap.size, 2, none⟩) hlt).trans x2))
  have hb3 := below_then hb2 kk
  clear hbx kk x0 x1 x2 hb2 hb1
  generalize wx = w3 at *
  by_cases hbig : 100 < l.length
  · have hbig' : (100 : Int) < (l.length : Int) := by omega
    go_wp2_with fail
    go_ret
    exact ⟨rfl, hb3⟩
  have hbig' : ¬ (100 : Int) < (l.length : Int) := by omega
  have CM := Lib.hid (may5_any _ l w3 (ha.below hb3))
  cases hall : allM l
  · rw [hall] at CM
    change Hid (Calls _ _ _ _ fun e w' => e = .returned (.int .i64 0) ∧ _) at CM
    clear hall
    go_wp2_with fail
    refine (CM.out).mono ?_
    rintro e w4 ⟨rfl, hb4⟩
    have hb5 := below_then hb3 hb4
    go_wp2_with fail
    go_ret
    exact ⟨rfl, hb5⟩
  rw [hall] at CM
  change Hid (Calls _ _ _ _ fun e w' => e = .returned (.int .i64 1) ∧ _) at CM
  have HALL := Lib.hid hall
  have HOK := Lib.hid hok
  clear hall hok
  go_wp2_with fail
  refine (CM.out).mono ?_
  rintro e w4 ⟨rfl, hb4⟩
  have hb5 := below_then hb3 hb4
  clear CM hb3 hb4
  have HZ := Lib.hid (catB_zero l)
  go_wp2_with fail
  go_loopw [5, 38] (fun t i wr => ∃ k : Nat, k ≤ l.length ∧ i = .int .i64 k ∧ t = .string (catB (l.take k)) ∧ Below w.heap.size w wr) (fun _ i _ => l.length - (intOf i).toNat)
  case atStart => exact ⟨0, by omega, rfl, by rw [HZ.out], hb5⟩
  case round =>
    obtain ⟨k, hk, rfl, rfl, hb⟩ := hrel
    by_cases hlt : k < l.length
    · have hki : (k : Int) < (l.length : Int) := by omega
      obtain ⟨g, o, hao, c0, c1, c2⟩ := (ha.below hb).at hlt
      cases hao
      have HS := Lib.hid (catB_succ l k hlt)
      have hsz := catB_size (l.take k) (fun o ho => HOK.out o (List.mem_of_mem_take ho))
      rw [List.length_take, Nat.min_eq_left hk] at hsz
      have hox := HOK.out l[k] (List.getElem_mem hlt)
      have hts := textO_size l[k] hox
      generalize catB (l.take k) = B at *
      generalize l[k] = x at *
      obtain ⟨wr', key, val⟩ := x
      simp only at c0 c1 c2
      have hbb := hb.alloc hb.size (.cells #[.bool wr', .int .i64 key, .int .i64 val] 52)
      have CT := Lib.hid (text_any wr' key val _ (HEN.out _ hbb) hox.1 hox.2)
      change Hid (Calls _ _ _ _ fun e w' => e = .returned (.string (textO ⟨wr', key, val⟩)) ∧ _) at CT
      generalize textO ⟨wr', key, val⟩ = t at *
      have s1 : (B.size : Int) ≤ 8388608 := by omega
      have s2 : (t.size : Int) ≤ 8388608 := by omega
      have s3 : ((t ++ (⟨#[10]⟩ : ByteArray)).size : Int) ≤ 8388608 := by rw [ByteArray.size_append]; have : (⟨#[10]⟩ : ByteArray).size = 1 := rfl; omega
      clear hsz hox hts
      go_wp2_with fail
      refine (CT.out).mono ?_
      rintro e w6 ⟨rfl, hb6⟩
      have hb7 := below_then hbb hb6
      go_wp2_with fail
      go_roundw
      case rel => exact ⟨k + 1, by omega, by go_num, by rw [HS.out], hb7⟩
      case measure => simp [intOf]; omega
    · obtain rfl : k = l.length := by omega
      have hsz := catB_size l HOK.out
      have CL := Lib.hid (lines_any (catB l) wr (HEN.out _ hb) (by omega))
      rw [(lines_cat l).2, (lines_cat l).1] at CL
      rw [List.take_length]
      clear hsz hb5
      generalize catB l = B at *
      go_wp2_with fail
      refine (CL.out).mono ?_
      rintro e w6 ⟨v6, rfl, hS6, hb6⟩
      have hb7 := below_then hb hb6
      obtain ⟨so, scap, rfl, ⟨hs1, hs2⟩, _⟩ := hS6.form
      rw [List.length_map] at hs1
      rw [List.length_map]
      clear CL hb hb6
      go_wp2_with fail
      go_loopw [64] (fun i wq => ∃ k : Nat, k ≤ l.length ∧ i = .int .i64 k ∧ Below w6.heap.size w6 wq) (fun i _ => l.length - (intOf i).toNat)
      case atStart => exact ⟨0, by omega, rfl, Below.refl _ _⟩
      case round =>
        obtain ⟨k, hk, rfl, hb⟩ := hrel
        have hb8 := below_then hb7 hb
        by_cases hlt : k < l.length
        · have hki : (k : Int) < (l.length : Int) := by omega
          obtain ⟨gs, os, hgs, cs⟩ := (hS6.below hb).at (k := k) (by simpa using hlt)
          cases hgs
          rw [List.getElem_map] at cs
          have hxm := allM_at HALL.out hlt
          have hox := HOK.out l[k] (List.getElem_mem hlt)
          have hpx := parse_textO l[k] hxm
          obtain ⟨hw1, hw2, hw3⟩ := words_textO l[k] hxm
          have hts := textO_size l[k] hox
          have HOP := Lib.hid (fun wx hbx => (ha.below (w' := wx) hbx).at hlt)
          generalize l[k] = x at *
          obtain ⟨wr', key, val⟩ := x
          simp only at hw2 hw3
          have CP : Hid (∀ wx, Env wx → Calls Tryd.prog 29 #[.string (textO ⟨wr', key, val⟩)] wx fun e w' => e = .returned (.tuple #[.agg #[.bool wr', .int .i64 key, .int .i64 val], .bool true]) ∧ Below wx.heap.size wx w') := Lib.hid (fun wx h => by
            have := parse_any (textO ⟨wr', key, val⟩) wx h (by omega)
            rw [hpx] at this
            exact this)
          have CW := Lib.hid (fun wx (h : Env wx) => words_is (textO ⟨wr', key, val⟩) 2 wx h (by omega) hw1)
          rw [hw2, hw3] at CW
          have CR := Lib.hid (fun wx => right_any wr' key val wx)
          rw [hxm] at CR
          clear hxm hox hpx hw1 hw2 hw3 hts
          generalize textO ⟨wr', key, val⟩ = t at *
          simp only at HOP
          go_wp2_with fail
          refine (CP.out _ (HEN.out _ hb8)).mono ?_
          rintro e w8 ⟨rfl, hb9⟩
          have hb10 := below_then hb8 (below_then hb9 (box_below w8 (.cells #[.bool wr', .int .i64 key, .int .i64 val] 52)))
          have hx := opBlock w8 (.bool wr') (.int .i64 key) (.int .i64 val) 52
          have hb11 := below_then hb (below_then hb9 (box_below w8 (.cells #[.bool wr', .int .i64 key, .int .i64 val] 52)))
          clear hb9 cs
          go_wp2_with fail
          generalize w8.alloc (.cells #[.bool wr', .int .i64 key, .int .i64 val] 52) = w9 at *
          refine (CW.out _ (HEN.out _ hb10)).mono ?_
          rintro e wn ⟨vn, rfl, hIn, hb12⟩
          obtain ⟨y0, y1, y2⟩ := hx
          have x0 := (hb12.cell (p := ⟨w8.heap.size, 0, none⟩) (block_lt y0)).trans y0
          have x1 := (hb12.cell (p := ⟨w8.heap.size, 1, none⟩) (block_lt y1)).trans y1
          have x2 := (hb12.cell (p := ⟨w8.heap.size, 2, none⟩) (block_lt y2)).trans y2
          have hb13 := below_then hb11 hb12
          have hb14 := below_then hb10 hb12
          obtain ⟨g2, o2, hg2, c0, c1, c2⟩ := HOP.out wn hb14
          subst hg2
          obtain ⟨no, ncap, rfl, hnc, _⟩ := ints_cap hIn
          obtain ⟨gn, on, hgn, k0⟩ := hIn.at (k := 0) (by simp)
          subst hgn
          obtain ⟨gn', on', hgn', k1⟩ := hIn.at (k := 1) (by simp)
          cases hgn'
          change wn.cell? ⟨gn, on + 0, none⟩ = some (.int .i64 key) at k0
          rw [Nat.add_zero] at k0
          change wn.cell? ⟨gn, on + 1, none⟩ = some (.int .i64 val) at k1
          clear hb12 hb11 hb10 y0 y1 y2 hIn CP CW HOP
          cases wr'
          all_goals
            go_wp2_with fail
            go_still_tail 39, (by kernel_rfl)
            go_wp2_with fail
            refine (CR.out _).mono ?_
            rintro e wz ⟨rfl, hbz⟩
            have hb15 : Below w6.heap.size w6 wz := (by first | exact below_then hb13 hbz | exact below_then hb13 ⟨hbz.os, hbz.tape, hbz.output, hbz.size, hbz.block⟩)
            clear hbz
            go_wp2_with fail
            go_roundw
            case rel => exact ⟨k + 1, by omega, by go_num, hb15⟩
            case measure => simp [intOf]; omega
        · go_wp2_with fail
          go_ret
          exact ⟨rfl, hb8⟩
end Go.Proofs.YtjfegknokombgaaDoor
