/- Walks: the reference's Right; a relation of pairs, as the statements make it. Conditions: slices' cells are known; at most 100 pairs. -/
import Derived.Test.YtjfegknokombgaaDoorRelF
import Derived.Test.YtjfegknokombgaaDoorRelI
import Derived.Deep.RegionHeld3
namespace Go.Proofs.YtjfegknokombgaaDoor
set_option maxRecDepth 100000
open Go.RowKit

def rightB (p : Pr) : Bool := mayB p.1 && mayB p.2
theorem pair_block (w : World) (a b : Int) : (w.alloc (.cells #[.int .i64 a, .int .i64 b] 61)).cell? ⟨w.heap.size, 0, none⟩ = some (.int .i64 a) ∧ (w.alloc (.cells #[.int .i64 a, .int .i64 b] 61)).cell? ⟨w.heap.size, 1, none⟩ = some (.int .i64 b) :=
  ⟨by rw [cell_of_row _ _ 0 _ _ _ (heap_alloc_new w _)]; rfl, by rw [cell_of_row _ _ 1 _ _ _ (heap_alloc_new w _)]; rfl⟩
set_option maxHeartbeats 1000000 in
theorem right_any (a b : Int) (w : World) :
    Calls Tryd.prog 48 #[.agg #[.int .i64 a, .int .i64 b]] w fun e w' => e = .returned (.bool (rightB (a, b))) ∧ Below w.heap.size w w' := by
  have H : Hid (rightB (a, b) = (decide (0 ≤ a ∧ a < 64) && decide (0 ≤ b ∧ b < 64))) := Lib.hid rfl
  by_cases h1 : 0 ≤ a
  · by_cases h2 : a < 64
    · by_cases h3 : 0 ≤ b
      · by_cases h4 : b < 64
        · have HX : Hid (true = rightB (a, b)) := Lib.hid (by rw [H.out]; simp [h1, h2, h3, h4])
          go_enter Tryd.func48, Tryd.ntmps48
          go_wp2
          go_ret
          exact ⟨ret_b HX.out, (Below.refl _ _).alloc (Nat.le_refl _) _⟩
        · have HX : Hid (false = rightB (a, b)) := Lib.hid (by rw [H.out]; simp [h4])
          go_enter Tryd.func48, Tryd.ntmps48
          go_wp2
          go_ret
          exact ⟨ret_b HX.out, (Below.refl _ _).alloc (Nat.le_refl _) _⟩
      · have HX : Hid (false = rightB (a, b)) := Lib.hid (by rw [H.out]; simp [h3])
        go_enter Tryd.func48, Tryd.ntmps48
        go_wp2
        go_ret
        exact ⟨ret_b HX.out, (Below.refl _ _).alloc (Nat.le_refl _) _⟩
    · have HX : Hid (false = rightB (a, b)) := Lib.hid (by rw [H.out]; simp [h2])
      go_enter Tryd.func48, Tryd.ntmps48
      go_wp2
      go_ret
      exact ⟨ret_b HX.out, (Below.refl _ _).alloc (Nat.le_refl _) _⟩
  · have HX : Hid (false = rightB (a, b)) := Lib.hid (by rw [H.out]; simp [h1])
    go_enter Tryd.func48, Tryd.ntmps48
    go_wp2
    go_ret
    exact ⟨ret_b HX.out, (Below.refl _ _).alloc (Nat.le_refl _) _⟩

def addAll (R : Mat) (l : List Pr) : Mat := l.foldl (fun R p => addM R p.1 p.2) R
theorem addAll_succ (R : Mat) (l : List Pr) (k : Nat) (hk : k < l.length) : addAll R (l.take (k + 1)) = addM (addAll R (l.take k)) l[k].1 l[k].2 := by
  unfold addAll
  rw [List.take_succ_eq_append_getElem hk, List.foldl_append]; rfl
/-- The pairs that may be, each once. -/
def ofP (l : List Pr) : List Pr := putAll [] (l.filter rightB)
theorem ofP_hit (l : List Pr) (k : Nat) (hk : k < l.length) (h : rightB l[k] = true) : ofP (l.take (k + 1)) = putP (ofP (l.take k)) l[k].1 l[k].2 := by
  unfold ofP putAll
  rw [List.take_succ_eq_append_getElem hk, List.filter_append, List.foldl_append]
  simp [h]
theorem ofP_miss (l : List Pr) (k : Nat) (hk : k < l.length) (h : rightB l[k] = false) : ofP (l.take (k + 1)) = ofP (l.take k) := by
  unfold ofP putAll
  rw [List.take_succ_eq_append_getElem hk, List.filter_append, List.foldl_append]
  simp [h]
theorem ofP_len (l : List Pr) : (ofP l).length ≤ l.length := by
  have h1 := (putAll_len (l.filter rightB) []).1
  have h2 := List.length_filter_le rightB l
  simp at h1
  unfold ofP; omega
theorem add_any2 (R : Mat) (g : Nat) (a b : Int) (w : World) (h : RelAt w g 27 R) :
    Calls Tryd.prog 36 #[.pointer (some ⟨g, 0, none⟩), .int .i64 a, .int .i64 b] w fun e w' => e = .returned (.bool (rightB (a, b))) ∧ RelAt w' g 27 (addM R a b) ∧ w.grownBy w' (some g) := add_any R g a b w h
/-- Pairs are no sets: a store into a relation's block leaves them. -/
theorem Prs.grown {w w' : World} {v : Value} {l : List Pr} {g : Nat} {t : TypeId} {R : Mat} (h : Prs w v l) (hr : RelAt w g t R) (hg : w.grownBy w' (some g)) : Prs w' v l := by
  obtain ⟨hl, ao, cap, rfl, hm, hno, hc⟩ := h
  refine ⟨hl, ao, cap, rfl, hm, hno, fun hn => ?_⟩
  obtain ⟨b, off, rfl, hcell⟩ := hc hn
  refine ⟨b, off, rfl, fun i hi => ?_⟩
  have h1 := hcell i hi
  have hi' : i < (prV l).length := by rw [prV_len]; omega
  rw [List.getElem?_eq_getElem hi'] at h1 ⊢
  have hb : b ≠ g := by
    rintro rfl
    rw [cell_of_row w b _ _ _ _ hr] at h1
    have hmem : (prV l)[i] ∈ prV l := List.getElem_mem hi'
    unfold prV at hmem
    obtain ⟨p, _, hp⟩ := List.mem_flatMap.1 hmem
    by_cases ho : off + i < 64
    · rw [rowsA_at R ho] at h1
      have := Option.some.inj h1
      unfold prV at this
      rw [← this] at hp
      simp at hp
    · rw [Array.getElem?_eq_none (by rw [rowsA_size]; omega)] at h1
      cases h1
  exact hg.cell h1 (by simpa using hb)
theorem results_rel3 {fn : Func} {p u v : Tmp} (h : fn.results = #[.cell p 27, .tmp u, .tmp v]) (tmps : Array Value) (w : World) (g : Nat) (R : Mat)
    (hp : tmps.getD p undef = .pointer (some ⟨g, 0, none⟩)) (hg : RelAt w g 27 R) : (results fn tmps).run Tryd.prog w = .ok (.tuple #[.agg (rowsA R), tmps.getD u undef, tmps.getD v undef]) w := by
  have hp' : tmps[p]?.getD undef = .pointer (some ⟨g, 0, none⟩) := by simpa using hp
  simp [results, h, hp', asAddr, run_loadVar_row w g _ 27 (rowsA R) _ _ hg Tryd.underlying27 rfl (infoRel' _)]
set_option maxHeartbeats 4000000 in
theorem of2_any (va : Value) (l : List Pr) (w : World) (ha : Prs w va l) (hbig : l.length ≤ 100) :
    Calls Tryd.prog 14 #[va] w fun e w' => ∃ v, e = .returned (.tuple #[.agg (rowsA (addAll noR l)), v, .bool true]) ∧ Prs w' v (ofP l) ∧ Below w.heap.size w w' := by
  obtain ⟨ao, cap, rfl, hal⟩ := ha.form
  go_enter Tryd.func14, Tryd.ntmps14
  go_wp2
  go_loopw [6, 11] (fun v i wr => ∃ k : Nat, k ≤ l.length ∧ i = .int .i64 k ∧ Prs wr v (ofP (l.take k)) ∧ RelAt wr (w.heap.size + 1) 27 (addAll noR (l.take k)) ∧ RelAt wr w.heap.size 27 noR ∧ Below w.heap.size w wr)
    (fun _ i _ => l.length - (intOf i).toNat)
  case atStart =>
    refine ⟨0, by omega, rfl, ?_, ?_, ?_, ?_⟩
    · exact Prs.of_owns (l := []) (base := 0) (e := 61) (World.ownsRow_nil _ _ _ _)
    · exact RelAt.made _ _ noR (by simp) (by rw [rowsA_none]; rfl)
    · exact (RelAt.made w _ noR rfl (by rw [rowsA_none]; rfl)).alloc _
    · exact ((Below.refl w.heap.size w).alloc (Nat.le_refl _) _).alloc (by simp) _
  case round =>
    obtain ⟨k, hk, rfl, hp, h1, h0, hb⟩ := hrel
    by_cases hlt : k < l.length
    · have hki : (k : Int) < (l.length : Int) := by omega
      obtain ⟨p, off, hao, hc1, hc2⟩ := (ha.below hb).at hlt
      cases hao
      have HS := Lib.hid (addAll_succ noR l k hlt)
      have HH := Lib.hid (ofP_hit l k hlt)
      have HM := Lib.hid (ofP_miss l k hlt)
      generalize l[k] = z at *
      obtain ⟨x, y⟩ := z
      simp only at hc1 hc2
      have HP := Lib.hid hp
      have H1 := Lib.hid h1
      clear hp h1
      have HA : Hid (RelAt (wr.alloc (.cells #[.int .i64 x, .int .i64 y] 61)) (w.heap.size + 1) 27 (addAll noR (l.take k))) := Lib.hid ((H1.out).alloc _)
      have hg1 : w.heap.size + 1 < wr.heap.size := (H1.out).lt
      generalize addAll noR (l.take k) = R at *
      obtain ⟨pb0, pb1⟩ := pair_block wr x y
      go_wp2
      go_region_held3 (fun w' => w'.cell? ⟨wr.heap.size, 0, none⟩ = some (.int .i64 x) ∧ w'.cell? ⟨wr.heap.size, 1, none⟩ = some (.int .i64 y))
        (go_keep)
        (first
          | (go_at_call 36; refine (add_any2 R (w.heap.size + 1) x y _ ?_).mono ?_; (first | exact HA.out | exact HA.out.below hbR (by simp; omega)); rintro e wA ⟨rfl, hRA, hgA⟩; (first | (have cA0 := hgA.cell cR0 (by simp; omega); have cA1 := hgA.cell cR1 (by simp; omega)) | (have cA0 := hgA.cell pb0 (by simp; omega); have cA1 := hgA.cell pb1 (by simp; omega))))
          | (go_at_call 48; refine (right_any x y _).mono ?_; rintro e wR ⟨rfl, hbR⟩; (first | (have hzA := hgA.size; have cR0 := (hbR.cell (p := ⟨wr.heap.size, 0, none⟩) (by simp at hzA ⊢; omega)).trans cA0; have cR1 := (hbR.cell (p := ⟨wr.heap.size, 1, none⟩) (by simp at hzA ⊢; omega)).trans cA1) | (have cR0 := (hbR.cell (p := ⟨wr.heap.size, 0, none⟩) (by simp)).trans pb0; have cR1 := (hbR.cell (p := ⟨wr.heap.size, 1, none⟩) (by simp)).trans pb1))))
      have hPa : Prs (wr.alloc (.cells #[.int .i64 x, .int .i64 y] 61)) _ (ofP (l.take k)) := (HP.out).below ((Below.refl _ _).alloc (Nat.le_refl _) _)
      have hPA := hPa.grown HA.out (w' := wA) ⟨hgA.os, hgA.tape, hgA.output, hgA.size, hgA.block⟩
      have HPR := Lib.hid (hPA.below hbR)
      have h0a := h0.alloc (.cells #[.int .i64 x, .int .i64 y] 61)
      have h0A : RelAt wA w.heap.size 27 noR := by
        have := hgA.block w.heap.size (by simp; omega) (by simp)
        unfold RelAt at *
        rw [this]
        exact h0a
      have h0R := h0A.below hbR h0A.lt
      have HRR := Lib.hid (hRA.below hbR hRA.lt)
      have hbA : Below w.heap.size w wA := (hb.alloc hb.size _).grown (w' := wA) (row := some (w.heap.size + 1)) ⟨hgA.os, hgA.tape, hgA.output, hgA.size, hgA.block⟩ (by simp; omega) (by simp)
      have hbb := hbA.trans (hbR.mono hbA.size)
      have holen := ofP_len (l.take k)
      have holen2 : (l.take k).length ≤ l.length := by simp; omega
      clear h0a hPa hPA h0A hRA hbA hgA hbR cA0 cA1 h0 hb hc1 hc2 pb0 pb1
      generalize ofP (l.take k) = o at *
      have hzz : wr.heap.size < wR.heap.size := block_lt cR0
      have CR := fun wx => right_any x y wx
      cases hrb : rightB (x, y)
      all_goals
        rw [hrb] at CR
        have CRH := Lib.hid CR
        have HRB := Lib.hid hrb
        clear hrb CR
        go_wp2_with fail
        refine (CRH.out _).mono ?_
        rintro e wR2 ⟨rfl, hbR2⟩
        have cS0 := (hbR2.cell (p := ⟨wr.heap.size, 0, none⟩) hzz).trans cR0
        have cS1 := (hbR2.cell (p := ⟨wr.heap.size, 1, none⟩) hzz).trans cR1
        have HPS := Lib.hid ((HPR.out).below hbR2)
        have HRS := Lib.hid ((HRR.out).below hbR2 (HRR.out).lt)
        have h0S := h0R.below hbR2 h0R.lt
        have hbS := hbb.trans (hbR2.mono hbb.size)
        clear cR0 cR1 h0R hbb hbR2 hzz
        go_wp2_with fail
      · go_roundw
        case rel => exact ⟨k + 1, by omega, by go_num, by rw [HM.out HRB.out]; exact HPS.out, by rw [HS.out]; exact HRS.out, h0S, hbS⟩
        case measure => simp [intOf]; omega
      · refine (put_any _ o x y _ HPS.out (by omega)).mono ?_
        rintro e wP ⟨vP, rfl, hpP, hbP⟩
        have HPP := Lib.hid hpP
        have HRP := Lib.hid ((HRS.out).below hbP (HRS.out).lt)
        have h0P := h0S.below hbP h0S.lt
        have hbPP := hbS.trans (hbP.mono hbS.size)
        clear hpP hbP h0S hbS cS0 cS1
        go_wp2_with fail
        go_roundw
        case rel => exact ⟨k + 1, by omega, by go_num, by rw [HH.out HRB.out]; exact HPP.out, by rw [HS.out]; exact HRP.out, h0P, hbPP⟩
        case measure => simp [intOf]; omega
    · have HX : Hid (Prs wr u6 (ofP l)) := Lib.hid (by rwa [List.take_of_length_le (by omega)] at hp)
      rw [List.take_of_length_le (by omega)] at h1
      clear hp
      go_wp2_with (first
        | (with_reducible refine wpList_load_rel h1 rfl _ rfl rfl ?_)
        | (with_reducible refine wpList_store_rel h0 (addAll noR l) rfl _ _ rfl rfl rfl ?_))
      have h3 := h0.setRow (addAll noR l)
      exact bodyPost_ret (results_rel3 rfl _ _ _ _ rfl h3) rfl ⟨_, rfl, (HX.out).grown h0 ⟨rfl, rfl, rfl, by simp, fun k _ hk => setRow_other wr w.heap.size k _ (fun e => hk (by rw [e]))⟩, below_setRow hb (by omega) _⟩

/-- How many pairs the rows below k have. -/
def cntTo (R : Mat) : Nat → Nat
  | 0 => 0
  | k + 1 => cntTo R k + (lst (mkS (R k))).length
theorem cntTo_le (R : Mat) : ∀ k, cntTo R k ≤ 64 * k
  | 0 => by simp [cntTo]
  | k + 1 => by
    have := cntTo_le R k
    have h : (lst (mkS (R k))).length ≤ 64 := lstTo_len _ 64
    simp only [cntTo]; omega
def allHasTo (R : Mat) (l : List Pr) (k : Nat) : Bool := (l.take k).all fun p => hasR R p.1 p.2
def sameB (R : Mat) (l : List Pr) : Bool := allHasTo R l l.length && decide (cntTo R 64 = l.length)
theorem allHasTo_succ (R : Mat) (l : List Pr) (k : Nat) (hk : k < l.length) : allHasTo R l (k + 1) = (allHasTo R l k && hasR R l[k].1 l[k].2) := by
  unfold allHasTo
  rw [List.take_succ_eq_append_getElem hk, List.all_append]; simp
theorem allHasTo_no (R : Mat) (l : List Pr) (k : Nat) (hk : k < l.length) (h : hasR R l[k].1 l[k].2 = false) : false = sameB R l := by
  unfold sameB allHasTo
  have : ((l.take l.length).all fun p => hasR R p.1 p.2) = false := by
    rw [List.take_length, List.all_eq_false]
    exact ⟨l[k], List.getElem_mem hk, by simp [h]⟩
  rw [this]; rfl
end Go.Proofs.YtjfegknokombgaaDoor
