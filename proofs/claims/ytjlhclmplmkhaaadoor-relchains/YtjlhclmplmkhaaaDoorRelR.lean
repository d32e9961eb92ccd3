/- The walk of the statement on cycles: it answers true. Condition: First's library table lies where it is laid; slices' cells are known. -/
import Derived.Test.YtjlhclmplmkhaaaDoorRelQ
namespace Go.Proofs.YtjlhclmplmkhaaaDoor
open Go.RowKit

theorem Ints.take {w : World} {ao : Option Addr} {n cap : Nat} {l : List Int} (h : Ints w (.slice ao n cap) l) (k : Nat) (hk : k ≤ l.length) (hk0 : ao = none → cap = 0) :
    Ints w (.slice ao k cap) (l.take k) := by
  have hlen : (l.take k).length = k := by simp; omega
  obtain ⟨_, ao', cap', he, hm, hno, hc⟩ := h
  obtain ⟨rfl, rfl, rfl⟩ : ao = ao' ∧ n = l.length ∧ cap = cap' := by simpa using he
  refine ⟨by simp, ao, cap, by rw [hlen], by rw [hlen]; omega, (fun h => ⟨by rw [hlen]; have := hno h; omega, hk0 h⟩), fun hn => ?_⟩
  obtain ⟨b, off, rfl, hcell⟩ := hc (by omega)
  refine ⟨b, off, rfl, fun i hi => ?_⟩
  rw [hcell i (by omega), List.map_take, List.getElem?_take, if_pos (by omega)]
theorem Ints.full {w : World} {v : Value} {l : List Int} (h : Ints w v l) : ∃ ao cap, v = .slice ao l.length cap ∧ (l.length ≤ cap ∧ cap ≤ 9223372036854775807) ∧ (ao = none → l.length = 0 ∧ cap = 0) := by
  obtain ⟨_, ao, cap, rfl, hm, hno, _⟩ := h
  exact ⟨ao, cap, rfl, hm, hno⟩
theorem cyc_edge {R : Mat} {m : List Pr} {C : List Nat} (hR : Rep R m) (h : CycOK R C) {k : Nat} (hk : k < C.length) (hk2 : (k + 1) % C.length < C.length) : hasP m (C[k] : Int) (C[(k + 1) % C.length] : Int) = true := by
  have h1 := h.2.2.2 k hk
  rw [getD_at _ _ hk, getD_at _ _ hk2] at h1
  exact hasP_iff.2 ((hR.2 _ _).2 ⟨C[k], C[(k + 1) % C.length], h.2.2.1 _ (List.getElem_mem _), h.2.2.1 _ (List.getElem_mem _), rfl, rfl, h1⟩)
theorem cyc_new {R : Mat} {C : List Nat} (h : CycOK R C) {k : Nat} (hk : k < C.length) : hasL ((C.map Int.ofNat).take k) (C[k] : Int) = false := by
  cases hh : hasL ((C.map Int.ofNat).take k) (C[k] : Int)
  · rfl
  · exfalso
    have hm := hasL_iff.1 hh
    rw [← List.map_take] at hm
    obtain ⟨x, hx, e⟩ := List.mem_map.1 hm
    have e' : x = C[k] := by have : (x : Int) = (C[k] : Int) := e; omega
    subst e'
    have hn := h.2.1
    have hsplit : C = C.take k ++ C.drop k := (List.take_append_drop k C).symm
    rw [hsplit, List.nodup_append] at hn
    refine hn.2.2 _ hx _ ?_ rfl
    rw [List.mem_drop_iff_getElem]
    exact ⟨0, by simpa using hk, by simp⟩
theorem zero_block (w : World) : RelAt (w.alloc (.cells #[.int .u64 0, .int .u64 0, .int .u64 0, .int .u64 0, .int .u64 0, .int .u64 0, .int .u64 0, .int .u64 0, .int .u64 0, .int .u64 0, .int .u64 0, .int .u64 0, .int .u64 0, .int .u64 0, .int .u64 0, .int .u64 0, .int .u64 0, .int .u64 0, .int .u64 0, .int .u64 0, .int .u64 0, .int .u64 0, .int .u64 0, .int .u64 0, .int .u64 0, .int .u64 0, .int .u64 0, .int .u64 0, .int .u64 0, .int .u64 0, .int .u64 0, .int .u64 0, .int .u64 0, .int .u64 0, .int .u64 0, .int .u64 0, .int .u64 0, .int .u64 0, .int .u64 0, .int .u64 0, .int .u64 0, .int .u64 0, .int .u64 0, .int .u64 0, .int .u64 0, .int .u64 0, .int .u64 0, .int .u64 0, .int .u64 0, .int .u64 0, .int .u64 0, .int .u64 0, .int .u64 0, .int .u64 0, .int .u64 0, .int .u64 0, .int .u64 0, .int .u64 0, .int .u64 0, .int .u64 0, .int .u64 0, .int .u64 0, .int .u64 0, .int .u64 0] 42)) w.heap.size 42 noR :=
  RelAt.made w _ noR rfl (by rw [rowsA_none]; rfl)
theorem zero_below (w : World) (R : Mat) : Below w.heap.size w ((w.alloc (.cells #[.int .u64 0, .int .u64 0, .int .u64 0, .int .u64 0, .int .u64 0, .int .u64 0, .int .u64 0, .int .u64 0, .int .u64 0, .int .u64 0, .int .u64 0, .int .u64 0, .int .u64 0, .int .u64 0, .int .u64 0, .int .u64 0, .int .u64 0, .int .u64 0, .int .u64 0, .int .u64 0, .int .u64 0, .int .u64 0, .int .u64 0, .int .u64 0, .int .u64 0, .int .u64 0, .int .u64 0, .int .u64 0, .int .u64 0, .int .u64 0, .int .u64 0, .int .u64 0, .int .u64 0, .int .u64 0, .int .u64 0, .int .u64 0, .int .u64 0, .int .u64 0, .int .u64 0, .int .u64 0, .int .u64 0, .int .u64 0, .int .u64 0, .int .u64 0, .int .u64 0, .int .u64 0, .int .u64 0, .int .u64 0, .int .u64 0, .int .u64 0, .int .u64 0, .int .u64 0, .int .u64 0, .int .u64 0, .int .u64 0, .int .u64 0, .int .u64 0, .int .u64 0, .int .u64 0, .int .u64 0, .int .u64 0, .int .u64 0, .int .u64 0, .int .u64 0] 42)).setRow w.heap.size (rowsA R)) :=
  below_setRow ((Below.refl _ _).alloc (Nat.le_refl _) _) (Nat.le_refl _) _
set_option maxHeartbeats 4000000 in
theorem cycles_walk (va : Value) (l : List Pr) (w : World) (ht : Tab w) (ha : Prs w va l) :
    Calls Tryd.prog 8 #[va] w fun e w' => e = .returned (.bool true) ∧ Below w.heap.size w w' := by
  have hg := ht.pos
  have HT : Hid (∀ wx, Below w.heap.size w wx → Tab wx) := Lib.hid (fun wx hb => ht.below hb hg)
  clear ht
  obtain ⟨ao, cap, rfl, hal⟩ := ha.form
  by_cases hbig : 40 < l.length
  · go_enter Tryd.func8, Tryd.ntmps8
    go_wp2_with fail
    refine (speaks2_any w (HT.out _ (Below.refl _ _))).mono ?_
    rintro e w1 ⟨rfl, hb1⟩
    go_wp2_with fail
    go_ret
    exact ⟨rfl, hb1⟩
  have hl40 : l.length ≤ 40 := by omega
  clear hbig
  go_enter Tryd.func8, Tryd.ntmps8
  go_wp2_with fail
  refine (speaks2_any w (HT.out _ (Below.refl _ _))).mono ?_
  rintro e w1 ⟨rfl, hb1⟩
  have ha1 := ha.below hb1
  clear ha
  go_wp2_with fail
  refine (of2_any _ l w1 ha1 (by omega)).mono ?_
  rintro e w2 ⟨v2, rfl, hp2, hb2⟩
  have hbb := hb1.trans (hb2.mono hb1.size)
  have HRep := Lib.hid (rep_of l)
  have hml := ofP_len l
  clear ha1 hb1 hb2
  generalize ofP l = m at *
  generalize addAll noR l = R at *
  obtain ⟨mo, mcap, rfl, _⟩ := hp2.form
  have hz := zero_block w2
  have hz2 := hz.setRow R
  have hzb := zero_below w2 R
  have hp3 := hp2.below hzb
  have hb3 := hbb.trans (hzb.mono hbb.size)
  clear hp2 hbb hzb
  go_wp2_with (first
    | (with_reducible refine wpList_store_rel hz R rfl _ _ rfl rfl rfl ?_)
    | (with_reducible refine wpList_load_rel hz2 rfl _ rfl rfl ?_))
  clear hz hz2
  generalize World.setRow _ _ _ = w3 at *
  refine (cycle_any R w3 (HT.out _ hb3)).mono ?_
  rintro e w4 ⟨v4, C, rfl, hI4, hC, hb4⟩
  have hp4 := hp3.below hb4
  have hbb := hb3.trans (hb4.mono hb3.size)
  clear hp3 hb3 hb4
  obtain ⟨co, ccap, rfl, hcl, hcn⟩ := hI4.full
  rw [List.length_map] at hcl hcn
  obtain ⟨hlc, hcm⟩ := hcl
  have hcl : C.length ≤ 9223372036854775807 := Nat.le_trans hlc hcm
  have CA : Hid (Calls Tryd.prog 40 #[.slice mo m.length mcap] w4 fun e w' => e = .returned (.bool (acy R)) ∧ Below w4.heap.size w4 w') := Lib.hid (by
    refine (pacy_any _ m w4 hp4 (by omega)).mono ?_
    rintro e w' ⟨c, rfl, hi, hd, hb⟩
    exact ⟨by rw [acy_rep HRep.out hi hd.out], hb⟩)
  rw [List.length_map]
  rcases hC with ⟨hC0, hac⟩ | ⟨hCok, hac⟩
  · rw [hac] at CA
    have hl0 : C.length ≤ 0 := by rw [hC0]; simp
    have hl0' : ((C.length : Int) == 0) = true := by rw [beq_iff_eq]; omega
    clear hC0 hac
    go_wp2_with fail
    refine (CA.out).mono ?_
    rintro e w5 ⟨rfl, hb5⟩
    have hbb5 := hbb.trans (hb5.mono hbb.size)
    go_wp2_with fail
    refine wp_loop_rounds 1 ?_
    rw [rounds_succ]
    go_wp2_with fail
    go_ret
    exact ⟨rfl, hbb5⟩
  · rw [hac] at CA
    have hlpos : 0 < C.length := List.length_pos_iff.2 hCok.1
    have hl0' : ((C.length : Int) == 0) = false := by rw [beq_eq_false_iff_ne]; omega
    have HOK := Lib.hid hCok
    clear hCok hac
    go_wp2_with fail
    refine (CA.out).mono ?_
    rintro e w5 ⟨rfl, hb5⟩
    have hbb5 := hbb.trans (hb5.mono hbb.size)
    have hI5 := hI4.below hb5
    have hp5 := hp4.below hb5
    clear hI4 hp4 hb5 hbb CA
    go_wp2_with fail
    go_loop [34] (fun i => ∃ k : Nat, k ≤ C.length ∧ i = .int .i64 k) (fun i => C.length - (intOf i).toNat)
    case atStart => exact ⟨0, by omega, rfl⟩
    case round =>
      obtain ⟨k, hk, rfl⟩ := hrel
      by_cases hlt : k < C.length
      · have hki : (k : Int) < (C.length : Int) := by omega
        have hk2 : (k + 1) % C.length < C.length := Nat.mod_lt _ hlpos
        have hmod : ((k : Int) + 1) % (C.length : Int) = (((k + 1) % C.length : Nat) : Int) := by rw [Int.natCast_emod]; rfl
        obtain ⟨p, off, hao, hc⟩ := hI5.at (k := k) (by simpa using hlt)
        obtain ⟨p', off', hao', hc'⟩ := hI5.at (k := (k + 1) % C.length) (by simpa using hk2)
        cases hao
        cases hao'
        rw [List.getElem_map] at hc hc'
        have hT5 := hI5.take k (by simp; omega) (fun h => by cases h)
        have CP := phas_any _ m (C[k] : Int) (C[(k + 1) % C.length] : Int) w5 hp5
        rw [cyc_edge HRep.out HOK.out hlt hk2] at CP
        have CN := rhas_any _ _ (C[k] : Int) w5 hT5
        rw [cyc_new HOK.out hlt] at CN
        have CP' := Lib.hid CP
        have CN' := Lib.hid CN
        clear CP CN hT5
        change World.cell? _ ⟨p, off + k, none⟩ = some (.int .i64 (C[k] : Int)) at hc
        change World.cell? _ ⟨p, off + (k + 1) % C.length, none⟩ = some (.int .i64 (C[(k + 1) % C.length] : Int)) at hc'
        generalize C[(k + 1) % C.length] = y at *
        generalize C[k] = x at *
        generalize (k + 1) % C.length = k2 at *
        have hk2i : (k2 : Int) < (C.length : Int) := by omega
        go_wp2_with fail
        refine (CP'.out).mono ?_
        rintro e w' ⟨rfl, rfl⟩
        go_wp2_with fail
        refine (CN'.out).mono ?_
        rintro e w' ⟨rfl, rfl⟩
        go_wp2_with fail
        go_round
        case rel => exact ⟨k + 1, by omega, by go_num⟩
        case measure => simp [intOf]; omega
      · go_wp2_with fail
        go_ret
        exact ⟨rfl, hbb5⟩
end Go.Proofs.YtjlhclmplmkhaaaDoor
