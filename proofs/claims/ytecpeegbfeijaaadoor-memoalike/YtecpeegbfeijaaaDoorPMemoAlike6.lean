/- Walks and plain facts that the proof of the statement MemoAlike uses, joined: PlaJ PlaK PlaL MemG MemE MemH. Conditions: each theorem's own. -/
import Derived.Deep.AppendLies
import Derived.Deep.QuietTactic
import Derived.BigQuiet
import Derived.Laws.StructEq
import Derived.Test.YtecpeegbfeijaaaDoorPMemoAlike0
import Derived.Test.YtecpeegbfeijaaaDoorPMemoAlike4
import Derived.Test.YtecpeegbfeijaaaDoorPMemoAlike5
namespace Go.Proofs.YtecpeegbfeijaaaDoor
set_option maxRecDepth 100000
open Go.RowKit

section
variable {W : World} {S B b : Nat} {h : List TxnV} {C : Nat} {r : List Nat} {vb vr : Value} {aF sF : Nat → Nat} {w : World}
theorem tryI_nat (h : List TxnV) (C : Nat) (r : List Nat) (i : Nat) : tryI h C r (i : Int) = tryP h C r i := by unfold tryI; rw [Int.toNat_natCast, decide_eq_true (Int.natCast_nonneg i), Bool.true_and]
theorem PlIs.actual (p : PlIs W S B b h C r vb vr aF sF w) (h64 : h.length ≤ 64) {i : Nat} (hb : ∀ j, (baseN h C i).testBit j = true → (plS r).testBit j = true) : wld4 (baseN h C i) (plS r) (rivN h i) C sF aF = nextN h C r i := by
  have hlt : ∀ k ∈ r, k < 64 := fun k hk => by have := p.lt k hk; omega
  refine wld4_congr hb (fun k hk hp => ?_) (fun k j hp hj => ?_)
  · have := p.eq k (plS_mem hlt hp)
    exact ⟨this.2, this.1⟩
  · rw [(p.eq k (plS_mem hlt hp)).2] at hj
    exact ahead_in hlt (sees_ahead hlt p.nd p.base hj)
theorem PlIs.readsEq (p : PlIs W S B b h C r vb vr aF sF w) (hc : checkI h = 0) (hC : C < 9223372036854775808) {i : Nat} (hi : i < h.length) (hb : ∀ j, (baseN h C i).testBit j = true → (plS r).testBit j = true) (s : Nat) : readsP h aF s i = readsP h (aheadL r) s i := by
  have h64 := (check_zero hc).1
  refine readsP_congr fun x hx h0 => ?_
  rcases read_from hc hi hx with e | ⟨n, hn, e, _, _⟩
  · omega
  · have := plS_mem (fun a ha => by have := p.lt a ha; omega) (hb n (from_base hC h64 hi hn hx e))
    rw [e, Int.toNat_natCast]
    exact (p.eq n this).1
theorem PlIs.bcell (p : PlIs W S B b h C r vb vr aF sF w) {i : Nat} (hi : i < h.length) : ∃ gb ob cb, vb = .slice (some ⟨gb, ob, none⟩) h.length cb ∧ w.cell? ⟨gb, ob + i, none⟩ = some (.int .u64 ((baseN h C i : Nat) : Int)) := by
  obtain ⟨hl, ao, cap, e, hm, hno, hcl⟩ := Row.of_owns p.ba
  obtain ⟨g, off, e2, hcell⟩ := hcl (by omega)
  refine ⟨g, off, cap, by rw [e, e2], ?_⟩
  rw [hcell i (by omega), List.getElem?_map, List.getElem?_range hi]; rfl
set_option maxRecDepth 100000 in
set_option maxHeartbeats 16000000 in
theorem ptry_no (p : PlIs W S B b h C r vb vr aF sF w) (hc : checkI h = 0) (hC : C < 9223372036854775808) (i : Int) (hn : tryI h C r i = false) : Calls Tryd.prog 11 #[.pointer (some ⟨S, 0, none⟩), .int .i64 i] w fun e w' => e = .returned (.bool false) ∧ Below w.heap.size w w' := by
  have h64 := (check_zero hc).1
  have n0 := p.a.cO
  have n2 := p.a.cB
  have n4 := p.a.cP
  have nB := p.ord.blk.cN
  by_cases h0 : 0 ≤ i
  rotate_left
  · have h0' : i < 0 := by omega
    have hd : decide (i < 0) = true := decide_eq_true h0'
    clear p hn hc
    go_enter Tryd.func11, Tryd.ntmps11
    go_wp2_with fail
    go_quiet (fail)
    go_wp2_with fail
    go_ret
    exact ⟨rfl, below_drewN (Below.refl _ _) _⟩
  obtain ⟨i, rfl⟩ := Int.eq_ofNat_of_zero_le h0
  rw [tryI_nat] at hn
  have hd0 : decide ((i : Int) < 0) = false := decide_eq_false (by omega)
  by_cases h1 : i < h.length
  rotate_left
  · have h1' : (h.length : Int) ≤ (i : Int) := by omega
    have hd1 : decide ((h.length : Int) ≤ (i : Int)) = true := decide_eq_true h1'
    have hd1n : decide (h.length ≤ i) = true := decide_eq_true (by omega)
    clear p hn hc h0
    go_enter Tryd.func11, Tryd.ntmps11
    go_wp2_with fail
    go_quiet (fail)
    go_wp2_with fail
    go_ret
    exact ⟨rfl, below_drewN (Below.refl _ _) _⟩
  have h1' : ¬ (h.length : Int) ≤ (i : Int) := by omega
  have hd1 : decide ((h.length : Int) ≤ (i : Int)) = false := decide_eq_false h1'
  have hd1n : decide (h.length ≤ i) = false := decide_eq_false (by omega)
  have hi64 : i < 64 := by omega
  have hlt : ∀ k ∈ r, k < 64 := fun k hk => by have := p.lt k hk; omega
  have hps := plS_set r
  have hbs := baseN_set h C i
  have CH := Lib.hid (fun wx => (has_any (plS r) (i : Int) wx hps).mono fun _ _ h => And.intro h.1 h.2.symm)
  have CI := Lib.hid (fun wx => (within_any (baseN h C i) (plS r) wx hbs hps).mono fun _ _ h => And.intro h.1 h.2.symm)
  have hhas : hasB (plS r) (i : Int) = decide (i ∈ r) := by
    unfold hasB
    have : decide (0 ≤ (i : Int) ∧ (i : Int) < 64) = true := by simp; omega
    rw [this, Int.toNat_natCast, plS_bit i r hlt, Bool.true_and]
  rw [hhas] at CH
  obtain ⟨gb, ob, cb, hvb, hcb⟩ := p.bcell h1
  have h1i : (i : Int) < (h.length : Int) := by omega
  have CW := Lib.hid (fun wx (hx : Below w.heap.size w wx) => pwould_any (p.below hx) hc hC i h1)
  have CR := Lib.hid (fun wx (hx : Below w.heap.size w wx) s hs => preads_any (p.below hx) hc i h1 s hs)
  by_cases h2 : i ∈ r
  · rw [decide_eq_true h2] at CH
    clear p hn hc h0 CI CW CR hvb h2 hlt hhas
    generalize plS r = pl at *
    go_enter Tryd.func11, Tryd.ntmps11
    go_wp2_with fail
    go_quiet ((go_at_call 23; exact Calls.quiet_of_same (CH.out _)))
    go_wp2_with fail
    go_ret
    exact ⟨rfl, below_drewN (Below.refl _ _) _⟩
  rw [decide_eq_false h2] at CH
  have hn2 : (inB (baseN h C i) (plS r) && readsP h (aheadL r) (nextN h C r i) i) = false := by
    unfold tryP at hn
    rw [decide_eq_true h1, decide_eq_false h2] at hn
    simpa using hn
  rw [hvb] at n2
  cases h3 : inB (baseN h C i) (plS r) with
  | false =>
    rw [h3] at CI
    clear p hn hc h0 CW CR hvb h3 hn2 h2 hlt hhas
    generalize plS r = pl at *
    generalize baseN h C i = bn at *
    go_enter Tryd.func11, Tryd.ntmps11
    go_wp2_with fail
    go_quiet ((first
      | (go_at_call 23; exact Calls.quiet_of_same (CH.out _))
      | (go_at_call 27; exact Calls.quiet_of_same (CI.out _))))
    go_wp2_with fail
    go_ret
    exact ⟨rfl, below_drewN (Below.refl _ _) _⟩
  | true =>
    rw [h3] at CI hn2
    rw [Bool.true_and] at hn2
    have hb3 := (inB_bits hbs).1 h3
    have e1 := p.actual h64 hb3
    have e2 := p.readsEq hc hC h1 hb3
    rw [e1] at CW
    have hns : IsSet (nextN h C r i) := wld4_set hbs hps (rivN_set h i) (fun k _ => plSee_set h C r k) (fun k _ => aheadL_set r k)
    have CR := Lib.hid (fun wx (hx : Below w.heap.size w wx) => CR.out wx hx _ hns)
    rw [e2, hn2] at CR
    have hb0 := Below.refl w.heap.size w
    clear p hn hc h0 hvb h3 hn2 e1 e2 hb3 hns hps hbs h2 hlt hhas
    generalize plS r = pl at *
    generalize baseN h C i = bn at *
    generalize nextN h C r i = sn at *
    go_enter Tryd.func11, Tryd.ntmps11
    go_wp2_with fail
    go_quiet ((first
      | (go_at_call 23; exact Calls.quiet_of_same (CH.out _))
      | (go_at_call 27; exact Calls.quiet_of_same (CI.out _))))
    have hb1 := below_drewN hb0 nq
    generalize w.drewN nq = w1 at *
    go_wp2_with fail
    refine (CW.out _ hb1).mono ?_
    rintro e w2 ⟨rfl, h2⟩
    have hb2 := below_then hb1 h2
    go_wp2_with fail
    refine (CR.out _ hb2).mono ?_
    rintro e w3 ⟨rfl, h3⟩
    have hb3 := below_then hb2 h3
    go_wp2_with fail
    go_ret
    exact ⟨rfl, hb3⟩
end
end Go.Proofs.YtecpeegbfeijaaaDoor

namespace Go.Proofs.YtecpeegbfeijaaaDoor
set_option maxRecDepth 100000
open Go.RowKit

theorem lit_newI (w : World) (x : Value) (t : TypeId) : ∀ j u, [x][j]? = some u → (w.alloc (.cells #[x] t)).cell? ((⟨w.heap.size, 0, none⟩ : Addr).add j) = some u := fun j u hu => by
  match j, hu with
  | 0, hu =>
    simp at hu; subst hu
    rw [Addr.add_lit, Nat.add_zero, cell_of_row _ _ _ _ _ _ (heap_alloc_new w _)]; rfl
  | j + 1, hu => simp at hu
section
variable {W : World} {S B b : Nat} {h : List TxnV} {C : Nat} {r : List Nat} {vb vr : Value} {aF sF : Nat → Nat} {w : World}
set_option maxRecDepth 100000 in
set_option maxHeartbeats 16000000 in
theorem ptry_yes (p : PlIs W S B b h C r vb vr aF sF w) (hc : checkI h = 0) (hC : C < 9223372036854775808) (i : Nat) (hn : tryP h C r i = true) : Calls Tryd.prog 11 #[.pointer (some ⟨S, 0, none⟩), .int .i64 i] w fun e w' => e = .returned (.bool true) ∧ ∃ vr' aF' sF', PlIs W S B b h C (i :: r) vb vr' aF' sF' w' ∧ PlStep S vr vr' w w' := by
  have h64 := (check_zero hc).1
  have n0 := p.a.cO
  have n2 := p.a.cB
  have n4 := p.a.cP
  have nB := p.ord.blk.cN
  have hn2 := hn
  unfold tryP at hn2
  simp only [Bool.and_eq_true, decide_eq_true_eq, Bool.not_eq_true', decide_eq_false_iff_not] at hn2
  obtain ⟨h1, h2, h3, h4⟩ := hn2
  have hd0 : decide ((i : Int) < 0) = false := decide_eq_false (by omega)
  have h1' : ¬ (h.length : Int) ≤ (i : Int) := by omega
  have hd1 : decide ((h.length : Int) ≤ (i : Int)) = false := decide_eq_false h1'
  have hd1n : decide (h.length ≤ i) = false := decide_eq_false (by omega)
  have hi64 : i < 64 := by omega
  have hi64i : (i : Int) < 64 := by omega
  have hlt : ∀ k ∈ r, k < 64 := fun k hk => by have := p.lt k hk; omega
  have hps := plS_set r
  have hbs := baseN_set h C i
  have CH := Lib.hid (fun wx => (has_any (plS r) (i : Int) wx hps).mono fun _ _ h => And.intro h.1 h.2.symm)
  have CI := Lib.hid (fun wx => (within_any (baseN h C i) (plS r) wx hbs hps).mono fun _ _ h => And.intro h.1 h.2.symm)
  have hhas : hasB (plS r) (i : Int) = decide (i ∈ r) := by
    unfold hasB
    have : decide (0 ≤ (i : Int) ∧ (i : Int) < 64) = true := by simp; omega
    rw [this, Int.toNat_natCast, plS_bit i r hlt, Bool.true_and]
  rw [hhas, decide_eq_false h2] at CH
  rw [h3] at CI
  obtain ⟨gb, ob, cb, hvb, hcb⟩ := p.bcell h1
  have h1i : (i : Int) < (h.length : Int) := by omega
  have CW := Lib.hid (fun wx (hx : Below w.heap.size w wx) => pwould_any (p.below hx) hc hC i h1)
  have hb3 := (inB_bits hbs).1 h3
  have e2 := p.readsEq hc hC h1 hb3
  rw [p.actual h64 hb3] at CW
  have hns : IsSet (nextN h C r i) := wld4_set hbs hps (rivN_set h i) (fun k _ => plSee_set h C r k) (fun k _ => aheadL_set r k)
  have CR := Lib.hid (fun wx (hx : Below w.heap.size w wx) => preads_any (p.below hx) hc i h1 _ hns)
  rw [e2, h4] at CR
  have CWT : Hid (∀ wx, Calls Tryd.prog 30 #[.int .u64 ((plS r : Nat) : Int), .int .i64 i] wx fun e w' => e = .returned (.int .u64 ((plS (i :: r) : Nat) : Int)) ∧ wx = w') := Lib.hid (fun wx => with_any (plS r) (i : Int) wx hps)
  obtain ⟨i0, hi0, hz0, hz1, hz2⟩ := info_parts infoInt
  have hlen := p.len
  have HR := Lib.hid (fun wx (hx : Below w.heap.size w wx) => p.raw.below hx)
  have HD := Lib.hid (fun (w4 w5 : World) (q : PlRaw W S B C h r vb vr (updN aF i (plS r)) (updN sF i (nextN h C r i)) w w4) (g cap : Nat) hown hg hl => PlIs.done p (i := i) (g := g) (cap := cap) (w5 := w5) h1 h2 hb3 h64 rfl q hown hg hl)
  have HNE := Lib.hid p.ne
  have hvr : ∃ va vc, vr = .slice va r.length vc := p.form
  rw [hvb] at n2
  have hb0 := Below.refl w.heap.size w
  clear p hn hc h3 h4 e2 hb3 hns hps hbs hlt hhas hvb
  go_enter Tryd.func11, Tryd.ntmps11
  go_wp2_with fail
  go_quiet ((first
    | (go_at_call 23; exact Calls.quiet_of_same (CH.out _))
    | (go_at_call 27; exact Calls.quiet_of_same (CI.out _))))
  have hb1 := below_drewN hb0 nq
  generalize w.drewN nq = w1 at *
  clear n0 n2 n4 nB hcb
  go_wp2_with fail
  refine (CW.out _ hb1).mono ?_
  rintro e w2 ⟨rfl, h2⟩
  have hb2 := below_then hb1 h2
  go_wp2_with fail
  refine (CR.out _ hb2).mono ?_
  rintro e w3 ⟨rfl, h3⟩
  have hb3 := below_then hb2 h3
  clear CH CI CW CR hb0 hb1 hb2 h2 h3
  go_upto_region 6 with fail
  have kd := hb3.drew
  generalize nextN h C r i = sn at *
  refine wp_region_held_drew (S := fun wx => wx.cell? ⟨S, 4, none⟩ = some (.int .u64 ((plS r : Nat) : Int))) (by kernel_rfl) (HR.out _ kd).a.cP (fun hS0 => ?_)
  generalize w3.drew = wd at *
  refine takeG (some 50) (i := 0) (v := ?vta0x1) rfl rfl (by kernel_rfl) (by kernel_rfl) (by kernel_rfl) (fun _ _ _ h => h) (Or.inl ⟨by rfl, ?hta0x1⟩) hS0 ?rta0x1
  case hta0x1 => (intro w hw; go_simp; try (with_reducible rfl))
  try simp only [Act.put, List.setIfInBounds_toArray, List.set_cons_zero, List.set_cons_succ]
  refine takeG (some 51) (i := 1) (v := ?vta1x2) rfl rfl (by kernel_rfl) (by kernel_rfl) (by kernel_rfl) (fun _ _ _ h => h) (Or.inl ⟨by rfl, ?hta1x2⟩) hS0 ?rta1x2
  case hta1x2 => (intro w hw; go_simp; try (with_reducible rfl))
  try simp only [Act.put, List.setIfInBounds_toArray, List.set_cons_zero, List.set_cons_succ]
  refine takeG (some 52) (i := 2) (v := ?vta2x3) rfl rfl (by kernel_rfl) (by kernel_rfl) (by kernel_rfl) (fun _ _ _ h => h) (Or.inl ⟨by rfl, ?hta2x3⟩) hS0 ?rta2x3
  case hta2x3 => (intro w hw; go_simp; try (with_reducible rfl))
  try simp only [Act.put, List.setIfInBounds_toArray, List.set_cons_zero, List.set_cons_succ]
  refine takeG (some 53) (i := 3) (v := ?vta3x4) rfl rfl (by kernel_rfl) (by kernel_rfl) (by kernel_rfl) (fun _ _ _ h => h) (Or.inl ⟨by rfl, ?hta3x4⟩) hS0 ?rta3x4
  case hta3x4 => (intro w hw; go_simp; try (with_reducible rfl))
  try simp only [Act.put, List.setIfInBounds_toArray, List.set_cons_zero, List.set_cons_succ]
  refine takeG (some 54) (i := 4) (v := ?vta4x5) rfl rfl (by kernel_rfl) (by kernel_rfl) (by kernel_rfl) (fun _ _ _ h => h) (Or.inl ⟨by rfl, ?hta4x5⟩) hS0 ?rta4x5
  case hta4x5 => (intro w hw; go_simp; try (with_reducible rfl))
  try simp only [Act.put, List.setIfInBounds_toArray, List.set_cons_zero, List.set_cons_succ]
  refine takeG (some 55) (i := 5) (v := ?vta5x6) rfl rfl (by kernel_rfl) (by kernel_rfl) (by kernel_rfl) (fun _ _ _ h => h) (Or.inl ⟨by rfl, ?hta5x6⟩) hS0 ?rta5x6
  case hta5x6 => (intro w hw; go_simp; try (with_reducible rfl))
  try simp only [Act.put, List.setIfInBounds_toArray, List.set_cons_zero, List.set_cons_succ]
  refine takeG (some 56) (i := 6) (v := ?vta6x7) rfl rfl (by kernel_rfl) (by kernel_rfl) (by kernel_rfl) (fun _ _ _ h => h) (Or.inl ⟨by rfl, ?hta6x7⟩) hS0 ?rta6x7
  case hta6x7 => (intro w hw; go_simp; try (with_reducible rfl))
  try simp only [Act.put, List.setIfInBounds_toArray, List.set_cons_zero, List.set_cons_succ]
  refine takeG (some 57) (i := 7) (v := ?vta7x8) rfl rfl (by kernel_rfl) (by kernel_rfl) (by kernel_rfl) (fun _ _ _ h => h) (Or.inl ⟨by rfl, ?hta7x8⟩) hS0 ?rta7x8
  case hta7x8 => (intro w hw; go_simp; try (with_reducible rfl))
  try simp only [Act.put, List.setIfInBounds_toArray, List.set_cons_zero, List.set_cons_succ]
  refine takeG (some 58) (i := 8) (v := ?vta8x9) rfl rfl (by kernel_rfl) (by kernel_rfl) (by kernel_rfl) (fun _ _ _ h => h) (Or.inl ⟨by rfl, ?hta8x9⟩) hS0 ?rta8x9
  case hta8x9 => (intro w hw; go_simp; try (with_reducible rfl))
  try simp only [Act.put, List.setIfInBounds_toArray, List.set_cons_zero, List.set_cons_succ]
  refine takeG (some 59) (i := 9) (v := ?vta9x10) rfl rfl (by kernel_rfl) (by kernel_rfl) (by kernel_rfl) (fun _ _ _ h => h) (Or.inl ⟨by rfl, ?hta9x10⟩) hS0 ?rta9x10
  case hta9x10 => (intro w hw; go_simp; try (with_reducible rfl))
  try simp only [Act.put, List.setIfInBounds_toArray, List.set_cons_zero, List.set_cons_succ]
  refine takeG (some 60) (i := 10) (v := ?vta10x11) rfl rfl (by kernel_rfl) (by kernel_rfl) (by kernel_rfl) (fun _ _ _ h => h) (Or.inl ⟨by rfl, ?hta10x11⟩) hS0 ?rta10x11
  case hta10x11 => (intro w hw; go_simp; try (with_reducible rfl))
  try simp only [Act.put, List.setIfInBounds_toArray, List.set_cons_zero, List.set_cons_succ]
  refine takeG (some 61) (i := 11) (v := ?vta11x12) rfl rfl (by kernel_rfl) (by kernel_rfl) (by kernel_rfl) (fun _ _ _ h => h) (Or.inl ⟨by rfl, ?hta11x12⟩) hS0 ?rta11x12
  case hta11x12 => (intro w hw; go_simp; try (with_reducible rfl))
  try simp only [Act.put, List.setIfInBounds_toArray, List.set_cons_zero, List.set_cons_succ]
  refine takeG (some 62) (i := 13) (v := ?vta13x13) rfl rfl (by kernel_rfl) (by kernel_rfl) (by kernel_rfl) (fun _ _ _ h => h) (Or.inl ⟨by rfl, ?hta13x13⟩) hS0 ?rta13x13
  case hta13x13 => (intro w hw; go_simp; try (with_reducible rfl))
  try simp only [Act.put, List.setIfInBounds_toArray, List.set_cons_zero, List.set_cons_succ]
  refine takeG (some 63) (i := 14) (v := ?vta14x14) rfl rfl (by kernel_rfl) (by kernel_rfl) (by kernel_rfl) (fun _ _ _ h => h) (Or.inl ⟨by rfl, ?hta14x14⟩) hS0 ?rta14x14
  case hta14x14 => (intro w hw; go_simp; try (with_reducible rfl))
  try simp only [Act.put, List.setIfInBounds_toArray, List.set_cons_zero, List.set_cons_succ]
  refine wpAnyH_ready (rs := [12]) (by kernel_rfl) (by simp) ?_
  refine AllReadyH.cons rfl (fun K hK => ?_) AllReadyH.nil
  have R1 := (HR.out _ kd).setA hi64 (plS r)
  have hc := (HR.out _ kd).a.cA hi64
  have hf := (HR.out _ kd).a.free (i := 5 + i) (by omega)
  go_simp
  have sA := R1.a.cP
  refine hK.out _ _ sA (fun _ => ?_)
  clear hK K hc hf
  refine takeG (some 64) (i := 15) (v := ?vta15x16) rfl rfl (by kernel_rfl) (by kernel_rfl) (by kernel_rfl) (fun _ _ _ h => h) (Or.inl ⟨by rfl, ?hta15x16⟩) sA ?rta15x16
  case hta15x16 => (intro w hw; go_simp; try (with_reducible rfl))
  try simp only [Act.put, List.setIfInBounds_toArray, List.set_cons_zero, List.set_cons_succ]
  refine wpAnyH_ready (rs := [16]) (by kernel_rfl) (by simp) ?_
  refine AllReadyH.cons rfl (fun K hK => ?_) AllReadyH.nil
  have R2 := R1.setS hi64 sn
  have hc := R1.a.cS hi64
  have hf := R1.a.free (i := 69 + i) (by omega)
  go_simp
  have sB := R2.a.cP
  refine hK.out _ _ sB (fun _ => ?_)
  clear hK K hc hf R1
  refine wpAnyH_done (by kernel_rfl) ?_ _
  generalize (wd.setCell ⟨S, 5 + i, none⟩ (.int .u64 ((plS r : Nat) : Int))).setCell ⟨S, 69 + i, none⟩ (.int .u64 (sn : Int)) = w4 at *
  clear HR kd hb3 hS0 sA sB
  go_upto_region 7 with fail
  have kd := (Below.refl w4.heap.size w4).drew
  refine wp_region_held_drew (S := fun _ => True) (by kernel_rfl) trivial (fun hS0 => ?_)
  generalize w4.drew = wd at *
  have Rd := R2.below kd
  obtain ⟨va, vc, rfl⟩ := hvr
  refine takeG (some 65) (i := 0) (v := ?vtb0x1) rfl rfl (by kernel_rfl) (by kernel_rfl) (by kernel_rfl) (fun _ _ _ h => h) (Or.inl ⟨by rfl, ?htb0x1⟩) hS0 ?rtb0x1
  case htb0x1 => (intro w _; go_simp; try (with_reducible rfl))
  try simp only [Act.put, List.setIfInBounds_toArray, List.set_cons_zero, List.set_cons_succ]
  refine takeG (some 66) (i := 1) (v := ?vtb1x2) rfl rfl (by kernel_rfl) (by kernel_rfl) (by kernel_rfl) (fun _ _ _ h => h) (Or.inl ⟨by rfl, ?htb1x2⟩) hS0 ?rtb1x2
  case htb1x2 => (intro w _; go_simp; try (with_reducible rfl))
  try simp only [Act.put, List.setIfInBounds_toArray, List.set_cons_zero, List.set_cons_succ]
  refine takeG (some 67) (i := 2) (v := ?vtb2x3) rfl rfl (by kernel_rfl) (by kernel_rfl) (by kernel_rfl) (fun _ _ _ h => h) (Or.inl ⟨by rfl, ?htb2x3⟩) hS0 ?rtb2x3
  case htb2x3 => (intro w _; go_simp; try (with_reducible rfl))
  try simp only [Act.put, List.setIfInBounds_toArray, List.set_cons_zero, List.set_cons_succ]
  refine takeG (some 68) (i := 3) (v := ?vtb3x4) rfl rfl (by kernel_rfl) (by kernel_rfl) (by kernel_rfl) (fun _ _ _ h => h) (Or.inl ⟨by rfl, ?htb3x4⟩) hS0 ?rtb3x4
  case htb3x4 => (intro w _; go_simp; try (with_reducible rfl))
  try simp only [Act.put, List.setIfInBounds_toArray, List.set_cons_zero, List.set_cons_succ]
  refine takeG (some 69) (i := 4) (v := ?vtb4x5) rfl rfl (by kernel_rfl) (by kernel_rfl) (by kernel_rfl) (fun _ _ _ h => h) (Or.inl ⟨by rfl, ?htb4x5⟩) hS0 ?rtb4x5
  case htb4x5 => (intro w _; go_simp; try (with_reducible rfl))
  try simp only [Act.put, List.setIfInBounds_toArray, List.set_cons_zero, List.set_cons_succ]
  refine takeG (some 71) (i := 6) (v := ?vtb6x6) rfl rfl (by kernel_rfl) (by kernel_rfl) (by kernel_rfl) (fun _ _ _ h => h) (Or.inl ⟨by rfl, ?htb6x6⟩) hS0 ?rtb6x6
  case htb6x6 => (intro w _; go_simp; try (with_reducible rfl))
  try simp only [Act.put, List.setIfInBounds_toArray, List.set_cons_zero, List.set_cons_succ]
  refine takeG (some 74) (i := 9) (v := ?vtb9x7) rfl rfl (by kernel_rfl) (by kernel_rfl) (by kernel_rfl) (fun _ _ _ h => h) (Or.inl ⟨by rfl, ?htb9x7⟩) hS0 ?rtb9x7
  case htb9x7 => (intro w _; go_simp; try (with_reducible rfl))
  try simp only [Act.put, List.setIfInBounds_toArray, List.set_cons_zero, List.set_cons_succ]
  refine takeG (some 75) (i := 10) (v := ?vtb10x8) rfl rfl (by kernel_rfl) (by kernel_rfl) (by kernel_rfl) (fun _ _ _ h => h) (Or.inl ⟨by rfl, ?htb10x8⟩) hS0 ?rtb10x8
  case htb10x8 => (intro w _; go_simp; try (with_reducible rfl))
  try simp only [Act.put, List.setIfInBounds_toArray, List.set_cons_zero, List.set_cons_succ]
  refine takeG (some 76) (i := 11) (v := ?vtb11x9) rfl rfl (by kernel_rfl) (by kernel_rfl) (by kernel_rfl) (fun _ _ _ h => h) (Or.inl ⟨by rfl, ?htb11x9⟩) hS0 ?rtb11x9
  case htb11x9 => (intro w _; go_simp; try (with_reducible rfl))
  try simp only [Act.put, List.setIfInBounds_toArray, List.set_cons_zero, List.set_cons_succ]
  refine takeG (some 78) (i := 13) (v := ?vtb13x10) rfl rfl (by kernel_rfl) (by kernel_rfl) (by kernel_rfl) (fun _ _ _ h => h) (Or.inl ⟨by rfl, ?htb13x10⟩) hS0 ?rtb13x10
  case htb13x10 => (intro w _; go_simp; try (with_reducible rfl))
  try simp only [Act.put, List.setIfInBounds_toArray, List.set_cons_zero, List.set_cons_succ]
  refine wpAnyH_ready (rs := [5, 7, 12]) (by kernel_rfl) (by simp) ?_
  refine AllReadyH.cons rfl (fun K hK => ?_) (AllReadyH.cons rfl (fun K hK => ?_) (AllReadyH.cons rfl (fun K hK => ?_) AllReadyH.nil))
  ·
    have hc11 := Rd.a.cR
    go_simp
    refine hK.out _ _ trivial (fun _ => ?_)
    clear hK K hc11
    refine wpAnyH_ready (rs := [7, 12]) (by kernel_rfl) (by simp) ?_
    refine AllReadyH.cons rfl (fun K hK => ?_) (AllReadyH.cons rfl (fun K hK => ?_) AllReadyH.nil)
    ·
      go_simp
      have R12 := Rd.below (box_below wd (.cells #[.int .i64 (i : Int)] 3))
      refine hK.out _ _ trivial (fun _ => ?_)
      clear hK K
      refine wpAnyH_ready (rs := [8, 12]) (by kernel_rfl) (by simp) ?_
      refine AllReadyH.cons rfl (fun K hK => ?_) (AllReadyH.cons rfl (fun K hK => ?_) AllReadyH.nil)
      ·
        refine step_append_lies _ rfl (.tmp 70) (.tmp 72) 26 rfl (S + 1) 3 i0 (.int .i64 0) 1 8 Tryd.underlying26 hi0 hz0 hz1 hz2 rfl (by decide) (.slice va r.length vc) r.length _ (by simp [Act.eval]) R12.rw ⟨wd.heap.size, 0, none⟩ 1 1 [.int .i64 (i : Int)] (by simp [Act.eval]) rfl (lit_newI _ _ _) (by intro u hu; simp at hu; subst hu; rfl) (by decide) (by unfold maxLen; omega) (by omega) (by have := R12.a.lt; omega) _ rfl ?_
        intro g5 c5 w5 hown5 hg5 hl5 _
        obtain ⟨_, a5, _, _, _⟩ := R12.app HNE.out hown5 hg5 hl5
        have fin := HD.out _ _ R12 _ _ hown5 hg5 hl5
        refine hK.out _ _ trivial (fun _ => ?_)
        clear hK K hown5 hg5 hl5
        try simp only [Act.put, List.setIfInBounds_toArray]
        refine wpAnyH_ready (rs := [12]) (by kernel_rfl) (by simp) ?_
        refine AllReadyH.cons rfl (fun K hK => ?_) AllReadyH.nil
        have hc14 := a5.cP
        go_simp
        refine hK.out _ _ trivial (fun _ => ?_)
        clear hK K hc14
        refine wpAnyH_ready (rs := [14]) (by kernel_rfl) (by simp) ?_
        refine AllReadyH.cons rfl (fun K hK => ?_) AllReadyH.nil
        go_simp
        refine (CWT.out _).mono ?_
        rintro e y15 ⟨rfl, rfl⟩
        show K _ _
        refine hK.out _ _ trivial (fun _ => ?_)
        clear hK K
        refine takeG (some 80) (i := 15) (v := ?vtb15x16) rfl rfl (by kernel_rfl) (by kernel_rfl) (by kernel_rfl) (fun _ _ _ h => h) (Or.inl ⟨by rfl, ?htb15x16⟩) hS0 ?rtb15x16
        case htb15x16 => (intro w _; go_simp; try (with_reducible rfl))
        try simp only [Act.put, List.setIfInBounds_toArray, List.set_cons_zero, List.set_cons_succ]
        refine takeG (some 81) (i := 16) (v := ?vtb16x17) rfl rfl (by kernel_rfl) (by kernel_rfl) (by kernel_rfl) (fun _ _ _ h => h) (Or.inl ⟨by rfl, ?htb16x17⟩) hS0 ?rtb16x17
        case htb16x17 => (intro w _; go_simp; try (with_reducible rfl))
        try simp only [Act.put, List.setIfInBounds_toArray, List.set_cons_zero, List.set_cons_succ]
        refine wpAnyH_ready (rs := [17]) (by kernel_rfl) (by simp) ?_
        refine AllReadyH.cons rfl (fun K hK => ?_) AllReadyH.nil
        have c3 := a5.cR
        have f3 := a5.free (i := 3) (by omega)
        go_simp
        refine hK.out _ _ trivial (fun _ => ?_)
        clear hK K c3 f3
        refine takeG (some 82) (i := 18) (v := ?vtb18x19) rfl rfl (by kernel_rfl) (by kernel_rfl) (by kernel_rfl) (fun _ _ _ h => h) (Or.inl ⟨by rfl, ?htb18x19⟩) hS0 ?rtb18x19
        case htb18x19 => (intro w _; go_simp; try (with_reducible rfl))
        try simp only [Act.put, List.setIfInBounds_toArray, List.set_cons_zero, List.set_cons_succ]
        refine takeG (some 83) (i := 19) (v := ?vtb19x20) rfl rfl (by kernel_rfl) (by kernel_rfl) (by kernel_rfl) (fun _ _ _ h => h) (Or.inl ⟨by rfl, ?htb19x20⟩) hS0 ?rtb19x20
        case htb19x20 => (intro w _; go_simp; try (with_reducible rfl))
        try simp only [Act.put, List.setIfInBounds_toArray, List.set_cons_zero, List.set_cons_succ]
        refine wpAnyH_ready (rs := [20]) (by kernel_rfl) (by simp) ?_
        refine AllReadyH.cons rfl (fun K hK => ?_) AllReadyH.nil
        have f4 := a5.free (i := 4) (by omega)
        have n4 := a5.cP
        have q4 : (World.setCell w5 ⟨S, 3, none⟩ (.slice (some ⟨g5, 0, none⟩) (r.length + 1) c5)).cell? ⟨S, 4, none⟩ = some (.int .u64 ((plS r : Nat) : Int)) := by rw [World.cell?_setCell_other _ _ _ _ (by simp)]; exact n4
        go_simp
        refine hK.out _ _ trivial (fun _ => ?_)
        clear hK K q4 n4 f4
        refine wpAnyH_done (by kernel_rfl) ?_ _
        go_wp2_with fail
        go_ret
        exact ⟨rfl, _, _, _, fin.1, fin.2⟩
      ·
        have hc22 := R12.a.cP
        go_simp
        refine hK.out _ _ trivial (fun _ => ?_)
        clear hK K hc22
        refine wpAnyH_ready (rs := [8]) (by kernel_rfl) (by simp) ?_
        refine AllReadyH.cons rfl (fun K hK => ?_) AllReadyH.nil
        refine step_append_lies _ rfl (.tmp 70) (.tmp 72) 26 rfl (S + 1) 3 i0 (.int .i64 0) 1 8 Tryd.underlying26 hi0 hz0 hz1 hz2 rfl (by decide) (.slice va r.length vc) r.length _ (by simp [Act.eval]) R12.rw ⟨wd.heap.size, 0, none⟩ 1 1 [.int .i64 (i : Int)] (by simp [Act.eval]) rfl (lit_newI _ _ _) (by intro u hu; simp at hu; subst hu; rfl) (by decide) (by unfold maxLen; omega) (by omega) (by have := R12.a.lt; omega) _ rfl ?_
        intro g5 c5 w5 hown5 hg5 hl5 _
        obtain ⟨_, a5, _, _, _⟩ := R12.app HNE.out hown5 hg5 hl5
        have fin := HD.out _ _ R12 _ _ hown5 hg5 hl5
        refine hK.out _ _ trivial (fun _ => ?_)
        clear hK K hown5 hg5 hl5
        try simp only [Act.put, List.setIfInBounds_toArray]
        refine wpAnyH_ready (rs := [14]) (by kernel_rfl) (by simp) ?_
        refine AllReadyH.cons rfl (fun K hK => ?_) AllReadyH.nil
        go_simp
        refine (CWT.out _).mono ?_
        rintro e y24 ⟨rfl, rfl⟩
        show K _ _
        refine hK.out _ _ trivial (fun _ => ?_)
        clear hK K
        refine takeG (some 80) (i := 15) (v := ?vtb15x25) rfl rfl (by kernel_rfl) (by kernel_rfl) (by kernel_rfl) (fun _ _ _ h => h) (Or.inl ⟨by rfl, ?htb15x25⟩) hS0 ?rtb15x25
        case htb15x25 => (intro w _; go_simp; try (with_reducible rfl))
        try simp only [Act.put, List.setIfInBounds_toArray, List.set_cons_zero, List.set_cons_succ]
        refine takeG (some 81) (i := 16) (v := ?vtb16x26) rfl rfl (by kernel_rfl) (by kernel_rfl) (by kernel_rfl) (fun _ _ _ h => h) (Or.inl ⟨by rfl, ?htb16x26⟩) hS0 ?rtb16x26
        case htb16x26 => (intro w _; go_simp; try (with_reducible rfl))
        try simp only [Act.put, List.setIfInBounds_toArray, List.set_cons_zero, List.set_cons_succ]
        refine wpAnyH_ready (rs := [17]) (by kernel_rfl) (by simp) ?_
        refine AllReadyH.cons rfl (fun K hK => ?_) AllReadyH.nil
        have c3 := a5.cR
        have f3 := a5.free (i := 3) (by omega)
        go_simp
        refine hK.out _ _ trivial (fun _ => ?_)
        clear hK K c3 f3
        refine takeG (some 82) (i := 18) (v := ?vtb18x28) rfl rfl (by kernel_rfl) (by kernel_rfl) (by kernel_rfl) (fun _ _ _ h => h) (Or.inl ⟨by rfl, ?htb18x28⟩) hS0 ?rtb18x28
        case htb18x28 => (intro w _; go_simp; try (with_reducible rfl))
        try simp only [Act.put, List.setIfInBounds_toArray, List.set_cons_zero, List.set_cons_succ]
        refine takeG (some 83) (i := 19) (v := ?vtb19x29) rfl rfl (by kernel_rfl) (by kernel_rfl) (by kernel_rfl) (fun _ _ _ h => h) (Or.inl ⟨by rfl, ?htb19x29⟩) hS0 ?rtb19x29
        case htb19x29 => (intro w _; go_simp; try (with_reducible rfl))
        try simp only [Act.put, List.setIfInBounds_toArray, List.set_cons_zero, List.set_cons_succ]
        refine wpAnyH_ready (rs := [20]) (by kernel_rfl) (by simp) ?_
        refine AllReadyH.cons rfl (fun K hK => ?_) AllReadyH.nil
        have f4 := a5.free (i := 4) (by omega)
        have n4 := a5.cP
        have q4 : (World.setCell w5 ⟨S, 3, none⟩ (.slice (some ⟨g5, 0, none⟩) (r.length + 1) c5)).cell? ⟨S, 4, none⟩ = some (.int .u64 ((plS r : Nat) : Int)) := by rw [World.cell?_setCell_other _ _ _ _ (by simp)]; exact n4
        go_simp
        refine hK.out _ _ trivial (fun _ => ?_)
        clear hK K q4 n4 f4
        refine wpAnyH_done (by kernel_rfl) ?_ _
        go_wp2_with fail
        go_ret
        exact ⟨rfl, _, _, _, fin.1, fin.2⟩
    ·
      have hc31 := Rd.a.cP
      go_simp
      refine hK.out _ _ trivial (fun _ => ?_)
      clear hK K hc31
      refine wpAnyH_ready (rs := [7]) (by kernel_rfl) (by simp) ?_
      refine AllReadyH.cons rfl (fun K hK => ?_) AllReadyH.nil
      go_simp
      have R32 := Rd.below (box_below wd (.cells #[.int .i64 (i : Int)] 3))
      refine hK.out _ _ trivial (fun _ => ?_)
      clear hK K
      refine wpAnyH_ready (rs := [8]) (by kernel_rfl) (by simp) ?_
      refine AllReadyH.cons rfl (fun K hK => ?_) AllReadyH.nil
      refine step_append_lies _ rfl (.tmp 70) (.tmp 72) 26 rfl (S + 1) 3 i0 (.int .i64 0) 1 8 Tryd.underlying26 hi0 hz0 hz1 hz2 rfl (by decide) (.slice va r.length vc) r.length _ (by simp [Act.eval]) R32.rw ⟨wd.heap.size, 0, none⟩ 1 1 [.int .i64 (i : Int)] (by simp [Act.eval]) rfl (lit_newI _ _ _) (by intro u hu; simp at hu; subst hu; rfl) (by decide) (by unfold maxLen; omega) (by omega) (by have := R32.a.lt; omega) _ rfl ?_
      intro g5 c5 w5 hown5 hg5 hl5 _
      obtain ⟨_, a5, _, _, _⟩ := R32.app HNE.out hown5 hg5 hl5
      have fin := HD.out _ _ R32 _ _ hown5 hg5 hl5
      refine hK.out _ _ trivial (fun _ => ?_)
      clear hK K hown5 hg5 hl5
      try simp only [Act.put, List.setIfInBounds_toArray]
      refine wpAnyH_ready (rs := [14]) (by kernel_rfl) (by simp) ?_
      refine AllReadyH.cons rfl (fun K hK => ?_) AllReadyH.nil
      go_simp
      refine (CWT.out _).mono ?_
      rintro e y34 ⟨rfl, rfl⟩
      show K _ _
      refine hK.out _ _ trivial (fun _ => ?_)
      clear hK K
      refine takeG (some 80) (i := 15) (v := ?vtb15x35) rfl rfl (by kernel_rfl) (by kernel_rfl) (by kernel_rfl) (fun _ _ _ h => h) (Or.inl ⟨by rfl, ?htb15x35⟩) hS0 ?rtb15x35
      case htb15x35 => (intro w _; go_simp; try (with_reducible rfl))
      try simp only [Act.put, List.setIfInBounds_toArray, List.set_cons_zero, List.set_cons_succ]
      refine takeG (some 81) (i := 16) (v := ?vtb16x36) rfl rfl (by kernel_rfl) (by kernel_rfl) (by kernel_rfl) (fun _ _ _ h => h) (Or.inl ⟨by rfl, ?htb16x36⟩) hS0 ?rtb16x36
      case htb16x36 => (intro w _; go_simp; try (with_reducible rfl))
      try simp only [Act.put, List.setIfInBounds_toArray, List.set_cons_zero, List.set_cons_succ]
      refine wpAnyH_ready (rs := [17]) (by kernel_rfl) (by simp) ?_
      refine AllReadyH.cons rfl (fun K hK => ?_) AllReadyH.nil
      have c3 := a5.cR
      have f3 := a5.free (i := 3) (by omega)
      go_simp
      refine hK.out _ _ trivial (fun _ => ?_)
      clear hK K c3 f3
      refine takeG (some 82) (i := 18) (v := ?vtb18x38) rfl rfl (by kernel_rfl) (by kernel_rfl) (by kernel_rfl) (fun _ _ _ h => h) (Or.inl ⟨by rfl, ?htb18x38⟩) hS0 ?rtb18x38
      case htb18x38 => (intro w _; go_simp; try (with_reducible rfl))
      try simp only [Act.put, List.setIfInBounds_toArray, List.set_cons_zero, List.set_cons_succ]
      refine takeG (some 83) (i := 19) (v := ?vtb19x39) rfl rfl (by kernel_rfl) (by kernel_rfl) (by kernel_rfl) (fun _ _ _ h => h) (Or.inl ⟨by rfl, ?htb19x39⟩) hS0 ?rtb19x39
      case htb19x39 => (intro w _; go_simp; try (with_reducible rfl))
      try simp only [Act.put, List.setIfInBounds_toArray, List.set_cons_zero, List.set_cons_succ]
      refine wpAnyH_ready (rs := [20]) (by kernel_rfl) (by simp) ?_
      refine AllReadyH.cons rfl (fun K hK => ?_) AllReadyH.nil
      have f4 := a5.free (i := 4) (by omega)
      have n4 := a5.cP
      have q4 : (World.setCell w5 ⟨S, 3, none⟩ (.slice (some ⟨g5, 0, none⟩) (r.length + 1) c5)).cell? ⟨S, 4, none⟩ = some (.int .u64 ((plS r : Nat) : Int)) := by rw [World.cell?_setCell_other _ _ _ _ (by simp)]; exact n4
      go_simp
      refine hK.out _ _ trivial (fun _ => ?_)
      clear hK K q4 n4 f4
      refine wpAnyH_done (by kernel_rfl) ?_ _
      go_wp2_with fail
      go_ret
      exact ⟨rfl, _, _, _, fin.1, fin.2⟩
  ·
    go_simp
    have R41 := Rd.below (box_below wd (.cells #[.int .i64 (i : Int)] 3))
    refine hK.out _ _ trivial (fun _ => ?_)
    clear hK K
    refine wpAnyH_ready (rs := [5, 12]) (by kernel_rfl) (by simp) ?_
    refine AllReadyH.cons rfl (fun K hK => ?_) (AllReadyH.cons rfl (fun K hK => ?_) AllReadyH.nil)
    ·
      have hc42 := R41.a.cR
      go_simp
      refine hK.out _ _ trivial (fun _ => ?_)
      clear hK K hc42
      refine wpAnyH_ready (rs := [8, 12]) (by kernel_rfl) (by simp) ?_
      refine AllReadyH.cons rfl (fun K hK => ?_) (AllReadyH.cons rfl (fun K hK => ?_) AllReadyH.nil)
      ·
        refine step_append_lies _ rfl (.tmp 70) (.tmp 72) 26 rfl (S + 1) 3 i0 (.int .i64 0) 1 8 Tryd.underlying26 hi0 hz0 hz1 hz2 rfl (by decide) (.slice va r.length vc) r.length _ (by simp [Act.eval]) R41.rw ⟨wd.heap.size, 0, none⟩ 1 1 [.int .i64 (i : Int)] (by simp [Act.eval]) rfl (lit_newI _ _ _) (by intro u hu; simp at hu; subst hu; rfl) (by decide) (by unfold maxLen; omega) (by omega) (by have := R41.a.lt; omega) _ rfl ?_
        intro g5 c5 w5 hown5 hg5 hl5 _
        obtain ⟨_, a5, _, _, _⟩ := R41.app HNE.out hown5 hg5 hl5
        have fin := HD.out _ _ R41 _ _ hown5 hg5 hl5
        refine hK.out _ _ trivial (fun _ => ?_)
        clear hK K hown5 hg5 hl5
        try simp only [Act.put, List.setIfInBounds_toArray]
        refine wpAnyH_ready (rs := [12]) (by kernel_rfl) (by simp) ?_
        refine AllReadyH.cons rfl (fun K hK => ?_) AllReadyH.nil
        have hc44 := a5.cP
        go_simp
        refine hK.out _ _ trivial (fun _ => ?_)
        clear hK K hc44
        refine wpAnyH_ready (rs := [14]) (by kernel_rfl) (by simp) ?_
        refine AllReadyH.cons rfl (fun K hK => ?_) AllReadyH.nil
        go_simp
        refine (CWT.out _).mono ?_
        rintro e y45 ⟨rfl, rfl⟩
        show K _ _
        refine hK.out _ _ trivial (fun _ => ?_)
        clear hK K
        refine takeG (some 80) (i := 15) (v := ?vtb15x46) rfl rfl (by kernel_rfl) (by kernel_rfl) (by kernel_rfl) (fun _ _ _ h => h) (Or.inl ⟨by rfl, ?htb15x46⟩) hS0 ?rtb15x46
        case htb15x46 => (intro w _; go_simp; try (with_reducible rfl))
        try simp only [Act.put, List.setIfInBounds_toArray, List.set_cons_zero, List.set_cons_succ]
        refine takeG (some 81) (i := 16) (v := ?vtb16x47) rfl rfl (by kernel_rfl) (by kernel_rfl) (by kernel_rfl) (fun _ _ _ h => h) (Or.inl ⟨by rfl, ?htb16x47⟩) hS0 ?rtb16x47
        case htb16x47 => (intro w _; go_simp; try (with_reducible rfl))
        try simp only [Act.put, List.setIfInBounds_toArray, List.set_cons_zero, List.set_cons_succ]
        refine wpAnyH_ready (rs := [17]) (by kernel_rfl) (by simp) ?_
        refine AllReadyH.cons rfl (fun K hK => ?_) AllReadyH.nil
        have c3 := a5.cR
        have f3 := a5.free (i := 3) (by omega)
        go_simp
        refine hK.out _ _ trivial (fun _ => ?_)
        clear hK K c3 f3
        refine takeG (some 82) (i := 18) (v := ?vtb18x49) rfl rfl (by kernel_rfl) (by kernel_rfl) (by kernel_rfl) (fun _ _ _ h => h) (Or.inl ⟨by rfl, ?htb18x49⟩) hS0 ?rtb18x49
        case htb18x49 => (intro w _; go_simp; try (with_reducible rfl))
        try simp only [Act.put, List.setIfInBounds_toArray, List.set_cons_zero, List.set_cons_succ]
        refine takeG (some 83) (i := 19) (v := ?vtb19x50) rfl rfl (by kernel_rfl) (by kernel_rfl) (by kernel_rfl) (fun _ _ _ h => h) (Or.inl ⟨by rfl, ?htb19x50⟩) hS0 ?rtb19x50
        case htb19x50 => (intro w _; go_simp; try (with_reducible rfl))
        try simp only [Act.put, List.setIfInBounds_toArray, List.set_cons_zero, List.set_cons_succ]
        refine wpAnyH_ready (rs := [20]) (by kernel_rfl) (by simp) ?_
        refine AllReadyH.cons rfl (fun K hK => ?_) AllReadyH.nil
        have f4 := a5.free (i := 4) (by omega)
        have n4 := a5.cP
        have q4 : (World.setCell w5 ⟨S, 3, none⟩ (.slice (some ⟨g5, 0, none⟩) (r.length + 1) c5)).cell? ⟨S, 4, none⟩ = some (.int .u64 ((plS r : Nat) : Int)) := by rw [World.cell?_setCell_other _ _ _ _ (by simp)]; exact n4
        go_simp
        refine hK.out _ _ trivial (fun _ => ?_)
        clear hK K q4 n4 f4
        refine wpAnyH_done (by kernel_rfl) ?_ _
        go_wp2_with fail
        go_ret
        exact ⟨rfl, _, _, _, fin.1, fin.2⟩
      ·
        have hc52 := R41.a.cP
        go_simp
        refine hK.out _ _ trivial (fun _ => ?_)
        clear hK K hc52
        refine wpAnyH_ready (rs := [8]) (by kernel_rfl) (by simp) ?_
        refine AllReadyH.cons rfl (fun K hK => ?_) AllReadyH.nil
        refine step_append_lies _ rfl (.tmp 70) (.tmp 72) 26 rfl (S + 1) 3 i0 (.int .i64 0) 1 8 Tryd.underlying26 hi0 hz0 hz1 hz2 rfl (by decide) (.slice va r.length vc) r.length _ (by simp [Act.eval]) R41.rw ⟨wd.heap.size, 0, none⟩ 1 1 [.int .i64 (i : Int)] (by simp [Act.eval]) rfl (lit_newI _ _ _) (by intro u hu; simp at hu; subst hu; rfl) (by decide) (by unfold maxLen; omega) (by omega) (by have := R41.a.lt; omega) _ rfl ?_
        intro g5 c5 w5 hown5 hg5 hl5 _
        obtain ⟨_, a5, _, _, _⟩ := R41.app HNE.out hown5 hg5 hl5
        have fin := HD.out _ _ R41 _ _ hown5 hg5 hl5
        refine hK.out _ _ trivial (fun _ => ?_)
        clear hK K hown5 hg5 hl5
        try simp only [Act.put, List.setIfInBounds_toArray]
        refine wpAnyH_ready (rs := [14]) (by kernel_rfl) (by simp) ?_
        refine AllReadyH.cons rfl (fun K hK => ?_) AllReadyH.nil
        go_simp
        refine (CWT.out _).mono ?_
        rintro e y54 ⟨rfl, rfl⟩
        show K _ _
        refine hK.out _ _ trivial (fun _ => ?_)
        clear hK K
        refine takeG (some 80) (i := 15) (v := ?vtb15x55) rfl rfl (by kernel_rfl) (by kernel_rfl) (by kernel_rfl) (fun _ _ _ h => h) (Or.inl ⟨by rfl, ?htb15x55⟩) hS0 ?rtb15x55
        case htb15x55 => (intro w _; go_simp; try (with_reducible rfl))
        try simp only [Act.put, List.setIfInBounds_toArray, List.set_cons_zero, List.set_cons_succ]
        refine takeG (some 81) (i := 16) (v := ?vtb16x56) rfl rfl (by kernel_rfl) (by kernel_rfl) (by kernel_rfl) (fun _ _ _ h => h) (Or.inl ⟨by rfl, ?htb16x56⟩) hS0 ?rtb16x56
        case htb16x56 => (intro w _; go_simp; try (with_reducible rfl))
        try simp only [Act.put, List.setIfInBounds_toArray, List.set_cons_zero, List.set_cons_succ]
        refine wpAnyH_ready (rs := [17]) (by kernel_rfl) (by simp) ?_
        refine AllReadyH.cons rfl (fun K hK => ?_) AllReadyH.nil
        have c3 := a5.cR
        have f3 := a5.free (i := 3) (by omega)
        go_simp
        refine hK.out _ _ trivial (fun _ => ?_)
        clear hK K c3 f3
        refine takeG (some 82) (i := 18) (v := ?vtb18x58) rfl rfl (by kernel_rfl) (by kernel_rfl) (by kernel_rfl) (fun _ _ _ h => h) (Or.inl ⟨by rfl, ?htb18x58⟩) hS0 ?rtb18x58
        case htb18x58 => (intro w _; go_simp; try (with_reducible rfl))
        try simp only [Act.put, List.setIfInBounds_toArray, List.set_cons_zero, List.set_cons_succ]
        refine takeG (some 83) (i := 19) (v := ?vtb19x59) rfl rfl (by kernel_rfl) (by kernel_rfl) (by kernel_rfl) (fun _ _ _ h => h) (Or.inl ⟨by rfl, ?htb19x59⟩) hS0 ?rtb19x59
        case htb19x59 => (intro w _; go_simp; try (with_reducible rfl))
        try simp only [Act.put, List.setIfInBounds_toArray, List.set_cons_zero, List.set_cons_succ]
        refine wpAnyH_ready (rs := [20]) (by kernel_rfl) (by simp) ?_
        refine AllReadyH.cons rfl (fun K hK => ?_) AllReadyH.nil
        have f4 := a5.free (i := 4) (by omega)
        have n4 := a5.cP
        have q4 : (World.setCell w5 ⟨S, 3, none⟩ (.slice (some ⟨g5, 0, none⟩) (r.length + 1) c5)).cell? ⟨S, 4, none⟩ = some (.int .u64 ((plS r : Nat) : Int)) := by rw [World.cell?_setCell_other _ _ _ _ (by simp)]; exact n4
        go_simp
        refine hK.out _ _ trivial (fun _ => ?_)
        clear hK K q4 n4 f4
        refine wpAnyH_done (by kernel_rfl) ?_ _
        go_wp2_with fail
        go_ret
        exact ⟨rfl, _, _, _, fin.1, fin.2⟩
    ·
      have hc61 := R41.a.cP
      go_simp
      refine hK.out _ _ trivial (fun _ => ?_)
      clear hK K hc61
      refine wpAnyH_ready (rs := [5]) (by kernel_rfl) (by simp) ?_
      refine AllReadyH.cons rfl (fun K hK => ?_) AllReadyH.nil
      have hc62 := R41.a.cR
      go_simp
      refine hK.out _ _ trivial (fun _ => ?_)
      clear hK K hc62
      refine wpAnyH_ready (rs := [8]) (by kernel_rfl) (by simp) ?_
      refine AllReadyH.cons rfl (fun K hK => ?_) AllReadyH.nil
      refine step_append_lies _ rfl (.tmp 70) (.tmp 72) 26 rfl (S + 1) 3 i0 (.int .i64 0) 1 8 Tryd.underlying26 hi0 hz0 hz1 hz2 rfl (by decide) (.slice va r.length vc) r.length _ (by simp [Act.eval]) R41.rw ⟨wd.heap.size, 0, none⟩ 1 1 [.int .i64 (i : Int)] (by simp [Act.eval]) rfl (lit_newI _ _ _) (by intro u hu; simp at hu; subst hu; rfl) (by decide) (by unfold maxLen; omega) (by omega) (by have := R41.a.lt; omega) _ rfl ?_
      intro g5 c5 w5 hown5 hg5 hl5 _
      obtain ⟨_, a5, _, _, _⟩ := R41.app HNE.out hown5 hg5 hl5
      have fin := HD.out _ _ R41 _ _ hown5 hg5 hl5
      refine hK.out _ _ trivial (fun _ => ?_)
      clear hK K hown5 hg5 hl5
      try simp only [Act.put, List.setIfInBounds_toArray]
      refine wpAnyH_ready (rs := [14]) (by kernel_rfl) (by simp) ?_
      refine AllReadyH.cons rfl (fun K hK => ?_) AllReadyH.nil
      go_simp
      refine (CWT.out _).mono ?_
      rintro e y64 ⟨rfl, rfl⟩
      show K _ _
      refine hK.out _ _ trivial (fun _ => ?_)
      clear hK K
      refine takeG (some 80) (i := 15) (v := ?vtb15x65) rfl rfl (by kernel_rfl) (by kernel_rfl) (by kernel_rfl) (fun _ _ _ h => h) (Or.inl ⟨by rfl, ?htb15x65⟩) hS0 ?rtb15x65
      case htb15x65 => (intro w _; go_simp; try (with_reducible rfl))
      try simp only [Act.put, List.setIfInBounds_toArray, List.set_cons_zero, List.set_cons_succ]
      refine takeG (some 81) (i := 16) (v := ?vtb16x66) rfl rfl (by kernel_rfl) (by kernel_rfl) (by kernel_rfl) (fun _ _ _ h => h) (Or.inl ⟨by rfl, ?htb16x66⟩) hS0 ?rtb16x66
      case htb16x66 => (intro w _; go_simp; try (with_reducible rfl))
      try simp only [Act.put, List.setIfInBounds_toArray, List.set_cons_zero, List.set_cons_succ]
      refine wpAnyH_ready (rs := [17]) (by kernel_rfl) (by simp) ?_
      refine AllReadyH.cons rfl (fun K hK => ?_) AllReadyH.nil
      have c3 := a5.cR
      have f3 := a5.free (i := 3) (by omega)
      go_simp
      refine hK.out _ _ trivial (fun _ => ?_)
      clear hK K c3 f3
      refine takeG (some 82) (i := 18) (v := ?vtb18x68) rfl rfl (by kernel_rfl) (by kernel_rfl) (by kernel_rfl) (fun _ _ _ h => h) (Or.inl ⟨by rfl, ?htb18x68⟩) hS0 ?rtb18x68
      case htb18x68 => (intro w _; go_simp; try (with_reducible rfl))
      try simp only [Act.put, List.setIfInBounds_toArray, List.set_cons_zero, List.set_cons_succ]
      refine takeG (some 83) (i := 19) (v := ?vtb19x69) rfl rfl (by kernel_rfl) (by kernel_rfl) (by kernel_rfl) (fun _ _ _ h => h) (Or.inl ⟨by rfl, ?htb19x69⟩) hS0 ?rtb19x69
      case htb19x69 => (intro w _; go_simp; try (with_reducible rfl))
      try simp only [Act.put, List.setIfInBounds_toArray, List.set_cons_zero, List.set_cons_succ]
      refine wpAnyH_ready (rs := [20]) (by kernel_rfl) (by simp) ?_
      refine AllReadyH.cons rfl (fun K hK => ?_) AllReadyH.nil
      have f4 := a5.free (i := 4) (by omega)
      have n4 := a5.cP
      have q4 : (World.setCell w5 ⟨S, 3, none⟩ (.slice (some ⟨g5, 0, none⟩) (r.length + 1) c5)).cell? ⟨S, 4, none⟩ = some (.int .u64 ((plS r : Nat) : Int)) := by rw [World.cell?_setCell_other _ _ _ _ (by simp)]; exact n4
      go_simp
      refine hK.out _ _ trivial (fun _ => ?_)
      clear hK K q4 n4 f4
      refine wpAnyH_done (by kernel_rfl) ?_ _
      go_wp2_with fail
      go_ret
      exact ⟨rfl, _, _, _, fin.1, fin.2⟩
  ·
    have hc71 := Rd.a.cP
    go_simp
    refine hK.out _ _ trivial (fun _ => ?_)
    clear hK K hc71
    refine wpAnyH_ready (rs := [5, 7]) (by kernel_rfl) (by simp) ?_
    refine AllReadyH.cons rfl (fun K hK => ?_) (AllReadyH.cons rfl (fun K hK => ?_) AllReadyH.nil)
    ·
      have hc72 := Rd.a.cR
      go_simp
      refine hK.out _ _ trivial (fun _ => ?_)
      clear hK K hc72
      refine wpAnyH_ready (rs := [7]) (by kernel_rfl) (by simp) ?_
      refine AllReadyH.cons rfl (fun K hK => ?_) AllReadyH.nil
      go_simp
      have R73 := Rd.below (box_below wd (.cells #[.int .i64 (i : Int)] 3))
      refine hK.out _ _ trivial (fun _ => ?_)
      clear hK K
      refine wpAnyH_ready (rs := [8]) (by kernel_rfl) (by simp) ?_
      refine AllReadyH.cons rfl (fun K hK => ?_) AllReadyH.nil
      refine step_append_lies _ rfl (.tmp 70) (.tmp 72) 26 rfl (S + 1) 3 i0 (.int .i64 0) 1 8 Tryd.underlying26 hi0 hz0 hz1 hz2 rfl (by decide) (.slice va r.length vc) r.length _ (by simp [Act.eval]) R73.rw ⟨wd.heap.size, 0, none⟩ 1 1 [.int .i64 (i : Int)] (by simp [Act.eval]) rfl (lit_newI _ _ _) (by intro u hu; simp at hu; subst hu; rfl) (by decide) (by unfold maxLen; omega) (by omega) (by have := R73.a.lt; omega) _ rfl ?_
      intro g5 c5 w5 hown5 hg5 hl5 _
      obtain ⟨_, a5, _, _, _⟩ := R73.app HNE.out hown5 hg5 hl5
      have fin := HD.out _ _ R73 _ _ hown5 hg5 hl5
      refine hK.out _ _ trivial (fun _ => ?_)
      clear hK K hown5 hg5 hl5
      try simp only [Act.put, List.setIfInBounds_toArray]
      refine wpAnyH_ready (rs := [14]) (by kernel_rfl) (by simp) ?_
      refine AllReadyH.cons rfl (fun K hK => ?_) AllReadyH.nil
      go_simp
      refine (CWT.out _).mono ?_
      rintro e y75 ⟨rfl, rfl⟩
      show K _ _
      refine hK.out _ _ trivial (fun _ => ?_)
      clear hK K
      refine takeG (some 80) (i := 15) (v := ?vtb15x76) rfl rfl (by kernel_rfl) (by kernel_rfl) (by kernel_rfl) (fun _ _ _ h => h) (Or.inl ⟨by rfl, ?htb15x76⟩) hS0 ?rtb15x76
      case htb15x76 => (intro w _; go_simp; try (with_reducible rfl))
      try simp only [Act.put, List.setIfInBounds_toArray, List.set_cons_zero, List.set_cons_succ]
      refine takeG (some 81) (i := 16) (v := ?vtb16x77) rfl rfl (by kernel_rfl) (by kernel_rfl) (by kernel_rfl) (fun _ _ _ h => h) (Or.inl ⟨by rfl, ?htb16x77⟩) hS0 ?rtb16x77
      case htb16x77 => (intro w _; go_simp; try (with_reducible rfl))
      try simp only [Act.put, List.setIfInBounds_toArray, List.set_cons_zero, List.set_cons_succ]
      refine wpAnyH_ready (rs := [17]) (by kernel_rfl) (by simp) ?_
      refine AllReadyH.cons rfl (fun K hK => ?_) AllReadyH.nil
      have c3 := a5.cR
      have f3 := a5.free (i := 3) (by omega)
      go_simp
      refine hK.out _ _ trivial (fun _ => ?_)
      clear hK K c3 f3
      refine takeG (some 82) (i := 18) (v := ?vtb18x79) rfl rfl (by kernel_rfl) (by kernel_rfl) (by kernel_rfl) (fun _ _ _ h => h) (Or.inl ⟨by rfl, ?htb18x79⟩) hS0 ?rtb18x79
      case htb18x79 => (intro w _; go_simp; try (with_reducible rfl))
      try simp only [Act.put, List.setIfInBounds_toArray, List.set_cons_zero, List.set_cons_succ]
      refine takeG (some 83) (i := 19) (v := ?vtb19x80) rfl rfl (by kernel_rfl) (by kernel_rfl) (by kernel_rfl) (fun _ _ _ h => h) (Or.inl ⟨by rfl, ?htb19x80⟩) hS0 ?rtb19x80
      case htb19x80 => (intro w _; go_simp; try (with_reducible rfl))
      try simp only [Act.put, List.setIfInBounds_toArray, List.set_cons_zero, List.set_cons_succ]
      refine wpAnyH_ready (rs := [20]) (by kernel_rfl) (by simp) ?_
      refine AllReadyH.cons rfl (fun K hK => ?_) AllReadyH.nil
      have f4 := a5.free (i := 4) (by omega)
      have n4 := a5.cP
      have q4 : (World.setCell w5 ⟨S, 3, none⟩ (.slice (some ⟨g5, 0, none⟩) (r.length + 1) c5)).cell? ⟨S, 4, none⟩ = some (.int .u64 ((plS r : Nat) : Int)) := by rw [World.cell?_setCell_other _ _ _ _ (by simp)]; exact n4
      go_simp
      refine hK.out _ _ trivial (fun _ => ?_)
      clear hK K q4 n4 f4
      refine wpAnyH_done (by kernel_rfl) ?_ _
      go_wp2_with fail
      go_ret
      exact ⟨rfl, _, _, _, fin.1, fin.2⟩
    ·
      go_simp
      have R82 := Rd.below (box_below wd (.cells #[.int .i64 (i : Int)] 3))
      refine hK.out _ _ trivial (fun _ => ?_)
      clear hK K
      refine wpAnyH_ready (rs := [5]) (by kernel_rfl) (by simp) ?_
      refine AllReadyH.cons rfl (fun K hK => ?_) AllReadyH.nil
      have hc83 := R82.a.cR
      go_simp
      refine hK.out _ _ trivial (fun _ => ?_)
      clear hK K hc83
      refine wpAnyH_ready (rs := [8]) (by kernel_rfl) (by simp) ?_
      refine AllReadyH.cons rfl (fun K hK => ?_) AllReadyH.nil
      refine step_append_lies _ rfl (.tmp 70) (.tmp 72) 26 rfl (S + 1) 3 i0 (.int .i64 0) 1 8 Tryd.underlying26 hi0 hz0 hz1 hz2 rfl (by decide) (.slice va r.length vc) r.length _ (by simp [Act.eval]) R82.rw ⟨wd.heap.size, 0, none⟩ 1 1 [.int .i64 (i : Int)] (by simp [Act.eval]) rfl (lit_newI _ _ _) (by intro u hu; simp at hu; subst hu; rfl) (by decide) (by unfold maxLen; omega) (by omega) (by have := R82.a.lt; omega) _ rfl ?_
      intro g5 c5 w5 hown5 hg5 hl5 _
      obtain ⟨_, a5, _, _, _⟩ := R82.app HNE.out hown5 hg5 hl5
      have fin := HD.out _ _ R82 _ _ hown5 hg5 hl5
      refine hK.out _ _ trivial (fun _ => ?_)
      clear hK K hown5 hg5 hl5
      try simp only [Act.put, List.setIfInBounds_toArray]
      refine wpAnyH_ready (rs := [14]) (by kernel_rfl) (by simp) ?_
      refine AllReadyH.cons rfl (fun K hK => ?_) AllReadyH.nil
      go_simp
      refine (CWT.out _).mono ?_
      rintro e y85 ⟨rfl, rfl⟩
      show K _ _
      refine hK.out _ _ trivial (fun _ => ?_)
      clear hK K
      refine takeG (some 80) (i := 15) (v := ?vtb15x86) rfl rfl (by kernel_rfl) (by kernel_rfl) (by kernel_rfl) (fun _ _ _ h => h) (Or.inl ⟨by rfl, ?htb15x86⟩) hS0 ?rtb15x86
      case htb15x86 => (intro w _; go_simp; try (with_reducible rfl))
      try simp only [Act.put, List.setIfInBounds_toArray, List.set_cons_zero, List.set_cons_succ]
      refine takeG (some 81) (i := 16) (v := ?vtb16x87) rfl rfl (by kernel_rfl) (by kernel_rfl) (by kernel_rfl) (fun _ _ _ h => h) (Or.inl ⟨by rfl, ?htb16x87⟩) hS0 ?rtb16x87
      case htb16x87 => (intro w _; go_simp; try (with_reducible rfl))
      try simp only [Act.put, List.setIfInBounds_toArray, List.set_cons_zero, List.set_cons_succ]
      refine wpAnyH_ready (rs := [17]) (by kernel_rfl) (by simp) ?_
      refine AllReadyH.cons rfl (fun K hK => ?_) AllReadyH.nil
      have c3 := a5.cR
      have f3 := a5.free (i := 3) (by omega)
      go_simp
      refine hK.out _ _ trivial (fun _ => ?_)
      clear hK K c3 f3
      refine takeG (some 82) (i := 18) (v := ?vtb18x89) rfl rfl (by kernel_rfl) (by kernel_rfl) (by kernel_rfl) (fun _ _ _ h => h) (Or.inl ⟨by rfl, ?htb18x89⟩) hS0 ?rtb18x89
      case htb18x89 => (intro w _; go_simp; try (with_reducible rfl))
      try simp only [Act.put, List.setIfInBounds_toArray, List.set_cons_zero, List.set_cons_succ]
      refine takeG (some 83) (i := 19) (v := ?vtb19x90) rfl rfl (by kernel_rfl) (by kernel_rfl) (by kernel_rfl) (fun _ _ _ h => h) (Or.inl ⟨by rfl, ?htb19x90⟩) hS0 ?rtb19x90
      case htb19x90 => (intro w _; go_simp; try (with_reducible rfl))
      try simp only [Act.put, List.setIfInBounds_toArray, List.set_cons_zero, List.set_cons_succ]
      refine wpAnyH_ready (rs := [20]) (by kernel_rfl) (by simp) ?_
      refine AllReadyH.cons rfl (fun K hK => ?_) AllReadyH.nil
      have f4 := a5.free (i := 4) (by omega)
      have n4 := a5.cP
      have q4 : (World.setCell w5 ⟨S, 3, none⟩ (.slice (some ⟨g5, 0, none⟩) (r.length + 1) c5)).cell? ⟨S, 4, none⟩ = some (.int .u64 ((plS r : Nat) : Int)) := by rw [World.cell?_setCell_other _ _ _ _ (by simp)]; exact n4
      go_simp
      refine hK.out _ _ trivial (fun _ => ?_)
      clear hK K q4 n4 f4
      refine wpAnyH_done (by kernel_rfl) ?_ _
      go_wp2_with fail
      go_ret
      exact ⟨rfl, _, _, _, fin.1, fin.2⟩
end
end Go.Proofs.YtecpeegbfeijaaaDoor

namespace Go.Proofs.YtecpeegbfeijaaaDoor
set_option maxRecDepth 100000
open Go.RowKit

theorem zeroPl (B C : Nat) : ((Tryd.zeroCells67.setIfInBounds 0 (.pointer (some ⟨B, 0, none⟩))).setIfInBounds 1 (.int .i64 (C : Int))) = ((List.range 133).map (plF B C (.slice none 0 0) (.slice none 0 0) 0 (fun _ => 0) (fun _ => 0))).toArray := by kernel_rfl
theorem PlAt.made (w : World) (B C : Nat) (t : TypeId) {S : Nat} {cs : Array Value} (hS : S = w.heap.size) (hc : cs = ((Tryd.zeroCells67.setIfInBounds 0 (.pointer (some ⟨B, 0, none⟩))).setIfInBounds 1 (.int .i64 (C : Int)))) : PlAt (w.alloc (.cells cs t)) S B C (.slice none 0 0) (.slice none 0 0) 0 (fun _ => 0) (fun _ => 0) := by
  subst hS hc
  rw [zeroPl]
  have hh := heap_alloc_new w (.cells ((List.range 133).map (plF B C (.slice none 0 0) (.slice none 0 0) 0 (fun _ => 0) (fun _ => 0))).toArray t)
  intro i hi
  refine ⟨?_, frozen_of_row _ _ _ _ _ hh⟩
  rw [cell_of_row _ _ _ _ _ _ hh]
  simp [hi]
theorem infoSetB : (Tryd.prog.info? 36).map (fun i => (i.zero, i.size, i.bytes)) = some (some (.int .u64 0), 1, 8) := by kernel_rfl
theorem lit_newJ (w : World) (x : Value) (t : TypeId) : ∀ j u, [x][j]? = some u → (w.alloc (.cells #[x] t)).cell? ((⟨w.heap.size, 0, none⟩ : Addr).add j) = some u := fun j u hu => by
  match j, hu with
  | 0, hu =>
    simp at hu; subst hu
    rw [Addr.add_lit, Nat.add_zero, cell_of_row _ _ _ _ _ _ (heap_alloc_new w _)]; rfl
  | j + 1, hu => simp at hu
/-- The sets of the first k. -/
def baseL (h : List TxnV) (C k : Nat) : List Value := (List.range k).map fun i => .int .u64 ((baseN h C i : Nat) : Int)
theorem baseL_succ (h : List TxnV) (C k : Nat) : baseL h C (k + 1) = baseL h C k ++ [.int .u64 ((baseN h C k : Nat) : Int)] := by unfold baseL; rw [List.range_succ, List.map_append]; rfl
/-- A state while it is made. -/
structure NwI (W : World) (S M B C : Nat) (h : List TxnV) (k : Nat) (vb : Value) (w : World) : Prop where
  a : PlAt w S B C vb (.slice none 0 0) 0 (fun _ => 0) (fun _ => 0)
  r : RelAt w M 68 (baseM h (C : Int))
  ow : w.ownsRow (M + 1) 36 1 vb k (baseL h C k)
  bel : Below W.heap.size W w
  lo : W.heap.size ≤ S
  hi : S < M
section
variable {W : World} {S M B C : Nat} {h : List TxnV} {k : Nat} {vb : Value} {w w' : World}
theorem NwI.below (q : NwI W S M B C h k vb w) (hb : Below w.heap.size w w') : NwI W S M B C h k vb w' := ⟨q.a.below hb q.a.lt, q.r.below hb q.r.lt, owns_below q.ow hb, q.bel.trans (hb.mono q.bel.size), q.lo, q.hi⟩
theorem NwI.add (q : NwI W S M B C h k vb w) {w5 : World} {v' : Value} (hown : w5.ownsRow (M + 1) 36 1 v' (k + 1) (baseL h C k ++ [.int .u64 ((baseN h C k : Nat) : Int)])) (hg : w.grownBy w5 vb.ownBlock) :
    PlAt w5 S B C vb (.slice none 0 0) 0 (fun _ => 0) (fun _ => 0) ∧ RelAt w5 M 68 (baseM h (C : Int)) ∧ RelAt (w5.setCell ⟨S, 2, none⟩ v') M 68 (baseM h (C : Int)) ∧ NwI W S M B C h (k + 1) v' (w5.setCell ⟨S, 2, none⟩ v') := by
  have hhi := q.hi
  have hS : vb.ownBlock ≠ some S := fun e => by have := (q.ow.lt _ e).1; omega
  have hM : vb.ownBlock ≠ some M := fun e => by have := (q.ow.lt _ e).1; omega
  have a5 := q.a.grown hg (fun e => hS e.symm)
  have r5 : RelAt w5 M 68 (baseM h (C : Int)) := by
    have := q.r
    unfold RelAt at *
    rw [hg.block M q.r.lt (fun e => hM e.symm)]; exact this
  have r6 := r5.other (k := ⟨S, 2, none⟩) (by show M ≠ S; omega) v'
  have hlo := q.lo
  refine ⟨a5, r5, r6, a5.setB v', r6, ?_, (q.bel.grown hg q.bel.size (fun j hj => by have := (q.ow.lt _ hj).1; omega)).setCell (p := ⟨S, 2, none⟩) hlo v', hlo, hhi⟩
  rw [baseL_succ]
  exact pl_far hown (by show S < M + 1; omega) v'
end
set_option maxRecDepth 100000 in
set_option maxHeartbeats 16000000 in
theorem pnew_any (x : Int) (h : List TxnV) (B b : Nat) (w : World) (hO : OrdIs w B b h) (hc : checkI h = 0) (ht : Tab w) :
    Calls Tryd.prog 18 #[.pointer (some ⟨B, 0, none⟩), .int .i64 x] w fun e w' => ∃ S vb aF sF, e = .returned (.pointer (some ⟨S, 0, none⟩)) ∧ PlIs w S B b h (clI x) [] vb (.slice none 0 0) aF sF w' := by
  have h64 := (check_zero hc).1
  have HFIN : Hid (∀ S M vb wx, NwI w S M B (clI x) h h.length vb wx → PlIs w S B b h (clI x) [] vb (.slice none 0 0) (fun _ => 0) (fun _ => 0) wx) := Lib.hid (fun S M vb wx q => by
    have hhi := q.hi
    exact ⟨hO, ht, q.bel, q.lo, q.a, own_base' q.ow (by omega), ⟨rfl, .inl ⟨rfl, rfl⟩⟩, fun g _ e => (by cases e), fun k _ => ⟨by unfold IsSet; omega, by unfold IsSet; omega⟩, fun k hk => (by cases hk), List.nodup_nil, fun k hk => (by cases hk), fun k hk => (by cases hk)⟩)
  have HO := Lib.hid (fun wx (hx : Below w.heap.size w wx) => (hO.below hx).blk)
  have n0 := hO.blk.cN
  have CC := Lib.hid (fun wx => lclosed_any x wx)
  obtain ⟨i0, hi0, hz0, hz1, hz2⟩ := info_parts infoSetB
  clear hO hc ht
  generalize clI x = C at *
  have ha := PlAt.made w B C 67 rfl rfl
  have hb1 := box_below w (.cells ((Tryd.zeroCells67.setIfInBounds 0 (.pointer (some ⟨B, 0, none⟩))).setIfInBounds 1 (.int .i64 (C : Int))) 67)
  have hs1 : (w.alloc (.cells ((Tryd.zeroCells67.setIfInBounds 0 (.pointer (some ⟨B, 0, none⟩))).setIfInBounds 1 (.int .i64 (C : Int))) 67)).heap.size = w.heap.size + 1 := by simp
  go_enter Tryd.func18, Tryd.ntmps18
  go_wp2_with fail
  refine (CC.out _).mono ?_
  rintro e wq ⟨rfl, rfl⟩
  go_upto_region 2 with fail
  generalize w.alloc (.cells ((Tryd.zeroCells67.setIfInBounds 0 (.pointer (some ⟨B, 0, none⟩))).setIfInBounds 1 (.int .i64 (C : Int))) 67) = w1 at *
  have hlt := ha.lt
  have hcc := ha.cC
  have CB := Lib.hid (fun wx (hx : Below w.heap.size w wx) => lbase_any (C : Int) h B wx (HO.out wx hx))
  go_wp2_with fail
  refine (CB.out _ hb1).mono ?_
  rintro e w2 ⟨rfl, h2⟩
  have ha := ha.below h2 hlt
  have hb2 := below_then hb1 h2
  have hsz := h2.size
  have z2 := zero_block w2
  have ha := ha.below (box_below w2 (.cells #[.int .u64 0, .int .u64 0, .int .u64 0, .int .u64 0, .int .u64 0, .int .u64 0, .int .u64 0, .int .u64 0, .int .u64 0, .int .u64 0, .int .u64 0, .int .u64 0, .int .u64 0, .int .u64 0, .int .u64 0, .int .u64 0, .int .u64 0, .int .u64 0, .int .u64 0, .int .u64 0, .int .u64 0, .int .u64 0, .int .u64 0, .int .u64 0, .int .u64 0, .int .u64 0, .int .u64 0, .int .u64 0, .int .u64 0, .int .u64 0, .int .u64 0, .int .u64 0, .int .u64 0, .int .u64 0, .int .u64 0, .int .u64 0, .int .u64 0, .int .u64 0, .int .u64 0, .int .u64 0, .int .u64 0, .int .u64 0, .int .u64 0, .int .u64 0, .int .u64 0, .int .u64 0, .int .u64 0, .int .u64 0, .int .u64 0, .int .u64 0, .int .u64 0, .int .u64 0, .int .u64 0, .int .u64 0, .int .u64 0, .int .u64 0, .int .u64 0, .int .u64 0, .int .u64 0, .int .u64 0, .int .u64 0, .int .u64 0, .int .u64 0, .int .u64 0] 68)) ha.lt
  have hb3 := hb2.alloc hb2.size (.cells #[.int .u64 0, .int .u64 0, .int .u64 0, .int .u64 0, .int .u64 0, .int .u64 0, .int .u64 0, .int .u64 0, .int .u64 0, .int .u64 0, .int .u64 0, .int .u64 0, .int .u64 0, .int .u64 0, .int .u64 0, .int .u64 0, .int .u64 0, .int .u64 0, .int .u64 0, .int .u64 0, .int .u64 0, .int .u64 0, .int .u64 0, .int .u64 0, .int .u64 0, .int .u64 0, .int .u64 0, .int .u64 0, .int .u64 0, .int .u64 0, .int .u64 0, .int .u64 0, .int .u64 0, .int .u64 0, .int .u64 0, .int .u64 0, .int .u64 0, .int .u64 0, .int .u64 0, .int .u64 0, .int .u64 0, .int .u64 0, .int .u64 0, .int .u64 0, .int .u64 0, .int .u64 0, .int .u64 0, .int .u64 0, .int .u64 0, .int .u64 0, .int .u64 0, .int .u64 0, .int .u64 0, .int .u64 0, .int .u64 0, .int .u64 0, .int .u64 0, .int .u64 0, .int .u64 0, .int .u64 0, .int .u64 0, .int .u64 0, .int .u64 0, .int .u64 0] 68)
  have hSM : w.heap.size < w2.heap.size := by omega
  have h3 := below_setRow (Below.refl w2.heap.size (w2.alloc (.cells #[.int .u64 0, .int .u64 0, .int .u64 0, .int .u64 0, .int .u64 0, .int .u64 0, .int .u64 0, .int .u64 0, .int .u64 0, .int .u64 0, .int .u64 0, .int .u64 0, .int .u64 0, .int .u64 0, .int .u64 0, .int .u64 0, .int .u64 0, .int .u64 0, .int .u64 0, .int .u64 0, .int .u64 0, .int .u64 0, .int .u64 0, .int .u64 0, .int .u64 0, .int .u64 0, .int .u64 0, .int .u64 0, .int .u64 0, .int .u64 0, .int .u64 0, .int .u64 0, .int .u64 0, .int .u64 0, .int .u64 0, .int .u64 0, .int .u64 0, .int .u64 0, .int .u64 0, .int .u64 0, .int .u64 0, .int .u64 0, .int .u64 0, .int .u64 0, .int .u64 0, .int .u64 0, .int .u64 0, .int .u64 0, .int .u64 0, .int .u64 0, .int .u64 0, .int .u64 0, .int .u64 0, .int .u64 0, .int .u64 0, .int .u64 0, .int .u64 0, .int .u64 0, .int .u64 0, .int .u64 0, .int .u64 0, .int .u64 0, .int .u64 0, .int .u64 0] 68))) (Nat.le_refl _) (rowsA (baseM h (C : Int)))
  have ha := ha.below h3 hSM
  have hb3 := hb3.trans (h3.mono hb2.size)
  clear hb1 hb2 h2 hcc hlt h3
  go_upto_region 3 with (with_reducible refine wpList_store_rel z2 (baseM h (C : Int)) rfl _ _ rfl rfl rfl ?_)
  have z2 := z2.setRow (baseM h (C : Int))
  generalize World.setRow _ _ _ = w3 at *
  generalize w2.heap.size = M at *
  have n3 := (HO.out _ hb3).cN
  have HI : NwI w w.heap.size M B C h 0 (.slice none 0 0) w3 := ⟨ha, z2, ⟨rfl, .inl ⟨rfl, rfl⟩⟩, hb3, Nat.le_refl _, hSM⟩
  generalize w.heap.size = S at *
  clear ha z2 hb3 n0 hs1 hsz CB HO
  go_wp2_with fail
  clear n3
  go_loopw [23] (fun iv wr => ∃ (k : Nat) (vb : Value), k ≤ h.length ∧ iv = .int .i64 k ∧ NwI w S M B C h k vb wr) (fun iv _ => h.length - (intOf iv).toNat)
  case atStart => exact ⟨0, .slice none 0 0, by omega, rfl, HI⟩
  case round =>
    clear HI
    obtain ⟨k, vb, hk, rfl, hI⟩ := hrel
    by_cases hlt : k < h.length
    · have hki : (k : Int) < (h.length : Int) := by omega
      obtain ⟨va, vc, rfl⟩ := owns_form hI.ow
      have CS := Lib.hid (fun wx => lsees_any (baseM h (C : Int)) (k : Int) wx)
      have HEQ : Hid (∀ e : Nat, e = seeTo (baseM h (C : Int)) (k : Int) 64 → e = baseN h C k) := Lib.hid (fun e he => he)
      have HQ := Lib.hid (fun wx (hx : Below wr.heap.size wr wx) => hI.below hx)
      have kd := (Below.refl wr.heap.size wr).drew
      rw [show seeTo (baseM h (C : Int)) (k : Int) 64 = baseN h C k from rfl] at CS
      clear hI HEQ
      go_upto_region 6 with fail
      refine wp_region_held_drew (S := fun wx => RelAt wx M 68 (baseM h (C : Int))) (by kernel_rfl) (HQ.out _ kd).r (fun hS0 => ?_)
      generalize wr.drew = wd at *
      refine takeG (some 26) (i := 0) (v := ?vna0x1) rfl rfl (by kernel_rfl) (by kernel_rfl) (by kernel_rfl) (fun _ _ _ h => h) (Or.inl ⟨by rfl, ?hna0x1⟩) hS0 ?rna0x1
      case hna0x1 => (intro w _; go_simp; try (with_reducible rfl))
      try simp only [Act.put, List.setIfInBounds_toArray, List.set_cons_zero, List.set_cons_succ]
      refine takeG (some 27) (i := 1) (v := ?vna1x2) rfl rfl (by kernel_rfl) (by kernel_rfl) (by kernel_rfl) (fun _ _ _ h => h) (Or.inl ⟨by rfl, ?hna1x2⟩) hS0 ?rna1x2
      case hna1x2 => (intro w _; go_simp; try (with_reducible rfl))
      try simp only [Act.put, List.setIfInBounds_toArray, List.set_cons_zero, List.set_cons_succ]
      refine takeG (some 28) (i := 2) (v := ?vna2x3) rfl rfl (by kernel_rfl) (by kernel_rfl) (by kernel_rfl) (fun _ _ _ h => h) (Or.inl ⟨by rfl, ?hna2x3⟩) hS0 ?rna2x3
      case hna2x3 => (intro w _; go_simp; try (with_reducible rfl))
      try simp only [Act.put, List.setIfInBounds_toArray, List.set_cons_zero, List.set_cons_succ]
      refine takeG (some 29) (i := 3) (v := ?vna3x4) rfl rfl (by kernel_rfl) (by kernel_rfl) (by kernel_rfl) (fun _ _ _ h => h) (Or.inl ⟨by rfl, ?hna3x4⟩) hS0 ?rna3x4
      case hna3x4 => (intro w _; go_simp; try (with_reducible rfl))
      try simp only [Act.put, List.setIfInBounds_toArray, List.set_cons_zero, List.set_cons_succ]
      refine takeG (some 31) (i := 5) (v := _) rfl rfl (by kernel_rfl) (by kernel_rfl) (by kernel_rfl) (fun _ _ _ h => h) (yields_rel (by rfl) _ rfl rfl (fun wx hx => hx)) hS0 ?_
      try simp only [Act.put, List.setIfInBounds_toArray, List.set_cons_zero, List.set_cons_succ]
      refine takeG (some 32) (i := 6) (v := ?vna6x6) rfl rfl (by kernel_rfl) (by kernel_rfl) (by kernel_rfl) (fun _ _ _ h => h) (Or.inl ⟨by rfl, ?hna6x6⟩) hS0 ?rna6x6
      case hna6x6 => (intro w _; go_simp; try (with_reducible rfl))
      try simp only [Act.put, List.setIfInBounds_toArray, List.set_cons_zero, List.set_cons_succ]
      refine wpAnyH_ready (rs := [4, 7]) (by kernel_rfl) (by simp) ?_
      refine AllReadyH.cons rfl (fun K hK => ?_) (AllReadyH.cons rfl (fun K hK => ?_) AllReadyH.nil)
      ·
        have hc7 := (HQ.out _ kd).a.cB
        go_simp
        refine hK.out _ _ hS0 (fun _ => ?_)
        clear hK K hc7
        refine wpAnyH_ready (rs := [7]) (by kernel_rfl) (by simp) ?_
        refine AllReadyH.cons rfl (fun K hK => ?_) AllReadyH.nil
        go_simp
        refine (CS.out _).mono ?_
        rintro e q8 ⟨rfl, j8⟩
        show K _ _
        have k8 := below_then kd j8
        have s8 := (HQ.out _ k8).r
        refine hK.out _ _ s8 (fun _ => ?_)
        clear hK K
        refine wpAnyH_ready (rs := [8]) (by kernel_rfl) (by simp) ?_
        refine AllReadyH.cons rfl (fun K hK => ?_) AllReadyH.nil
        go_simp
        have RA := (HQ.out _ k8).below (box_below q8 (.cells #[.int .u64 ((baseN h C k : Nat) : Int)] 36))
        have s9 := RA.r
        refine hK.out _ _ s9 (fun _ => ?_)
        clear hK K
        refine wpAnyH_ready (rs := [9]) (by kernel_rfl) (by simp) ?_
        refine AllReadyH.cons rfl (fun K hK => ?_) AllReadyH.nil
        refine step_append_lies _ rfl (.tmp 30) (.tmp 34) 64 rfl (M + 1) 36 i0 (.int .u64 0) 1 8 Tryd.underlying64 hi0 hz0 hz1 hz2 rfl (by decide) (.slice va k vc) k _ (by simp [Act.eval]) RA.ow ⟨q8.heap.size, 0, none⟩ 1 1 [.int .u64 ((baseN h C k : Nat) : Int)] (by simp [Act.eval]) rfl (lit_newJ _ _ _) (by intro u hu; simp at hu; subst hu; rfl) (by decide) (by unfold maxLen; omega) (by omega) (by have := RA.r.lt; omega) _ rfl ?_
        intro g5 c5 w5 hown5 hg5 _ _
        obtain ⟨a5, r5, r6, q6⟩ := RA.add hown5 hg5
        refine hK.out _ _ r5 (fun _ => ?_)
        clear hK K hown5 hg5
        refine takeG (some 36) (i := 10) (v := ?vna10x11) rfl rfl (by kernel_rfl) (by kernel_rfl) (by kernel_rfl) (fun _ _ _ h => h) (Or.inl ⟨by rfl, ?hna10x11⟩) r5 ?rna10x11
        case hna10x11 => (intro w _; go_simp; try (with_reducible rfl))
        try simp only [Act.put, List.setIfInBounds_toArray]
        refine takeG (some 37) (i := 11) (v := ?vna11x12) rfl rfl (by kernel_rfl) (by kernel_rfl) (by kernel_rfl) (fun _ _ _ h => h) (Or.inl ⟨by rfl, ?hna11x12⟩) r5 ?rna11x12
        case hna11x12 => (intro w _; go_simp; try (with_reducible rfl))
        try simp only [Act.put]
        refine wpAnyH_ready (rs := [12]) (by kernel_rfl) (by simp) ?_
        refine AllReadyH.cons rfl (fun K hK => ?_) AllReadyH.nil
        have c2 := a5.cB
        have f2 := a5.free (i := 2) (by omega)
        go_simp
        refine hK.out _ _ r6 (fun _ => ?_)
        clear hK K c2 f2 a5 r5
        refine wpAnyH_done (by kernel_rfl) ?_ _
        go_wp2_with fail
        go_roundw
        case rel => exact ⟨k + 1, _, by omega, by go_num, q6⟩
        case measure => simp [intOf]; omega
      ·
        go_simp
        refine (CS.out _).mono ?_
        rintro e q14 ⟨rfl, j14⟩
        show K _ _
        have k14 := below_then kd j14
        have s14 := (HQ.out _ k14).r
        refine hK.out _ _ s14 (fun _ => ?_)
        clear hK K
        refine wpAnyH_ready (rs := [4, 8]) (by kernel_rfl) (by simp) ?_
        refine AllReadyH.cons rfl (fun K hK => ?_) (AllReadyH.cons rfl (fun K hK => ?_) AllReadyH.nil)
        ·
          have hc15 := (HQ.out _ k14).a.cB
          go_simp
          refine hK.out _ _ s14 (fun _ => ?_)
          clear hK K hc15
          refine wpAnyH_ready (rs := [8]) (by kernel_rfl) (by simp) ?_
          refine AllReadyH.cons rfl (fun K hK => ?_) AllReadyH.nil
          go_simp
          have RA := (HQ.out _ k14).below (box_below q14 (.cells #[.int .u64 ((baseN h C k : Nat) : Int)] 36))
          have s16 := RA.r
          refine hK.out _ _ s16 (fun _ => ?_)
          clear hK K
          refine wpAnyH_ready (rs := [9]) (by kernel_rfl) (by simp) ?_
          refine AllReadyH.cons rfl (fun K hK => ?_) AllReadyH.nil
          refine step_append_lies _ rfl (.tmp 30) (.tmp 34) 64 rfl (M + 1) 36 i0 (.int .u64 0) 1 8 Tryd.underlying64 hi0 hz0 hz1 hz2 rfl (by decide) (.slice va k vc) k _ (by simp [Act.eval]) RA.ow ⟨q14.heap.size, 0, none⟩ 1 1 [.int .u64 ((baseN h C k : Nat) : Int)] (by simp [Act.eval]) rfl (lit_newJ _ _ _) (by intro u hu; simp at hu; subst hu; rfl) (by decide) (by unfold maxLen; omega) (by omega) (by have := RA.r.lt; omega) _ rfl ?_
          intro g5 c5 w5 hown5 hg5 _ _
          obtain ⟨a5, r5, r6, q6⟩ := RA.add hown5 hg5
          refine hK.out _ _ r5 (fun _ => ?_)
          clear hK K hown5 hg5
          refine takeG (some 36) (i := 10) (v := ?vna10x18) rfl rfl (by kernel_rfl) (by kernel_rfl) (by kernel_rfl) (fun _ _ _ h => h) (Or.inl ⟨by rfl, ?hna10x18⟩) r5 ?rna10x18
          case hna10x18 => (intro w _; go_simp; try (with_reducible rfl))
          try simp only [Act.put, List.setIfInBounds_toArray]
          refine takeG (some 37) (i := 11) (v := ?vna11x19) rfl rfl (by kernel_rfl) (by kernel_rfl) (by kernel_rfl) (fun _ _ _ h => h) (Or.inl ⟨by rfl, ?hna11x19⟩) r5 ?rna11x19
          case hna11x19 => (intro w _; go_simp; try (with_reducible rfl))
          try simp only [Act.put]
          refine wpAnyH_ready (rs := [12]) (by kernel_rfl) (by simp) ?_
          refine AllReadyH.cons rfl (fun K hK => ?_) AllReadyH.nil
          have c2 := a5.cB
          have f2 := a5.free (i := 2) (by omega)
          go_simp
          refine hK.out _ _ r6 (fun _ => ?_)
          clear hK K c2 f2 a5 r5
          refine wpAnyH_done (by kernel_rfl) ?_ _
          go_wp2_with fail
          go_roundw
          case rel => exact ⟨k + 1, _, by omega, by go_num, q6⟩
          case measure => simp [intOf]; omega
        ·
          go_simp
          have RA := (HQ.out _ k14).below (box_below q14 (.cells #[.int .u64 ((baseN h C k : Nat) : Int)] 36))
          have s21 := RA.r
          refine hK.out _ _ s21 (fun _ => ?_)
          clear hK K
          refine wpAnyH_ready (rs := [4]) (by kernel_rfl) (by simp) ?_
          refine AllReadyH.cons rfl (fun K hK => ?_) AllReadyH.nil
          have hc22 := RA.a.cB
          go_simp
          refine hK.out _ _ s21 (fun _ => ?_)
          clear hK K hc22
          refine wpAnyH_ready (rs := [9]) (by kernel_rfl) (by simp) ?_
          refine AllReadyH.cons rfl (fun K hK => ?_) AllReadyH.nil
          refine step_append_lies _ rfl (.tmp 30) (.tmp 34) 64 rfl (M + 1) 36 i0 (.int .u64 0) 1 8 Tryd.underlying64 hi0 hz0 hz1 hz2 rfl (by decide) (.slice va k vc) k _ (by simp [Act.eval]) RA.ow ⟨q14.heap.size, 0, none⟩ 1 1 [.int .u64 ((baseN h C k : Nat) : Int)] (by simp [Act.eval]) rfl (lit_newJ _ _ _) (by intro u hu; simp at hu; subst hu; rfl) (by decide) (by unfold maxLen; omega) (by omega) (by have := RA.r.lt; omega) _ rfl ?_
          intro g5 c5 w5 hown5 hg5 _ _
          obtain ⟨a5, r5, r6, q6⟩ := RA.add hown5 hg5
          refine hK.out _ _ r5 (fun _ => ?_)
          clear hK K hown5 hg5
          refine takeG (some 36) (i := 10) (v := ?vna10x24) rfl rfl (by kernel_rfl) (by kernel_rfl) (by kernel_rfl) (fun _ _ _ h => h) (Or.inl ⟨by rfl, ?hna10x24⟩) r5 ?rna10x24
          case hna10x24 => (intro w _; go_simp; try (with_reducible rfl))
          try simp only [Act.put, List.setIfInBounds_toArray]
          refine takeG (some 37) (i := 11) (v := ?vna11x25) rfl rfl (by kernel_rfl) (by kernel_rfl) (by kernel_rfl) (fun _ _ _ h => h) (Or.inl ⟨by rfl, ?hna11x25⟩) r5 ?rna11x25
          case hna11x25 => (intro w _; go_simp; try (with_reducible rfl))
          try simp only [Act.put]
          refine wpAnyH_ready (rs := [12]) (by kernel_rfl) (by simp) ?_
          refine AllReadyH.cons rfl (fun K hK => ?_) AllReadyH.nil
          have c2 := a5.cB
          have f2 := a5.free (i := 2) (by omega)
          go_simp
          refine hK.out _ _ r6 (fun _ => ?_)
          clear hK K c2 f2 a5 r5
          refine wpAnyH_done (by kernel_rfl) ?_ _
          go_wp2_with fail
          go_roundw
          case rel => exact ⟨k + 1, _, by omega, by go_num, q6⟩
          case measure => simp [intOf]; omega
    · have hk2 : k = h.length := by omega
      subst hk2
      go_wp2_with fail
      go_ret
      exact ⟨_, _, _, _, rfl, HFIN.out _ _ _ _ hI⟩
end Go.Proofs.YtecpeegbfeijaaaDoor

namespace Go.Proofs.YtecpeegbfeijaaaDoor
set_option maxRecDepth 100000
open Go.RowKit

section
variable {w0 w w' : World} {N S B b : Nat} {h : List TxnV} {C : Nat} {r : List Nat} {vb vr : Value} {aF sF : Nat → Nat}
theorem PlX.lt (p : PlX w0 N S B b h C r vb vr aF sF w) : (∀ k ∈ r, k < h.length) ∧ r.Nodup := by
  obtain ⟨W, _, _, q⟩ := p; exact ⟨q.lt, q.nd⟩
theorem PlX.rowG (p : PlX w0 N S B b h C r vb vr aF sF w) (hc : checkI h = 0) : RowG h C r := by
  have h64 := (check_zero hc).1
  obtain ⟨W, _, _, q⟩ := p
  exact ⟨q.nd, fun k hk => by have := q.lt k hk; omega, q.base⟩
theorem xnew_any (x : Int) (hO : OrdIs w0 B b h) (hc : checkI h = 0) (ht : Tab w0) (hb : Below w0.heap.size w0 w) :
    Calls Tryd.prog 18 #[.pointer (some ⟨B, 0, none⟩), .int .i64 x] w fun e w' => ∃ S vb aF sF, e = .returned (.pointer (some ⟨S, 0, none⟩)) ∧ PlX w0 w.heap.size S B b h (clI x) [] vb (.slice none 0 0) aF sF w' ∧ Below w.heap.size w w' :=
  (pnew_any x h B b w (hO.below hb) hc (ht.below hb ht.pos)).mono fun _ _ ⟨S, vb, aF, sF, e, q⟩ => ⟨S, vb, aF, sF, e, ⟨w, hb, rfl, q⟩, q.bel⟩
theorem xtry_yes (p : PlX w0 N S B b h C r vb vr aF sF w) (hc : checkI h = 0) (hC : C < 9223372036854775808) (i : Nat) (hn : tryP h C r i = true) :
    Calls Tryd.prog 11 #[.pointer (some ⟨S, 0, none⟩), .int .i64 i] w fun e w' => e = .returned (.bool true) ∧ ∃ vr' aF' sF', PlX w0 N S B b h C (i :: r) vb vr' aF' sF' w' ∧ PlStep S vr vr' w w' := by
  obtain ⟨W, h1, h2, q⟩ := p
  exact (ptry_yes q hc hC i hn).mono fun _ _ ⟨e, vr', aF', sF', q', k⟩ => ⟨e, vr', aF', sF', ⟨W, h1, h2, q'⟩, k⟩
theorem xtry_no (p : PlX w0 N S B b h C r vb vr aF sF w) (hc : checkI h = 0) (hC : C < 9223372036854775808) (i : Int) (hn : tryI h C r i = false) :
    Calls Tryd.prog 11 #[.pointer (some ⟨S, 0, none⟩), .int .i64 i] w fun e w' => e = .returned (.bool false) ∧ Below w.heap.size w w' := by
  obtain ⟨W, h1, h2, q⟩ := p
  exact ptry_no q hc hC i hn
theorem xundo_cons {i : Nat} (p : PlX w0 N S B b h C (i :: r) vb vr aF sF w) (h64 : h.length ≤ 64) :
    Calls Tryd.prog 19 #[.pointer (some ⟨S, 0, none⟩)] w fun e w' => e = .returned (.bool true) ∧ ∃ vr', PlX w0 N S B b h C r vb vr' aF sF w' ∧ PlStep S vr vr' w w' := by
  obtain ⟨W, h1, h2, q⟩ := p
  exact (pundo_cons q h64).mono fun _ _ ⟨e, vr', q', k⟩ => ⟨e, vr', ⟨W, h1, h2, q'⟩, k⟩
theorem xplaced_any (p : PlX w0 N S B b h C r vb vr aF sF w) : Calls Tryd.prog 10 #[.pointer (some ⟨S, 0, none⟩)] w fun e w' => e = .returned (.int .u64 ((plS r : Nat) : Int)) ∧ w = w' := by
  obtain ⟨W, h1, h2, q⟩ := p; exact pplaced_any q
theorem xrow_any (p : PlX w0 N S B b h C r vb vr aF sF w) (h64 : h.length ≤ 64) : Calls Tryd.prog 13 #[.pointer (some ⟨S, 0, none⟩)] w fun e w' => ∃ v, e = .returned v ∧ Ints w' v (r.reverse.map Int.ofNat) ∧ Below w.heap.size w w' := by
  obtain ⟨W, h1, h2, q⟩ := p; exact prow_any q h64
end
/-- A block of a state. -/
def PlOf (S : Nat) (vb vr : Value) (g : Nat) : Prop := g = S ∨ vb.ownBlock = some g ∨ vr.ownBlock = some g
/-- Two states of one history, apart. -/
structure Two (w0 : World) (B b : Nat) (h : List TxnV) (C N1 S1 : Nat) (r1 : List Nat) (vb1 vr1 : Value) (aF1 sF1 : Nat → Nat) (N2 S2 : Nat) (r2 : List Nat) (vb2 vr2 : Value) (aF2 sF2 : Nat → Nat) (w : World) : Prop where
  p1 : PlX w0 N1 S1 B b h C r1 vb1 vr1 aF1 sF1 w
  p2 : PlX w0 N2 S2 B b h C r2 vb2 vr2 aF2 sF2 w
  ap : ∀ g, PlOf S1 vb1 vr1 g → ¬ PlOf S2 vb2 vr2 g
section
variable {w0 w w' : World} {B b : Nat} {h : List TxnV} {C N1 S1 N2 S2 : Nat} {r1 r2 : List Nat} {vb1 vr1 vb2 vr2 : Value} {aF1 sF1 aF2 sF2 : Nat → Nat}
theorem PlX.of (p : PlX w0 N1 S1 B b h C r1 vb1 vr1 aF1 sF1 w) {g : Nat} (hg : PlOf S1 vb1 vr1 g) : w0.heap.size ≤ g ∧ g < w.heap.size := by
  obtain ⟨a, c, d⟩ := p.lowS
  obtain ⟨o1, o2⟩ := p.own
  rcases hg with rfl | hg | hg
  · omega
  · have := o1 g hg; omega
  · have := o2 g hg; omega
theorem Two.symm (t : Two w0 B b h C N1 S1 r1 vb1 vr1 aF1 sF1 N2 S2 r2 vb2 vr2 aF2 sF2 w) : Two w0 B b h C N2 S2 r2 vb2 vr2 aF2 sF2 N1 S1 r1 vb1 vr1 aF1 sF1 w := ⟨t.p2, t.p1, fun g a c => t.ap g c a⟩
theorem Two.below (t : Two w0 B b h C N1 S1 r1 vb1 vr1 aF1 sF1 N2 S2 r2 vb2 vr2 aF2 sF2 w) (hb : Below w.heap.size w w') : Two w0 B b h C N1 S1 r1 vb1 vr1 aF1 sF1 N2 S2 r2 vb2 vr2 aF2 sF2 w' := ⟨t.p1.below hb, t.p2.below hb, t.ap⟩
/-- The first one goes on. -/
theorem Two.step (t : Two w0 B b h C N1 S1 r1 vb1 vr1 aF1 sF1 N2 S2 r2 vb2 vr2 aF2 sF2 w) (hO : OrdIs w0 B b h) (ht : Tab w0) {r' : List Nat} {vr' : Value} {aF' sF' : Nat → Nat} (p' : PlX w0 N1 S1 B b h C r' vb1 vr' aF' sF' w') (k : PlStep S1 vr1 vr' w w') :
    Two w0 B b h C N1 S1 r' vb1 vr' aF' sF' N2 S2 r2 vb2 vr2 aF2 sF2 w' := by
  have hq : ∀ g, (g = S1 ∨ vr1.ownBlock = some g) → PlOf S1 vb1 vr1 g := fun g hg => hg.imp id .inr
  refine ⟨p', t.p2.apart hO ht (ApartQ.of_step k) (fun g hg => (t.p1.of (hq g hg)).1) (fun e => t.ap _ (hq _ e) (.inl rfl)) (fun g e q => t.ap _ (hq _ q) (.inr (.inl e))) (fun g e q => t.ap _ (hq _ q) (.inr (.inr e))), fun g hg h2 => ?_⟩
  rcases hg with rfl | hg | hg
  · exact t.ap _ (.inl rfl) h2
  · exact t.ap _ (.inr (.inl hg)) h2
  · rcases k.own g hg with q | q
    · exact t.ap _ (.inr (.inr q)) h2
    · have := (t.p2.of h2).2; omega
theorem Two.made (hb : Below w.heap.size w w') (p1 : PlX w0 N1 S1 B b h C r1 vb1 vr1 aF1 sF1 w) (p2 : PlX w0 w.heap.size S2 B b h C r2 vb2 vr2 aF2 sF2 w') : Two w0 B b h C N1 S1 r1 vb1 vr1 aF1 sF1 w.heap.size S2 r2 vb2 vr2 aF2 sF2 w' := by
  refine ⟨p1.below hb, p2, fun g hg h2 => ?_⟩
  have h1 := (p1.of hg).2
  have h3 := p2.lowS.1
  have h4 := p2.own
  rcases h2 with rfl | h2 | h2
  · omega
  · have := (h4.1 g h2).1; omega
  · have := (h4.2 g h2).1; omega
end
end Go.Proofs.YtecpeegbfeijaaaDoor

namespace Go.Proofs.YtecpeegbfeijaaaDoor
set_option maxRecDepth 100000
open Go.RowKit

theorem run_nil_map (b : Nat) (w : World) : Sem.run Tryd.prog (binOp BinOp.eql 47 (.map (some b)) (.map none)) w = .ok (.bool false) w := by kernel_rfl
section
variable {w : World} {b n : Nat} {f : Nat → ByteArray → Bool} {p : Nat} {s : ByteArray}
set_option maxHeartbeats 4000000 in
theorem mhas_any (hM : MemM w b n f) (hp : p < 18446744073709551616) (hs : s.size ≤ maxLen) :
    Calls Tryd.prog 15 #[.map (some b), kV p s] w fun e w' => e = .returned (.bool (f p s)) ∧ Below w.heap.size w w' := by
  unfold kV
  have hb1 := (Below.refl w.heap.size w).alloc (Nat.le_refl _) (.cells #[.int .u64 (p : Int), .string s] 38)
  have hM1 := hM.alloc (.cells #[.int .u64 (p : Int), .string s] 38)
  have HB : Hid (∀ o, Below w.heap.size w ((w.alloc (.cells #[.int .u64 (p : Int), .string s] 38)).alloc o)) := Lib.hid (fun o => hb1.alloc (by simp) _)
  have c0 : (w.alloc (.cells #[.int .u64 (p : Int), .string s] 38)).cell? ⟨w.heap.size, 0, none⟩ = some (.int .u64 (p : Int)) := by rw [cell_of_row _ _ _ _ _ _ (heap_alloc_new w _)]; rfl
  have c1 : (w.alloc (.cells #[.int .u64 (p : Int), .string s] 38)).cell? ⟨w.heap.size, 1, none⟩ = some (.string s) := by rw [cell_of_row _ _ _ _ _ _ (heap_alloc_new w _)]; rfl
  clear hM hb1
  go_enter Tryd.func15, Tryd.ntmps15
  go_wp2_with (first | (at_lookup; refine wpList_lookM _ rfl _ _ _ rfl rfl _ _ _ rfl hM1 _ _ rfl hp hs ?_) | go_in)
  go_ret
  exact ⟨rfl, HB.out _⟩
set_option maxHeartbeats 4000000 in
theorem madd_no (hM : MemM w b n f) (hp : p < 18446744073709551616) (hs : s.size ≤ maxLen) (hf : f p s = true) :
    Calls Tryd.prog 14 #[.map (some b), kV p s] w fun e w' => e = .returned (.bool false) ∧ Below w.heap.size w w' := by
  have hb1 := (Below.refl w.heap.size w).alloc (Nat.le_refl _) (.cells #[.int .u64 (p : Int), .string s] 38)
  have hM1 := hM.alloc (.cells #[.int .u64 (p : Int), .string s] 38)
  have c0 : (w.alloc (.cells #[.int .u64 (p : Int), .string s] 38)).cell? ⟨w.heap.size, 0, none⟩ = some (.int .u64 (p : Int)) := by rw [cell_of_row _ _ _ _ _ _ (heap_alloc_new w _)]; rfl
  have c1 : (w.alloc (.cells #[.int .u64 (p : Int), .string s] 38)).cell? ⟨w.heap.size, 1, none⟩ = some (.string s) := by rw [cell_of_row _ _ _ _ _ _ (heap_alloc_new w _)]; rfl
  have CH := Lib.hid (mhas_any hM1 hp hs)
  rw [hf] at CH
  have HB1 := Lib.hid hb1
  clear hM hM1 hb1
  unfold kV at CH ⊢
  have hnil := run_nil_map b
  go_enter Tryd.func14, Tryd.ntmps14
  go_wp2_with fail
  refine CH.out.mono ?_
  rintro e w1 ⟨rfl, hb⟩
  have hb2 := below_then HB1.out hb
  go_wp2_with fail
  go_ret
  exact ⟨rfl, hb2⟩
set_option maxHeartbeats 4000000 in
theorem madd_yes (hM : MemM w b n f) (hn : n < maxLen) (hp : p < 18446744073709551616) (hs : s.size ≤ maxLen) (hf : f p s = false) :
    Calls Tryd.prog 14 #[.map (some b), kV p s] w fun e w' => e = .returned (.bool true) ∧ MemM w' b (n + 1) (fun q u => decide (q = p ∧ u = s) || f q u) ∧ w.grownBy w' (some b) := by
  have hb1 := (Below.refl w.heap.size w).alloc (Nat.le_refl _) (.cells #[.int .u64 (p : Int), .string s] 38)
  have hM1 := hM.alloc (.cells #[.int .u64 (p : Int), .string s] 38)
  have c0 : (w.alloc (.cells #[.int .u64 (p : Int), .string s] 38)).cell? ⟨w.heap.size, 0, none⟩ = some (.int .u64 (p : Int)) := by rw [cell_of_row _ _ _ _ _ _ (heap_alloc_new w _)]; rfl
  have c1 : (w.alloc (.cells #[.int .u64 (p : Int), .string s] 38)).cell? ⟨w.heap.size, 1, none⟩ = some (.string s) := by rw [cell_of_row _ _ _ _ _ _ (heap_alloc_new w _)]; rfl
  have CH := Lib.hid (mhas_any hM1 hp hs)
  rw [hf] at CH
  have HB1 := Lib.hid hb1
  have hsz : w.heap.size < (w.alloc (.cells #[.int .u64 (p : Int), .string s] 38)).heap.size := by simp
  have hM0 := Lib.hid hM1
  clear hM hM1 hb1
  have HK : Hid (∀ wx, Below (w.alloc (.cells #[.int .u64 (p : Int), .string s] 38)).heap.size (w.alloc (.cells #[.int .u64 (p : Int), .string s] 38)) wx → wx.cell? ⟨w.heap.size, 0, none⟩ = some (.int .u64 (p : Int)) ∧ wx.cell? ⟨w.heap.size, 1, none⟩ = some (.string s) ∧ MemM wx b n f) :=
    Lib.hid (fun wx hx => ⟨(hx.cell (p := ⟨w.heap.size, 0, none⟩) hsz).trans c0, (hx.cell (p := ⟨w.heap.size, 1, none⟩) hsz).trans c1, hM0.out.below hx hM0.out.lt⟩)
  have HG : Hid (∀ wx wy, Below (w.alloc (.cells #[.int .u64 (p : Int), .string s] 38)).heap.size (w.alloc (.cells #[.int .u64 (p : Int), .string s] 38)) wx → wx.grownBy wy (some b) → w.grownBy wy (some b)) :=
    Lib.hid (fun wx wy hx hg => ⟨hg.os.trans hx.os, hg.tape.trans hx.tape, hg.output.trans hx.output, Nat.le_trans (Nat.le_trans (by simp) hx.size) hg.size, fun k hk hne => (hg.block k (Nat.lt_of_lt_of_le (Nat.lt_of_lt_of_le hk (by simp)) hx.size) hne).trans ((hx.block k (Nat.lt_of_lt_of_le hk (by simp))).trans (Below.heap_alloc w _ k hk))⟩)
  unfold kV at CH ⊢
  clear hsz hM0
  have hnil := run_nil_map b
  go_enter Tryd.func14, Tryd.ntmps14
  go_wp2_with fail
  refine CH.out.mono ?_
  rintro e w1 ⟨rfl, hb⟩
  obtain ⟨d0, d1, hM1⟩ := HK.out _ hb
  have HG1 := Lib.hid (fun wy hg => HG.out w1 wy hb hg)
  clear c0 c1 HK HG hb
  go_wp2_with (first | (at_mapUpdate; refine wpList_putM _ rfl _ _ _ _ rfl rfl _ _ _ rfl hM1 hn _ _ rfl hp hs rfl ?_; intro w2 hM2 hg2) | go_in)
  have hg3 := HG1.out _ hg2
  go_ret
  exact ⟨rfl, hM2, hg3⟩
end
end Go.Proofs.YtecpeegbfeijaaaDoor

namespace Go.Proofs.YtecpeegbfeijaaaDoor
set_option maxRecDepth 100000
open Go.RowKit

theorem bytes_eq (s u : ByteArray) : s.toList = u.toList ↔ s = u := by
  rw [ByteArray.toList_eq, ByteArray.toList_eq]
  exact ⟨fun h => ByteArray.ext (Array.toList_inj.1 h), fun h => by rw [h]⟩
theorem eqlK (p q : Nat) (s u : ByteArray) (w : World) : Sem.run Tryd.prog (binOp .eql 38 (.agg #[.int .u64 (p : Int), .string s]) (.agg #[.int .u64 (q : Int), .string u])) w = .ok (.bool (decide (p = q ∧ s = u))) w := by
  have hS : Tryd.prog.underlying 38 = some (.struct (Tryd.prog.fieldsOf 38)) := by kernel_rfl
  have hp : Tryd.prog.stoodInHeld 38 = false := by kernel_rfl
  have u3 := Tryd.underlying36
  have u4 := Tryd.underlying9
  rw [run_eql_struct, show (10000 : Nat) = 9999 + 1 from rfl, run_equalIn_agg w 9999 38 _ _ hS hp]
  simp only [Program.fieldsOf, Tryd.underlying38]
  go_simp
  have hpe : ((p : Int) = (q : Int)) ↔ p = q := Int.ofNat_inj
  have hse := bytes_eq s u
  by_cases h1 : p = q <;> by_cases h2 : s = u <;> simp [h1, h2, hpe, hse]
theorem neqK (p q : Nat) (s u : ByteArray) (w : World) : Sem.run Tryd.prog (binOp .neq 38 (.agg #[.int .u64 (p : Int), .string s]) (.agg #[.int .u64 (q : Int), .string u])) w = .ok (.bool (decide ¬ (p = q ∧ s = u))) w := by
  have hS : Tryd.prog.underlying 38 = some (.struct (Tryd.prog.fieldsOf 38)) := by kernel_rfl
  have hp : Tryd.prog.stoodInHeld 38 = false := by kernel_rfl
  have u3 := Tryd.underlying36
  have u4 := Tryd.underlying9
  rw [run_neq_struct, show (10000 : Nat) = 9999 + 1 from rfl, run_equalIn_agg w 9999 38 _ _ hS hp]
  simp only [Program.fieldsOf, Tryd.underlying38]
  go_simp
  have hpe : ((p : Int) = (q : Int)) ↔ p = q := Int.ofNat_inj
  have hse := bytes_eq s u
  by_cases h1 : p = q <;> by_cases h2 : s = u <;> simp [h1, h2, hpe, hse]
theorem guardK (o : BinOp) (x y : Operand) (p q : Nat) (s u : ByteArray) (w : World) : Sem.run Tryd.prog (eqGuard o 38 x y (.agg #[.int .u64 (p : Int), .string s]) (.agg #[.int .u64 (q : Int), .string u])) w = .ok () w :=
  run_eqGuard_agg w o 38 x y _ _ (by kernel_rfl)
end Go.Proofs.YtecpeegbfeijaaaDoor
