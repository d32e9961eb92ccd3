/- Walks and plain facts that the proof of the statement WholeEnough uses, joined: PlaK PlaL PlaM MemG MemB MemE FueA FueB FueC FueF PlaE MemA MemC BruB SeaA. Conditions: each theorem's own. -/
import Derived.Deep.AppendLies
import Derived.Deep.OwnRows
import Derived.Laws.CopyOwn
import Derived.Maps.OwnSet
import Derived.DeepKeys4
import Derived.Deep.QuietTactic
import Derived.BigQuiet
import Derived.OwnWalk
import Derived.Test.YtnhkjehfmbfmmaaGreatDoorPWholeEnough0
import Derived.Test.YtnhkjehfmbfmmaaGreatDoorPWholeEnough2
import Derived.Test.YtnhkjehfmbfmmaaGreatDoorPWholeEnough3
import Derived.Test.YtnhkjehfmbfmmaaGreatDoorPWholeEnough4
namespace Go.Proofs.YtnhkjehfmbfmmaaGreatDoor
set_option maxHeartbeats 32000000
set_option maxRecDepth 100000
set_option linter.unusedSimpArgs false
set_option linter.unusedVariables false
open Lib (hid)
section
open Go.RowKit
theorem lit_newI (w : World) (x : Value) (t : TypeId) : ∀ j u, [x][j]? = some u → (w.alloc (.cells #[x] t)).cell? ((⟨w.heap.size, 0, none⟩ : Addr).add j) = some u := fun j u hu => by
 match j, hu with
 | 0, hu =>
  simp at hu; subst hu
  rw [Addr.add_lit, Nat.add_zero, cell_of_row _ _ _ _ _ _ (heap_alloc_new w _)]; rfl
 | j + 1, hu => simp at hu
section
variable {W : World} {S B b : Nat} {h : List TxnV} {C : Nat} {r : List Nat} {vb vr : Value} {aF sF : Nat → Nat} {w : World}
theorem ptry_yes (p : PlIs W S B b h C r vb vr aF sF w) (hc : checkI h = 0) (hC : C < 9223372036854775808) (i : Nat) (hn : tryP h C r i = true) : Calls Tryz.prog 174 #[.pointer (some ⟨S, 0, none⟩), .int .i64 i] w fun e w' => e = .returned (.bool true) ∧ ∃ vr' aF' sF', PlIs W S B b h C (i :: r) vb vr' aF' sF' w' ∧ PlStep S vr vr' w w' := by
 have h64 := (check_zero hc).1
 have n0 := p.a.cO
 have n2 := p.a.cB
 have n4 := p.a.cP
 have nB := p.ord.blk.cN
 have hn2 := hn
 unfold tryP at hn2
 simp only [Bool.and_eq_true, decide_eq_true_eq, Bool.not_eq_true', decide_eq_false_iff_not] at hn2
 obtain ⟨h1, h2, h3, h4⟩ := hn2
 have hd0 : decide ((i : Int) < 0) = false := decide_eq_false (by omega)
 have h1' : ¬ (h.length : Int) ≤ (i : Int) := by omega
 have hd1 : decide ((h.length : Int) ≤ (i : Int)) = false := decide_eq_false h1'
 have hd1n : decide (h.length ≤ i) = false := decide_eq_false (by omega)
 have hi64 : i < 64 := by omega
 have hi64i : (i : Int) < 64 := by omega
 have hlt : ∀ k ∈ r, k < 64 := fun k hk => by have := p.lt k hk; omega
 have hps := plS_set r
 have hbs := baseN_set h C i
 have CH := hid (fun wx => (has_any (plS r) (i : Int) wx hps).mono fun _ _ h => And.intro h.1 h.2.symm)
 have CI := hid (fun wx => (within_any (baseN h C i) (plS r) wx hbs hps).mono fun _ _ h => And.intro h.1 h.2.symm)
 have hhas : hasB (plS r) (i : Int) = decide (i ∈ r) := by
  unfold hasB
  have : decide (0 ≤ (i : Int) ∧ (i : Int) < 64) = true := by simp; omega
  rw [this, Int.toNat_natCast, plS_bit i r hlt, Bool.true_and]
 rw [hhas, decide_eq_false h2] at CH
 rw [h3] at CI
 obtain ⟨gb, ob, cb, hvb, hcb⟩ := p.bcell h1
 have h1i : (i : Int) < (h.length : Int) := by omega
 have CW := hid (fun wx (hx : Below w.heap.size w wx) => pwould_any (p.below hx) hc hC i h1)
 have hb3 := (inB_bits hbs).1 h3
 have e2 := p.readsEq hc hC h1 hb3
 rw [p.actual h64 hb3] at CW
 have hns : IsSet (nextN h C r i) := wld4_set hbs hps (rivN_set h i) (fun k _ => plSee_set h C r k) (fun k _ => aheadL_set r k)
 have CR := hid (fun wx (hx : Below w.heap.size w wx) => preads_any (p.below hx) hc i h1 _ hns)
 rw [e2, h4] at CR
 have CWT : Hid (∀ wx, Calls Tryz.prog 106 #[.int .u64 ((plS r : Nat) : Int), .int .i64 i] wx fun e w' => e = .returned (.int .u64 ((plS (i :: r) : Nat) : Int)) ∧ wx = w') := hid (fun wx => with_any (plS r) (i : Int) wx hps)
 obtain ⟨i0, hi0, hz0, hz1, hz2⟩ := info_parts infoInt
 have hlen := p.len
 have HR := hid (fun wx (hx : Below w.heap.size w wx) => p.raw.below hx)
 have HD := hid (fun (w4 w5 : World) (q : PlRaw W S B C h r vb vr (updN aF i (plS r)) (updN sF i (nextN h C r i)) w w4) (g cap : Nat) hown hg hl => PlIs.done p (i := i) (g := g) (cap := cap) (w5 := w5) h1 h2 hb3 h64 rfl q hown hg hl)
 have HNE := hid p.ne
 have hvr : ∃ va vc, vr = .slice va r.length vc := p.form
 rw [hvb] at n2
 have hb0 := Below.refl w.heap.size w
 clear p hn hc h3 h4 e2 hb3 hns hps hbs hlt hhas hvb
 go_enter Tryz.func174, Tryz.ntmps174
 go_wp2_with fail
 go_quiet ((first
  | (go_at_call 173; exact Calls.quiet_of_same (CH.out _))
  | (go_at_call 230; exact Calls.quiet_of_same (CI.out _))))
 have hb1 := below_drewN hb0 nq
 generalize w.drewN nq = w1 at *
 clear n0 n2 n4 nB hcb
 go_wp2_with fail
 refine (CW.out _ hb1).mono ?_
 rintro e w2 ⟨rfl, h2⟩
 have hb2 := below_then hb1 h2
 go_wp2_with fail
 refine (CR.out _ hb2).mono ?_
 rintro e w3 ⟨rfl, h3⟩
 have hb3 := below_then hb2 h3
 clear CH CI CW CR hb0 hb1 hb2 h2 h3
 go_upto_region 6 with fail
 have kd := hb3.drew
 generalize nextN h C r i = sn at *
 refine wp_region_held_drew (S := fun wx => wx.cell? ⟨S, 4, none⟩ = some (.int .u64 ((plS r : Nat) : Int))) (by kernel_rfl) (HR.out _ kd).a.cP (fun hS0 => ?_)
 generalize w3.drew = wd at *
 refine tG (some 50) 0 ?vta0x1 rfl rfl (Or.inl ⟨by rfl, ?hta0x1⟩) hS0 ?rta0x1
 case hta0x1 => (intro w hw; go_simp; try (with_reducible rfl))
 try simp only [Act.put, zA, zB, zC]
 refine tG (some 51) 1 ?vta1x2 rfl rfl (Or.inl ⟨by rfl, ?hta1x2⟩) hS0 ?rta1x2
 case hta1x2 => (intro w hw; go_simp; try (with_reducible rfl))
 try simp only [Act.put, zA, zB, zC]
 refine tG (some 52) 2 ?vta2x3 rfl rfl (Or.inl ⟨by rfl, ?hta2x3⟩) hS0 ?rta2x3
 case hta2x3 => (intro w hw; go_simp; try (with_reducible rfl))
 try simp only [Act.put, zA, zB, zC]
 refine tG (some 53) 3 ?vta3x4 rfl rfl (Or.inl ⟨by rfl, ?hta3x4⟩) hS0 ?rta3x4
 case hta3x4 => (intro w hw; go_simp; try (with_reducible rfl))
 try simp only [Act.put, zA, zB, zC]
 refine tG (some 54) 4 ?vta4x5 rfl rfl (Or.inl ⟨by rfl, ?hta4x5⟩) hS0 ?rta4x5
 case hta4x5 => (intro w hw; go_simp; try (with_reducible rfl))
 try simp only [Act.put, zA, zB, zC]
 refine tG (some 55) 5 ?vta5x6 rfl rfl (Or.inl ⟨by rfl, ?hta5x6⟩) hS0 ?rta5x6
 case hta5x6 => (intro w hw; go_simp; try (with_reducible rfl))
 try simp only [Act.put, zA, zB, zC]
 refine tG (some 56) 6 ?vta6x7 rfl rfl (Or.inl ⟨by rfl, ?hta6x7⟩) hS0 ?rta6x7
 case hta6x7 => (intro w hw; go_simp; try (with_reducible rfl))
 try simp only [Act.put, zA, zB, zC]
 refine tG (some 57) 7 ?vta7x8 rfl rfl (Or.inl ⟨by rfl, ?hta7x8⟩) hS0 ?rta7x8
 case hta7x8 => (intro w hw; go_simp; try (with_reducible rfl))
 try simp only [Act.put, zA, zB, zC]
 refine tG (some 58) 8 ?vta8x9 rfl rfl (Or.inl ⟨by rfl, ?hta8x9⟩) hS0 ?rta8x9
 case hta8x9 => (intro w hw; go_simp; try (with_reducible rfl))
 try simp only [Act.put, zA, zB, zC]
 refine tG (some 59) 9 ?vta9x10 rfl rfl (Or.inl ⟨by rfl, ?hta9x10⟩) hS0 ?rta9x10
 case hta9x10 => (intro w hw; go_simp; try (with_reducible rfl))
 try simp only [Act.put, zA, zB, zC]
 refine tG (some 60) 10 ?vta10x11 rfl rfl (Or.inl ⟨by rfl, ?hta10x11⟩) hS0 ?rta10x11
 case hta10x11 => (intro w hw; go_simp; try (with_reducible rfl))
 try simp only [Act.put, zA, zB, zC]
 refine tG (some 61) 11 ?vta11x12 rfl rfl (Or.inl ⟨by rfl, ?hta11x12⟩) hS0 ?rta11x12
 case hta11x12 => (intro w hw; go_simp; try (with_reducible rfl))
 try simp only [Act.put, zA, zB, zC]
 refine tG (some 62) 13 ?vta13x13 rfl rfl (Or.inl ⟨by rfl, ?hta13x13⟩) hS0 ?rta13x13
 case hta13x13 => (intro w hw; go_simp; try (with_reducible rfl))
 try simp only [Act.put, zA, zB, zC]
 refine tG (some 63) 14 ?vta14x14 rfl rfl (Or.inl ⟨by rfl, ?hta14x14⟩) hS0 ?rta14x14
 case hta14x14 => (intro w hw; go_simp; try (with_reducible rfl))
 try simp only [Act.put, zA, zB, zC]
 refine rD 12 rfl (fun K hK => ?_)
 have R1 := (HR.out _ kd).setA hi64 (plS r)
 have hc := (HR.out _ kd).a.cA hi64
 have hf := (HR.out _ kd).a.free (i := 5 + i) (by omega)
 go_simp
 have sA := R1.a.cP
 refine hK.out _ _ sA (fun _ => ?_)
 clear hK K hc hf
 refine tG (some 64) 15 ?vta15x16 rfl rfl (Or.inl ⟨by rfl, ?hta15x16⟩) sA ?rta15x16
 case hta15x16 => (intro w hw; go_simp; try (with_reducible rfl))
 try simp only [Act.put, zA, zB, zC]
 refine rD 16 rfl (fun K hK => ?_)
 have R2 := R1.setS hi64 sn
 have hc := R1.a.cS hi64
 have hf := R1.a.free (i := 69 + i) (by omega)
 go_simp
 have sB := R2.a.cP
 refine hK.out _ _ sB (fun _ => ?_)
 clear hK K hc hf R1
 refine wpAnyH_done (by kernel_rfl) ?_ _
 generalize (wd.setCell ⟨S, 5 + i, none⟩ (.int .u64 ((plS r : Nat) : Int))).setCell ⟨S, 69 + i, none⟩ (.int .u64 (sn : Int)) = w4 at *
 clear HR kd hb3 hS0 sA sB
 go_upto_region 7 with fail
 have kd := (Below.refl w4.heap.size w4).drew
 refine wp_region_held_drew (S := fun _ => True) (by kernel_rfl) trivial (fun hS0 => ?_)
 generalize w4.drew = wd at *
 have Rd := R2.below kd
 obtain ⟨va, vc, rfl⟩ := hvr
 refine tA (some 65) 0 rfl rfl hS0 ?_
 try simp only [Act.put, zA, zB, zC]
 refine tA (some 66) 1 rfl rfl hS0 ?_
 try simp only [Act.put, zA, zB, zC]
 refine tA (some 67) 2 rfl rfl hS0 ?_
 try simp only [Act.put, zA, zB, zC]
 refine tA (some 68) 3 rfl rfl hS0 ?_
 try simp only [Act.put, zA, zB, zC]
 refine tA (some 69) 4 rfl rfl hS0 ?_
 try simp only [Act.put, zA, zB, zC]
 refine tA (some 71) 6 rfl rfl hS0 ?_
 try simp only [Act.put, zA, zB, zC]
 refine tA (some 74) 9 rfl rfl hS0 ?_
 try simp only [Act.put, zA, zB, zC]
 refine tA (some 75) 10 rfl rfl hS0 ?_
 try simp only [Act.put, zA, zB, zC]
 refine tA (some 76) 11 rfl rfl hS0 ?_
 try simp only [Act.put, zA, zB, zC]
 refine tA (some 78) 13 rfl rfl hS0 ?_
 try simp only [Act.put, zA, zB, zC]
 refine wpAnyH_ready (rs := [5, 7, 12]) (by kernel_rfl) (by simp) ?_
 refine AllReadyH.cons rfl (fun K hK => ?_) (AllReadyH.cons rfl (fun K hK => ?_) (AllReadyH.cons rfl (fun K hK => ?_) AllReadyH.nil))
 ·
  have hc11 := Rd.a.cR
  go_simp
  refine hK.out _ _ trivial (fun _ => ?_)
  clear hK K hc11
  refine wpAnyH_ready (rs := [7, 12]) (by kernel_rfl) (by simp) ?_
  refine AllReadyH.cons rfl (fun K hK => ?_) (AllReadyH.cons rfl (fun K hK => ?_) AllReadyH.nil)
  ·
   go_simp
   have R12 := Rd.below (box_below wd (.cells #[.int .i64 (i : Int)] 3))
   refine hK.out _ _ trivial (fun _ => ?_)
   clear hK K
   refine wpAnyH_ready (rs := [8, 12]) (by kernel_rfl) (by simp) ?_
   refine AllReadyH.cons rfl (fun K hK => ?_) (AllReadyH.cons rfl (fun K hK => ?_) AllReadyH.nil)
   ·
    refine step_append_lies _ rfl (.tmp 70) (.tmp 72) 24 rfl (S + 1) 3 i0 (.int .i64 0) 1 8 Tryz.underlying24 hi0 hz0 hz1 hz2 rfl (by decide) (.slice va r.length vc) r.length _ (by simp [Act.eval]) R12.rw ⟨wd.heap.size, 0, none⟩ 1 1 [.int .i64 (i : Int)] (by simp [Act.eval]) rfl (lit_newI _ _ _) (by intro u hu; simp at hu; subst hu; rfl) (by decide) (by unfold maxLen; omega) (by omega) (by have := R12.a.lt; omega) _ rfl ?_
    intro g5 c5 w5 hown5 hg5 hl5 _
    obtain ⟨_, a5, _, _, _⟩ := R12.app HNE.out hown5 hg5 hl5
    have fin := HD.out _ _ R12 _ _ hown5 hg5 hl5
    refine hK.out _ _ trivial (fun _ => ?_)
    clear hK K hown5 hg5 hl5
    try simp only [Act.put, List.setIfInBounds_toArray]
    refine rD 12 rfl (fun K hK => ?_)
    have hc14 := a5.cP
    go_simp
    refine hK.out _ _ trivial (fun _ => ?_)
    clear hK K hc14
    refine rD 14 rfl (fun K hK => ?_)
    go_simp
    refine (CWT.out _).mono ?_
    rintro e y15 ⟨rfl, rfl⟩
    show K _ _
    refine hK.out _ _ trivial (fun _ => ?_)
    clear hK K
    refine tA (some 80) 15 rfl rfl hS0 ?_
    try simp only [Act.put, zA, zB, zC]
    refine tA (some 81) 16 rfl rfl hS0 ?_
    try simp only [Act.put, zA, zB, zC]
    refine rD 17 rfl (fun K hK => ?_)
    have c3 := a5.cR
    have f3 := a5.free (i := 3) (by omega)
    go_simp
    refine hK.out _ _ trivial (fun _ => ?_)
    clear hK K c3 f3
    refine tA (some 82) 18 rfl rfl hS0 ?_
    try simp only [Act.put, zA, zB, zC]
    refine tA (some 83) 19 rfl rfl hS0 ?_
    try simp only [Act.put, zA, zB, zC]
    refine rD 20 rfl (fun K hK => ?_)
    have f4 := a5.free (i := 4) (by omega)
    have n4 := a5.cP
    have q4 : (World.setCell w5 ⟨S, 3, none⟩ (.slice (some ⟨g5, 0, none⟩) (r.length + 1) c5)).cell? ⟨S, 4, none⟩ = some (.int .u64 ((plS r : Nat) : Int)) := by rw [World.cell?_setCell_other _ _ _ _ (by simp)]; exact n4
    go_simp
    refine hK.out _ _ trivial (fun _ => ?_)
    clear hK K q4 n4 f4
    refine wpAnyH_done (by kernel_rfl) ?_ _
    go_wp2_with fail
    go_ret
    exact ⟨rfl, _, _, _, fin.1, fin.2⟩
   ·
    have hc22 := R12.a.cP
    go_simp
    refine hK.out _ _ trivial (fun _ => ?_)
    clear hK K hc22
    refine rD 8 rfl (fun K hK => ?_)
    refine step_append_lies _ rfl (.tmp 70) (.tmp 72) 24 rfl (S + 1) 3 i0 (.int .i64 0) 1 8 Tryz.underlying24 hi0 hz0 hz1 hz2 rfl (by decide) (.slice va r.length vc) r.length _ (by simp [Act.eval]) R12.rw ⟨wd.heap.size, 0, none⟩ 1 1 [.int .i64 (i : Int)] (by simp [Act.eval]) rfl (lit_newI _ _ _) (by intro u hu; simp at hu; subst hu; rfl) (by decide) (by unfold maxLen; omega) (by omega) (by have := R12.a.lt; omega) _ rfl ?_
    intro g5 c5 w5 hown5 hg5 hl5 _
    obtain ⟨_, a5, _, _, _⟩ := R12.app HNE.out hown5 hg5 hl5
    have fin := HD.out _ _ R12 _ _ hown5 hg5 hl5
    refine hK.out _ _ trivial (fun _ => ?_)
    clear hK K hown5 hg5 hl5
    try simp only [Act.put, List.setIfInBounds_toArray]
    refine rD 14 rfl (fun K hK => ?_)
    go_simp
    refine (CWT.out _).mono ?_
    rintro e y24 ⟨rfl, rfl⟩
    show K _ _
    refine hK.out _ _ trivial (fun _ => ?_)
    clear hK K
    refine tA (some 80) 15 rfl rfl hS0 ?_
    try simp only [Act.put, zA, zB, zC]
    refine tA (some 81) 16 rfl rfl hS0 ?_
    try simp only [Act.put, zA, zB, zC]
    refine rD 17 rfl (fun K hK => ?_)
    have c3 := a5.cR
    have f3 := a5.free (i := 3) (by omega)
    go_simp
    refine hK.out _ _ trivial (fun _ => ?_)
    clear hK K c3 f3
    refine tA (some 82) 18 rfl rfl hS0 ?_
    try simp only [Act.put, zA, zB, zC]
    refine tA (some 83) 19 rfl rfl hS0 ?_
    try simp only [Act.put, zA, zB, zC]
    refine rD 20 rfl (fun K hK => ?_)
    have f4 := a5.free (i := 4) (by omega)
    have n4 := a5.cP
    have q4 : (World.setCell w5 ⟨S, 3, none⟩ (.slice (some ⟨g5, 0, none⟩) (r.length + 1) c5)).cell? ⟨S, 4, none⟩ = some (.int .u64 ((plS r : Nat) : Int)) := by rw [World.cell?_setCell_other _ _ _ _ (by simp)]; exact n4
    go_simp
    refine hK.out _ _ trivial (fun _ => ?_)
    clear hK K q4 n4 f4
    refine wpAnyH_done (by kernel_rfl) ?_ _
    go_wp2_with fail
    go_ret
    exact ⟨rfl, _, _, _, fin.1, fin.2⟩
  ·
   have hc31 := Rd.a.cP
   go_simp
   refine hK.out _ _ trivial (fun _ => ?_)
   clear hK K hc31
   refine rD 7 rfl (fun K hK => ?_)
   go_simp
   have R32 := Rd.below (box_below wd (.cells #[.int .i64 (i : Int)] 3))
   refine hK.out _ _ trivial (fun _ => ?_)
   clear hK K
   refine rD 8 rfl (fun K hK => ?_)
   refine step_append_lies _ rfl (.tmp 70) (.tmp 72) 24 rfl (S + 1) 3 i0 (.int .i64 0) 1 8 Tryz.underlying24 hi0 hz0 hz1 hz2 rfl (by decide) (.slice va r.length vc) r.length _ (by simp [Act.eval]) R32.rw ⟨wd.heap.size, 0, none⟩ 1 1 [.int .i64 (i : Int)] (by simp [Act.eval]) rfl (lit_newI _ _ _) (by intro u hu; simp at hu; subst hu; rfl) (by decide) (by unfold maxLen; omega) (by omega) (by have := R32.a.lt; omega) _ rfl ?_
   intro g5 c5 w5 hown5 hg5 hl5 _
   obtain ⟨_, a5, _, _, _⟩ := R32.app HNE.out hown5 hg5 hl5
   have fin := HD.out _ _ R32 _ _ hown5 hg5 hl5
   refine hK.out _ _ trivial (fun _ => ?_)
   clear hK K hown5 hg5 hl5
   try simp only [Act.put, List.setIfInBounds_toArray]
   refine rD 14 rfl (fun K hK => ?_)
   go_simp
   refine (CWT.out _).mono ?_
   rintro e y34 ⟨rfl, rfl⟩
   show K _ _
   refine hK.out _ _ trivial (fun _ => ?_)
   clear hK K
   refine tA (some 80) 15 rfl rfl hS0 ?_
   try simp only [Act.put, zA, zB, zC]
   refine tA (some 81) 16 rfl rfl hS0 ?_
   try simp only [Act.put, zA, zB, zC]
   refine rD 17 rfl (fun K hK => ?_)
   have c3 := a5.cR
   have f3 := a5.free (i := 3) (by omega)
   go_simp
   refine hK.out _ _ trivial (fun _ => ?_)
   clear hK K c3 f3
   refine tA (some 82) 18 rfl rfl hS0 ?_
   try simp only [Act.put, zA, zB, zC]
   refine tA (some 83) 19 rfl rfl hS0 ?_
   try simp only [Act.put, zA, zB, zC]
   refine rD 20 rfl (fun K hK => ?_)
   have f4 := a5.free (i := 4) (by omega)
   have n4 := a5.cP
   have q4 : (World.setCell w5 ⟨S, 3, none⟩ (.slice (some ⟨g5, 0, none⟩) (r.length + 1) c5)).cell? ⟨S, 4, none⟩ = some (.int .u64 ((plS r : Nat) : Int)) := by rw [World.cell?_setCell_other _ _ _ _ (by simp)]; exact n4
   go_simp
   refine hK.out _ _ trivial (fun _ => ?_)
   clear hK K q4 n4 f4
   refine wpAnyH_done (by kernel_rfl) ?_ _
   go_wp2_with fail
   go_ret
   exact ⟨rfl, _, _, _, fin.1, fin.2⟩
 ·
  go_simp
  have R41 := Rd.below (box_below wd (.cells #[.int .i64 (i : Int)] 3))
  refine hK.out _ _ trivial (fun _ => ?_)
  clear hK K
  refine wpAnyH_ready (rs := [5, 12]) (by kernel_rfl) (by simp) ?_
  refine AllReadyH.cons rfl (fun K hK => ?_) (AllReadyH.cons rfl (fun K hK => ?_) AllReadyH.nil)
  ·
   have hc42 := R41.a.cR
   go_simp
   refine hK.out _ _ trivial (fun _ => ?_)
   clear hK K hc42
   refine wpAnyH_ready (rs := [8, 12]) (by kernel_rfl) (by simp) ?_
   refine AllReadyH.cons rfl (fun K hK => ?_) (AllReadyH.cons rfl (fun K hK => ?_) AllReadyH.nil)
   ·
    refine step_append_lies _ rfl (.tmp 70) (.tmp 72) 24 rfl (S + 1) 3 i0 (.int .i64 0) 1 8 Tryz.underlying24 hi0 hz0 hz1 hz2 rfl (by decide) (.slice va r.length vc) r.length _ (by simp [Act.eval]) R41.rw ⟨wd.heap.size, 0, none⟩ 1 1 [.int .i64 (i : Int)] (by simp [Act.eval]) rfl (lit_newI _ _ _) (by intro u hu; simp at hu; subst hu; rfl) (by decide) (by unfold maxLen; omega) (by omega) (by have := R41.a.lt; omega) _ rfl ?_
    intro g5 c5 w5 hown5 hg5 hl5 _
    obtain ⟨_, a5, _, _, _⟩ := R41.app HNE.out hown5 hg5 hl5
    have fin := HD.out _ _ R41 _ _ hown5 hg5 hl5
    refine hK.out _ _ trivial (fun _ => ?_)
    clear hK K hown5 hg5 hl5
    try simp only [Act.put, List.setIfInBounds_toArray]
    refine rD 12 rfl (fun K hK => ?_)
    have hc44 := a5.cP
    go_simp
    refine hK.out _ _ trivial (fun _ => ?_)
    clear hK K hc44
    refine rD 14 rfl (fun K hK => ?_)
    go_simp
    refine (CWT.out _).mono ?_
    rintro e y45 ⟨rfl, rfl⟩
    show K _ _
    refine hK.out _ _ trivial (fun _ => ?_)
    clear hK K
    refine tA (some 80) 15 rfl rfl hS0 ?_
    try simp only [Act.put, zA, zB, zC]
    refine tA (some 81) 16 rfl rfl hS0 ?_
    try simp only [Act.put, zA, zB, zC]
    refine rD 17 rfl (fun K hK => ?_)
    have c3 := a5.cR
    have f3 := a5.free (i := 3) (by omega)
    go_simp
    refine hK.out _ _ trivial (fun _ => ?_)
    clear hK K c3 f3
    refine tA (some 82) 18 rfl rfl hS0 ?_
    try simp only [Act.put, zA, zB, zC]
    refine tA (some 83) 19 rfl rfl hS0 ?_
    try simp only [Act.put, zA, zB, zC]
    refine rD 20 rfl (fun K hK => ?_)
    have f4 := a5.free (i := 4) (by omega)
    have n4 := a5.cP
    have q4 : (World.setCell w5 ⟨S, 3, none⟩ (.slice (some ⟨g5, 0, none⟩) (r.length + 1) c5)).cell? ⟨S, 4, none⟩ = some (.int .u64 ((plS r : Nat) : Int)) := by rw [World.cell?_setCell_other _ _ _ _ (by simp)]; exact n4
    go_simp
    refine hK.out _ _ trivial (fun _ => ?_)
    clear hK K q4 n4 f4
    refine wpAnyH_done (by kernel_rfl) ?_ _
    go_wp2_with fail
    go_ret
    exact ⟨rfl, _, _, _, fin.1, fin.2⟩
   ·
    have hc52 := R41.a.cP
    go_simp
    refine hK.out _ _ trivial (fun _ => ?_)
    clear hK K hc52
    refine rD 8 rfl (fun K hK => ?_)
    refine step_append_lies _ rfl (.tmp 70) (.tmp 72) 24 rfl (S + 1) 3 i0 (.int .i64 0) 1 8 Tryz.underlying24 hi0 hz0 hz1 hz2 rfl (by decide) (.slice va r.length vc) r.length _ (by simp [Act.eval]) R41.rw ⟨wd.heap.size, 0, none⟩ 1 1 [.int .i64 (i : Int)] (by simp [Act.eval]) rfl (lit_newI _ _ _) (by intro u hu; simp at hu; subst hu; rfl) (by decide) (by unfold maxLen; omega) (by omega) (by have := R41.a.lt; omega) _ rfl ?_
    intro g5 c5 w5 hown5 hg5 hl5 _
    obtain ⟨_, a5, _, _, _⟩ := R41.app HNE.out hown5 hg5 hl5
    have fin := HD.out _ _ R41 _ _ hown5 hg5 hl5
    refine hK.out _ _ trivial (fun _ => ?_)
    clear hK K hown5 hg5 hl5
    try simp only [Act.put, List.setIfInBounds_toArray]
    refine rD 14 rfl (fun K hK => ?_)
    go_simp
    refine (CWT.out _).mono ?_
    rintro e y54 ⟨rfl, rfl⟩
    show K _ _
    refine hK.out _ _ trivial (fun _ => ?_)
    clear hK K
    refine tA (some 80) 15 rfl rfl hS0 ?_
    try simp only [Act.put, zA, zB, zC]
    refine tA (some 81) 16 rfl rfl hS0 ?_
    try simp only [Act.put, zA, zB, zC]
    refine rD 17 rfl (fun K hK => ?_)
    have c3 := a5.cR
    have f3 := a5.free (i := 3) (by omega)
    go_simp
    refine hK.out _ _ trivial (fun _ => ?_)
    clear hK K c3 f3
    refine tA (some 82) 18 rfl rfl hS0 ?_
    try simp only [Act.put, zA, zB, zC]
    refine tA (some 83) 19 rfl rfl hS0 ?_
    try simp only [Act.put, zA, zB, zC]
    refine rD 20 rfl (fun K hK => ?_)
    have f4 := a5.free (i := 4) (by omega)
    have n4 := a5.cP
    have q4 : (World.setCell w5 ⟨S, 3, none⟩ (.slice (some ⟨g5, 0, none⟩) (r.length + 1) c5)).cell? ⟨S, 4, none⟩ = some (.int .u64 ((plS r : Nat) : Int)) := by rw [World.cell?_setCell_other _ _ _ _ (by simp)]; exact n4
    go_simp
    refine hK.out _ _ trivial (fun _ => ?_)
    clear hK K q4 n4 f4
    refine wpAnyH_done (by kernel_rfl) ?_ _
    go_wp2_with fail
    go_ret
    exact ⟨rfl, _, _, _, fin.1, fin.2⟩
  ·
   have hc61 := R41.a.cP
   go_simp
   refine hK.out _ _ trivial (fun _ => ?_)
   clear hK K hc61
   refine rD 5 rfl (fun K hK => ?_)
   have hc62 := R41.a.cR
   go_simp
   refine hK.out _ _ trivial (fun _ => ?_)
   clear hK K hc62
   refine rD 8 rfl (fun K hK => ?_)
   refine step_append_lies _ rfl (.tmp 70) (.tmp 72) 24 rfl (S + 1) 3 i0 (.int .i64 0) 1 8 Tryz.underlying24 hi0 hz0 hz1 hz2 rfl (by decide) (.slice va r.length vc) r.length _ (by simp [Act.eval]) R41.rw ⟨wd.heap.size, 0, none⟩ 1 1 [.int .i64 (i : Int)] (by simp [Act.eval]) rfl (lit_newI _ _ _) (by intro u hu; simp at hu; subst hu; rfl) (by decide) (by unfold maxLen; omega) (by omega) (by have := R41.a.lt; omega) _ rfl ?_
   intro g5 c5 w5 hown5 hg5 hl5 _
   obtain ⟨_, a5, _, _, _⟩ := R41.app HNE.out hown5 hg5 hl5
   have fin := HD.out _ _ R41 _ _ hown5 hg5 hl5
   refine hK.out _ _ trivial (fun _ => ?_)
   clear hK K hown5 hg5 hl5
   try simp only [Act.put, List.setIfInBounds_toArray]
   refine rD 14 rfl (fun K hK => ?_)
   go_simp
   refine (CWT.out _).mono ?_
   rintro e y64 ⟨rfl, rfl⟩
   show K _ _
   refine hK.out _ _ trivial (fun _ => ?_)
   clear hK K
   refine tA (some 80) 15 rfl rfl hS0 ?_
   try simp only [Act.put, zA, zB, zC]
   refine tA (some 81) 16 rfl rfl hS0 ?_
   try simp only [Act.put, zA, zB, zC]
   refine rD 17 rfl (fun K hK => ?_)
   have c3 := a5.cR
   have f3 := a5.free (i := 3) (by omega)
   go_simp
   refine hK.out _ _ trivial (fun _ => ?_)
   clear hK K c3 f3
   refine tA (some 82) 18 rfl rfl hS0 ?_
   try simp only [Act.put, zA, zB, zC]
   refine tA (some 83) 19 rfl rfl hS0 ?_
   try simp only [Act.put, zA, zB, zC]
   refine rD 20 rfl (fun K hK => ?_)
   have f4 := a5.free (i := 4) (by omega)
   have n4 := a5.cP
   have q4 : (World.setCell w5 ⟨S, 3, none⟩ (.slice (some ⟨g5, 0, none⟩) (r.length + 1) c5)).cell? ⟨S, 4, none⟩ = some (.int .u64 ((plS r : Nat) : Int)) := by rw [World.cell?_setCell_other _ _ _ _ (by simp)]; exact n4
   go_simp
   refine hK.out _ _ trivial (fun _ => ?_)
   clear hK K q4 n4 f4
   refine wpAnyH_done (by kernel_rfl) ?_ _
   go_wp2_with fail
   go_ret
   exact ⟨rfl, _, _, _, fin.1, fin.2⟩
 ·
  have hc71 := Rd.a.cP
  go_simp
  refine hK.out _ _ trivial (fun _ => ?_)
  clear hK K hc71
  refine wpAnyH_ready (rs := [5, 7]) (by kernel_rfl) (by simp) ?_
  refine AllReadyH.cons rfl (fun K hK => ?_) (AllReadyH.cons rfl (fun K hK => ?_) AllReadyH.nil)
  ·
   have hc72 := Rd.a.cR
   go_simp
   refine hK.out _ _ trivial (fun _ => ?_)
   clear hK K hc72
   refine rD 7 rfl (fun K hK => ?_)
   go_simp
   have R73 := Rd.below (box_below wd (.cells #[.int .i64 (i : Int)] 3))
   refine hK.out _ _ trivial (fun _ => ?_)
   clear hK K
   refine rD 8 rfl (fun K hK => ?_)
   refine step_append_lies _ rfl (.tmp 70) (.tmp 72) 24 rfl (S + 1) 3 i0 (.int .i64 0) 1 8 Tryz.underlying24 hi0 hz0 hz1 hz2 rfl (by decide) (.slice va r.length vc) r.length _ (by simp [Act.eval]) R73.rw ⟨wd.heap.size, 0, none⟩ 1 1 [.int .i64 (i : Int)] (by simp [Act.eval]) rfl (lit_newI _ _ _) (by intro u hu; simp at hu; subst hu; rfl) (by decide) (by unfold maxLen; omega) (by omega) (by have := R73.a.lt; omega) _ rfl ?_
   intro g5 c5 w5 hown5 hg5 hl5 _
   obtain ⟨_, a5, _, _, _⟩ := R73.app HNE.out hown5 hg5 hl5
   have fin := HD.out _ _ R73 _ _ hown5 hg5 hl5
   refine hK.out _ _ trivial (fun _ => ?_)
   clear hK K hown5 hg5 hl5
   try simp only [Act.put, List.setIfInBounds_toArray]
   refine rD 14 rfl (fun K hK => ?_)
   go_simp
   refine (CWT.out _).mono ?_
   rintro e y75 ⟨rfl, rfl⟩
   show K _ _
   refine hK.out _ _ trivial (fun _ => ?_)
   clear hK K
   refine tA (some 80) 15 rfl rfl hS0 ?_
   try simp only [Act.put, zA, zB, zC]
   refine tA (some 81) 16 rfl rfl hS0 ?_
   try simp only [Act.put, zA, zB, zC]
   refine rD 17 rfl (fun K hK => ?_)
   have c3 := a5.cR
   have f3 := a5.free (i := 3) (by omega)
   go_simp
   refine hK.out _ _ trivial (fun _ => ?_)
   clear hK K c3 f3
   refine tA (some 82) 18 rfl rfl hS0 ?_
   try simp only [Act.put, zA, zB, zC]
   refine tA (some 83) 19 rfl rfl hS0 ?_
   try simp only [Act.put, zA, zB, zC]
   refine rD 20 rfl (fun K hK => ?_)
   have f4 := a5.free (i := 4) (by omega)
   have n4 := a5.cP
   have q4 : (World.setCell w5 ⟨S, 3, none⟩ (.slice (some ⟨g5, 0, none⟩) (r.length + 1) c5)).cell? ⟨S, 4, none⟩ = some (.int .u64 ((plS r : Nat) : Int)) := by rw [World.cell?_setCell_other _ _ _ _ (by simp)]; exact n4
   go_simp
   refine hK.out _ _ trivial (fun _ => ?_)
   clear hK K q4 n4 f4
   refine wpAnyH_done (by kernel_rfl) ?_ _
   go_wp2_with fail
   go_ret
   exact ⟨rfl, _, _, _, fin.1, fin.2⟩
  ·
   go_simp
   have R82 := Rd.below (box_below wd (.cells #[.int .i64 (i : Int)] 3))
   refine hK.out _ _ trivial (fun _ => ?_)
   clear hK K
   refine rD 5 rfl (fun K hK => ?_)
   have hc83 := R82.a.cR
   go_simp
   refine hK.out _ _ trivial (fun _ => ?_)
   clear hK K hc83
   refine rD 8 rfl (fun K hK => ?_)
   refine step_append_lies _ rfl (.tmp 70) (.tmp 72) 24 rfl (S + 1) 3 i0 (.int .i64 0) 1 8 Tryz.underlying24 hi0 hz0 hz1 hz2 rfl (by decide) (.slice va r.length vc) r.length _ (by simp [Act.eval]) R82.rw ⟨wd.heap.size, 0, none⟩ 1 1 [.int .i64 (i : Int)] (by simp [Act.eval]) rfl (lit_newI _ _ _) (by intro u hu; simp at hu; subst hu; rfl) (by decide) (by unfold maxLen; omega) (by omega) (by have := R82.a.lt; omega) _ rfl ?_
   intro g5 c5 w5 hown5 hg5 hl5 _
   obtain ⟨_, a5, _, _, _⟩ := R82.app HNE.out hown5 hg5 hl5
   have fin := HD.out _ _ R82 _ _ hown5 hg5 hl5
   refine hK.out _ _ trivial (fun _ => ?_)
   clear hK K hown5 hg5 hl5
   try simp only [Act.put, List.setIfInBounds_toArray]
   refine rD 14 rfl (fun K hK => ?_)
   go_simp
   refine (CWT.out _).mono ?_
   rintro e y85 ⟨rfl, rfl⟩
   show K _ _
   refine hK.out _ _ trivial (fun _ => ?_)
   clear hK K
   refine tA (some 80) 15 rfl rfl hS0 ?_
   try simp only [Act.put, zA, zB, zC]
   refine tA (some 81) 16 rfl rfl hS0 ?_
   try simp only [Act.put, zA, zB, zC]
   refine rD 17 rfl (fun K hK => ?_)
   have c3 := a5.cR
   have f3 := a5.free (i := 3) (by omega)
   go_simp
   refine hK.out _ _ trivial (fun _ => ?_)
   clear hK K c3 f3
   refine tA (some 82) 18 rfl rfl hS0 ?_
   try simp only [Act.put, zA, zB, zC]
   refine tA (some 83) 19 rfl rfl hS0 ?_
   try simp only [Act.put, zA, zB, zC]
   refine rD 20 rfl (fun K hK => ?_)
   have f4 := a5.free (i := 4) (by omega)
   have n4 := a5.cP
   have q4 : (World.setCell w5 ⟨S, 3, none⟩ (.slice (some ⟨g5, 0, none⟩) (r.length + 1) c5)).cell? ⟨S, 4, none⟩ = some (.int .u64 ((plS r : Nat) : Int)) := by rw [World.cell?_setCell_other _ _ _ _ (by simp)]; exact n4
   go_simp
   refine hK.out _ _ trivial (fun _ => ?_)
   clear hK K q4 n4 f4
   refine wpAnyH_done (by kernel_rfl) ?_ _
   go_wp2_with fail
   go_ret
   exact ⟨rfl, _, _, _, fin.1, fin.2⟩
end
end

section
open Go.RowKit
theorem zeroPl (B C : Nat) : ((Tryz.zeroCells242.setIfInBounds 0 (.pointer (some ⟨B, 0, none⟩))).setIfInBounds 1 (.int .i64 (C : Int))) = ((List.range 133).map (plF B C (.slice none 0 0) (.slice none 0 0) 0 (fun _ => 0) (fun _ => 0))).toArray := by kernel_rfl
theorem PlAt.made (w : World) (B C : Nat) (t : TypeId) {S : Nat} {cs : Array Value} (hS : S = w.heap.size) (hc : cs = ((Tryz.zeroCells242.setIfInBounds 0 (.pointer (some ⟨B, 0, none⟩))).setIfInBounds 1 (.int .i64 (C : Int)))) : PlAt (w.alloc (.cells cs t)) S B C (.slice none 0 0) (.slice none 0 0) 0 (fun _ => 0) (fun _ => 0) := by
 subst hS hc
 rw [zeroPl]
 have hh := heap_alloc_new w (.cells ((List.range 133).map (plF B C (.slice none 0 0) (.slice none 0 0) 0 (fun _ => 0) (fun _ => 0))).toArray t)
 intro i hi
 refine ⟨?_, frozen_of_row _ _ _ _ _ hh⟩
 rw [cell_of_row _ _ _ _ _ _ hh]
 simp [hi]
theorem infoSetB : (Tryz.prog.info? 106).map (fun i => (i.zero, i.size, i.bytes)) = some (some (.int .u64 0), 1, 8) := by kernel_rfl
theorem lit_newJ (w : World) (x : Value) (t : TypeId) : ∀ j u, [x][j]? = some u → (w.alloc (.cells #[x] t)).cell? ((⟨w.heap.size, 0, none⟩ : Addr).add j) = some u := fun j u hu => by
 match j, hu with
 | 0, hu =>
  simp at hu; subst hu
  rw [Addr.add_lit, Nat.add_zero, cell_of_row _ _ _ _ _ _ (heap_alloc_new w _)]; rfl
 | j + 1, hu => simp at hu
def baseL (h : List TxnV) (C k : Nat) : List Value := (List.range k).map fun i => .int .u64 ((baseN h C i : Nat) : Int)
theorem baseL_succ (h : List TxnV) (C k : Nat) : baseL h C (k + 1) = baseL h C k ++ [.int .u64 ((baseN h C k : Nat) : Int)] := by unfold baseL; rw [List.range_succ, List.map_append]; rfl
structure NwI (W : World) (S M B C : Nat) (h : List TxnV) (k : Nat) (vb : Value) (w : World) : Prop where
 a : PlAt w S B C vb (.slice none 0 0) 0 (fun _ => 0) (fun _ => 0)
 r : RelAt w M 108 (baseM h (C : Int))
 ow : w.ownsRow (M + 1) 106 1 vb k (baseL h C k)
 bel : Below W.heap.size W w
 lo : W.heap.size ≤ S
 hi : S < M
section
variable {W : World} {S M B C : Nat} {h : List TxnV} {k : Nat} {vb : Value} {w w' : World}
theorem NwI.below (q : NwI W S M B C h k vb w) (hb : Below w.heap.size w w') : NwI W S M B C h k vb w' := ⟨q.a.below hb q.a.lt, q.r.below hb q.r.lt, owns_below q.ow hb, q.bel.trans (hb.mono q.bel.size), q.lo, q.hi⟩
theorem NwI.add (q : NwI W S M B C h k vb w) {w5 : World} {v' : Value} (hown : w5.ownsRow (M + 1) 106 1 v' (k + 1) (baseL h C k ++ [.int .u64 ((baseN h C k : Nat) : Int)])) (hg : w.grownBy w5 vb.ownBlock) :
  PlAt w5 S B C vb (.slice none 0 0) 0 (fun _ => 0) (fun _ => 0) ∧ RelAt w5 M 108 (baseM h (C : Int)) ∧ RelAt (w5.setCell ⟨S, 2, none⟩ v') M 108 (baseM h (C : Int)) ∧ NwI W S M B C h (k + 1) v' (w5.setCell ⟨S, 2, none⟩ v') := by
 have hhi := q.hi
 have hS : vb.ownBlock ≠ some S := fun e => by have := (q.ow.lt _ e).1; omega
 have hM : vb.ownBlock ≠ some M := fun e => by have := (q.ow.lt _ e).1; omega
 have a5 := q.a.grown hg (fun e => hS e.symm)
 have r5 : RelAt w5 M 108 (baseM h (C : Int)) := by
  have := q.r
  unfold RelAt at *
  rw [hg.block M q.r.lt (fun e => hM e.symm)]; exact this
 have r6 := r5.other (k := ⟨S, 2, none⟩) (by show M ≠ S; omega) v'
 have hlo := q.lo
 refine ⟨a5, r5, r6, a5.setB v', r6, ?_, (q.bel.grown hg q.bel.size (fun j hj => by have := (q.ow.lt _ hj).1; omega)).setCell (p := ⟨S, 2, none⟩) hlo v', hlo, hhi⟩
 rw [baseL_succ]
 exact pl_far hown (by show S < M + 1; omega) v'
end
theorem pnew_any (x : Int) (h : List TxnV) (B b : Nat) (w : World) (hO : OrdIs w B b h) (hc : checkI h = 0) (ht : Tab w) :
  Calls Tryz.prog 137 #[.pointer (some ⟨B, 0, none⟩), .int .i64 x] w fun e w' => ∃ S vb aF sF, e = .returned (.pointer (some ⟨S, 0, none⟩)) ∧ PlIs w S B b h (clI x) [] vb (.slice none 0 0) aF sF w' := by
 have h64 := (check_zero hc).1
 have HFIN : Hid (∀ S M vb wx, NwI w S M B (clI x) h h.length vb wx → PlIs w S B b h (clI x) [] vb (.slice none 0 0) (fun _ => 0) (fun _ => 0) wx) := hid (fun S M vb wx q => by
  have hhi := q.hi
  exact ⟨hO, ht, q.bel, q.lo, q.a, own_base' q.ow (by omega), ⟨rfl, .inl ⟨rfl, rfl⟩⟩, fun g _ e => (by cases e), fun k _ => ⟨by unfold IsSet; omega, by unfold IsSet; omega⟩, fun k hk => (by cases hk), List.nodup_nil, fun k hk => (by cases hk), fun k hk => (by cases hk)⟩)
 have HO := hid (fun wx (hx : Below w.heap.size w wx) => (hO.below hx).blk)
 have n0 := hO.blk.cN
 have CC := hid (fun wx => lclosed_any x wx)
 obtain ⟨i0, hi0, hz0, hz1, hz2⟩ := info_parts infoSetB
 clear hO hc ht
 generalize clI x = C at *
 have ha := PlAt.made w B C 242 rfl rfl
 have hb1 := box_below w (.cells ((Tryz.zeroCells242.setIfInBounds 0 (.pointer (some ⟨B, 0, none⟩))).setIfInBounds 1 (.int .i64 (C : Int))) 242)
 have hs1 : (w.alloc (.cells ((Tryz.zeroCells242.setIfInBounds 0 (.pointer (some ⟨B, 0, none⟩))).setIfInBounds 1 (.int .i64 (C : Int))) 242)).heap.size = w.heap.size + 1 := by simp
 go_enter Tryz.func137, Tryz.ntmps137
 go_wp2_with fail
 refine (CC.out _).mono ?_
 rintro e wq ⟨rfl, rfl⟩
 go_upto_region 2 with fail
 generalize w.alloc (.cells ((Tryz.zeroCells242.setIfInBounds 0 (.pointer (some ⟨B, 0, none⟩))).setIfInBounds 1 (.int .i64 (C : Int))) 242) = w1 at *
 have hlt := ha.lt
 have hcc := ha.cC
 have CB := hid (fun wx (hx : Below w.heap.size w wx) => lbase_any (C : Int) h B wx (HO.out wx hx))
 go_wp2_with fail
 refine (CB.out _ hb1).mono ?_
 rintro e w2 ⟨rfl, h2⟩
 have ha := ha.below h2 hlt
 have hb2 := below_then hb1 h2
 have hsz := h2.size
 have z2 := zero_block w2
 have ha := ha.below (box_below w2 (.cells #[.int .u64 0, .int .u64 0, .int .u64 0, .int .u64 0, .int .u64 0, .int .u64 0, .int .u64 0, .int .u64 0, .int .u64 0, .int .u64 0, .int .u64 0, .int .u64 0, .int .u64 0, .int .u64 0, .int .u64 0, .int .u64 0, .int .u64 0, .int .u64 0, .int .u64 0, .int .u64 0, .int .u64 0, .int .u64 0, .int .u64 0, .int .u64 0, .int .u64 0, .int .u64 0, .int .u64 0, .int .u64 0, .int .u64 0, .int .u64 0, .int .u64 0, .int .u64 0, .int .u64 0, .int .u64 0, .int .u64 0, .int .u64 0, .int .u64 0, .int .u64 0, .int .u64 0, .int .u64 0, .int .u64 0, .int .u64 0, .int .u64 0, .int .u64 0, .int .u64 0, .int .u64 0, .int .u64 0, .int .u64 0, .int .u64 0, .int .u64 0, .int .u64 0, .int .u64 0, .int .u64 0, .int .u64 0, .int .u64 0, .int .u64 0, .int .u64 0, .int .u64 0, .int .u64 0, .int .u64 0, .int .u64 0, .int .u64 0, .int .u64 0, .int .u64 0] 108)) ha.lt
 have hb3 := hb2.alloc hb2.size (.cells #[.int .u64 0, .int .u64 0, .int .u64 0, .int .u64 0, .int .u64 0, .int .u64 0, .int .u64 0, .int .u64 0, .int .u64 0, .int .u64 0, .int .u64 0, .int .u64 0, .int .u64 0, .int .u64 0, .int .u64 0, .int .u64 0, .int .u64 0, .int .u64 0, .int .u64 0, .int .u64 0, .int .u64 0, .int .u64 0, .int .u64 0, .int .u64 0, .int .u64 0, .int .u64 0, .int .u64 0, .int .u64 0, .int .u64 0, .int .u64 0, .int .u64 0, .int .u64 0, .int .u64 0, .int .u64 0, .int .u64 0, .int .u64 0, .int .u64 0, .int .u64 0, .int .u64 0, .int .u64 0, .int .u64 0, .int .u64 0, .int .u64 0, .int .u64 0, .int .u64 0, .int .u64 0, .int .u64 0, .int .u64 0, .int .u64 0, .int .u64 0, .int .u64 0, .int .u64 0, .int .u64 0, .int .u64 0, .int .u64 0, .int .u64 0, .int .u64 0, .int .u64 0, .int .u64 0, .int .u64 0, .int .u64 0, .int .u64 0, .int .u64 0, .int .u64 0] 108)
 have hSM : w.heap.size < w2.heap.size := by omega
 have h3 := below_setRow (Below.refl w2.heap.size (w2.alloc (.cells #[.int .u64 0, .int .u64 0, .int .u64 0, .int .u64 0, .int .u64 0, .int .u64 0, .int .u64 0, .int .u64 0, .int .u64 0, .int .u64 0, .int .u64 0, .int .u64 0, .int .u64 0, .int .u64 0, .int .u64 0, .int .u64 0, .int .u64 0, .int .u64 0, .int .u64 0, .int .u64 0, .int .u64 0, .int .u64 0, .int .u64 0, .int .u64 0, .int .u64 0, .int .u64 0, .int .u64 0, .int .u64 0, .int .u64 0, .int .u64 0, .int .u64 0, .int .u64 0, .int .u64 0, .int .u64 0, .int .u64 0, .int .u64 0, .int .u64 0, .int .u64 0, .int .u64 0, .int .u64 0, .int .u64 0, .int .u64 0, .int .u64 0, .int .u64 0, .int .u64 0, .int .u64 0, .int .u64 0, .int .u64 0, .int .u64 0, .int .u64 0, .int .u64 0, .int .u64 0, .int .u64 0, .int .u64 0, .int .u64 0, .int .u64 0, .int .u64 0, .int .u64 0, .int .u64 0, .int .u64 0, .int .u64 0, .int .u64 0, .int .u64 0, .int .u64 0] 108))) (Nat.le_refl _) (rowsA (baseM h (C : Int)))
 have ha := ha.below h3 hSM
 have hb3 := hb3.trans (h3.mono hb2.size)
 clear hb1 hb2 h2 hcc hlt h3
 go_upto_region 3 with (with_reducible refine wpList_store_rel z2 (baseM h (C : Int)) rfl _ _ rfl rfl rfl ?_)
 have z2 := z2.setRow (baseM h (C : Int))
 generalize World.setRow _ _ _ = w3 at *
 generalize w2.heap.size = M at *
 have n3 := (HO.out _ hb3).cN
 have HI : NwI w w.heap.size M B C h 0 (.slice none 0 0) w3 := ⟨ha, z2, ⟨rfl, .inl ⟨rfl, rfl⟩⟩, hb3, Nat.le_refl _, hSM⟩
 generalize w.heap.size = S at *
 clear ha z2 hb3 n0 hs1 hsz CB HO
 go_wp2_with fail
 clear n3
 go_loopw [23] (fun iv wr => ∃ (k : Nat) (vb : Value), k ≤ h.length ∧ iv = .int .i64 k ∧ NwI w S M B C h k vb wr) (fun iv _ => h.length - (intOf iv).toNat)
 case atStart => exact ⟨0, .slice none 0 0, by omega, rfl, HI⟩
 case round =>
  clear HI
  obtain ⟨k, vb, hk, rfl, hI⟩ := hrel
  by_cases hlt : k < h.length
  ·have hki : (k : Int) < (h.length : Int) := by omega
   obtain ⟨va, vc, rfl⟩ := owns_form hI.ow
   have CS := hid (fun wx => lsees_any (baseM h (C : Int)) (k : Int) wx)
   have HEQ : Hid (∀ e : Nat, e = seeTo (baseM h (C : Int)) (k : Int) 64 → e = baseN h C k) := hid (fun e he => he)
   have HQ := hid (fun wx (hx : Below wr.heap.size wr wx) => hI.below hx)
   have kd := (Below.refl wr.heap.size wr).drew
   rw [show seeTo (baseM h (C : Int)) (k : Int) 64 = baseN h C k from rfl] at CS
   clear hI HEQ
   go_upto_region 6 with fail
   refine wp_region_held_drew (S := fun wx => RelAt wx M 108 (baseM h (C : Int))) (by kernel_rfl) (HQ.out _ kd).r (fun hS0 => ?_)
   generalize wr.drew = wd at *
   refine tA (some 26) 0 rfl rfl hS0 ?_
   try simp only [Act.put, zA, zB, zC]
   refine tA (some 27) 1 rfl rfl hS0 ?_
   try simp only [Act.put, zA, zB, zC]
   refine tA (some 28) 2 rfl rfl hS0 ?_
   try simp only [Act.put, zA, zB, zC]
   refine tA (some 29) 3 rfl rfl hS0 ?_
   try simp only [Act.put, zA, zB, zC]
   refine tG (some 31) 5 _ rfl rfl (yields_rel (by rfl) _ rfl rfl (fun wx hx => hx)) hS0 ?_
   try simp only [Act.put, zA, zB, zC]
   refine tA (some 32) 6 rfl rfl hS0 ?_
   try simp only [Act.put, zA, zB, zC]
   refine wpAnyH_ready (rs := [4, 7]) (by kernel_rfl) (by simp) ?_
   refine AllReadyH.cons rfl (fun K hK => ?_) (AllReadyH.cons rfl (fun K hK => ?_) AllReadyH.nil)
   ·
    have hc7 := (HQ.out _ kd).a.cB
    go_simp
    refine hK.out _ _ hS0 (fun _ => ?_)
    clear hK K hc7
    refine rD 7 rfl (fun K hK => ?_)
    go_simp
    refine (CS.out _).mono ?_
    rintro e q8 ⟨rfl, j8⟩
    show K _ _
    have k8 := below_then kd j8
    have s8 := (HQ.out _ k8).r
    refine hK.out _ _ s8 (fun _ => ?_)
    clear hK K
    refine rD 8 rfl (fun K hK => ?_)
    go_simp
    have RA := (HQ.out _ k8).below (box_below q8 (.cells #[.int .u64 ((baseN h C k : Nat) : Int)] 106))
    have s9 := RA.r
    refine hK.out _ _ s9 (fun _ => ?_)
    clear hK K
    refine rD 9 rfl (fun K hK => ?_)
    refine step_append_lies _ rfl (.tmp 30) (.tmp 34) 240 rfl (M + 1) 106 i0 (.int .u64 0) 1 8 Tryz.underlying240 hi0 hz0 hz1 hz2 rfl (by decide) (.slice va k vc) k _ (by simp [Act.eval]) RA.ow ⟨q8.heap.size, 0, none⟩ 1 1 [.int .u64 ((baseN h C k : Nat) : Int)] (by simp [Act.eval]) rfl (lit_newJ _ _ _) (by intro u hu; simp at hu; subst hu; rfl) (by decide) (by unfold maxLen; omega) (by omega) (by have := RA.r.lt; omega) _ rfl ?_
    intro g5 c5 w5 hown5 hg5 _ _
    obtain ⟨a5, r5, r6, q6⟩ := RA.add hown5 hg5
    refine hK.out _ _ r5 (fun _ => ?_)
    clear hK K hown5 hg5
    refine tA (some 36) 10 rfl rfl r5 ?_
    try simp only [Act.put, List.setIfInBounds_toArray]
    refine tA (some 37) 11 rfl rfl r5 ?_
    try simp only [Act.put]
    refine rD 12 rfl (fun K hK => ?_)
    have c2 := a5.cB
    have f2 := a5.free (i := 2) (by omega)
    go_simp
    refine hK.out _ _ r6 (fun _ => ?_)
    clear hK K c2 f2 a5 r5
    refine wpAnyH_done (by kernel_rfl) ?_ _
    go_wp2_with fail
    go_roundw
    case rel => exact ⟨k + 1, _, by omega, by go_num, q6⟩
    case measure => simp [intOf]; omega
   ·
    go_simp
    refine (CS.out _).mono ?_
    rintro e q14 ⟨rfl, j14⟩
    show K _ _
    have k14 := below_then kd j14
    have s14 := (HQ.out _ k14).r
    refine hK.out _ _ s14 (fun _ => ?_)
    clear hK K
    refine wpAnyH_ready (rs := [4, 8]) (by kernel_rfl) (by simp) ?_
    refine AllReadyH.cons rfl (fun K hK => ?_) (AllReadyH.cons rfl (fun K hK => ?_) AllReadyH.nil)
    ·
     have hc15 := (HQ.out _ k14).a.cB
     go_simp
     refine hK.out _ _ s14 (fun _ => ?_)
     clear hK K hc15
     refine rD 8 rfl (fun K hK => ?_)
     go_simp
     have RA := (HQ.out _ k14).below (box_below q14 (.cells #[.int .u64 ((baseN h C k : Nat) : Int)] 106))
     have s16 := RA.r
     refine hK.out _ _ s16 (fun _ => ?_)
     clear hK K
     refine rD 9 rfl (fun K hK => ?_)
     refine step_append_lies _ rfl (.tmp 30) (.tmp 34) 240 rfl (M + 1) 106 i0 (.int .u64 0) 1 8 Tryz.underlying240 hi0 hz0 hz1 hz2 rfl (by decide) (.slice va k vc) k _ (by simp [Act.eval]) RA.ow ⟨q14.heap.size, 0, none⟩ 1 1 [.int .u64 ((baseN h C k : Nat) : Int)] (by simp [Act.eval]) rfl (lit_newJ _ _ _) (by intro u hu; simp at hu; subst hu; rfl) (by decide) (by unfold maxLen; omega) (by omega) (by have := RA.r.lt; omega) _ rfl ?_
     intro g5 c5 w5 hown5 hg5 _ _
     obtain ⟨a5, r5, r6, q6⟩ := RA.add hown5 hg5
     refine hK.out _ _ r5 (fun _ => ?_)
     clear hK K hown5 hg5
     refine tA (some 36) 10 rfl rfl r5 ?_
     try simp only [Act.put, List.setIfInBounds_toArray]
     refine tA (some 37) 11 rfl rfl r5 ?_
     try simp only [Act.put]
     refine rD 12 rfl (fun K hK => ?_)
     have c2 := a5.cB
     have f2 := a5.free (i := 2) (by omega)
     go_simp
     refine hK.out _ _ r6 (fun _ => ?_)
     clear hK K c2 f2 a5 r5
     refine wpAnyH_done (by kernel_rfl) ?_ _
     go_wp2_with fail
     go_roundw
     case rel => exact ⟨k + 1, _, by omega, by go_num, q6⟩
     case measure => simp [intOf]; omega
    ·
     go_simp
     have RA := (HQ.out _ k14).below (box_below q14 (.cells #[.int .u64 ((baseN h C k : Nat) : Int)] 106))
     have s21 := RA.r
     refine hK.out _ _ s21 (fun _ => ?_)
     clear hK K
     refine rD 4 rfl (fun K hK => ?_)
     have hc22 := RA.a.cB
     go_simp
     refine hK.out _ _ s21 (fun _ => ?_)
     clear hK K hc22
     refine rD 9 rfl (fun K hK => ?_)
     refine step_append_lies _ rfl (.tmp 30) (.tmp 34) 240 rfl (M + 1) 106 i0 (.int .u64 0) 1 8 Tryz.underlying240 hi0 hz0 hz1 hz2 rfl (by decide) (.slice va k vc) k _ (by simp [Act.eval]) RA.ow ⟨q14.heap.size, 0, none⟩ 1 1 [.int .u64 ((baseN h C k : Nat) : Int)] (by simp [Act.eval]) rfl (lit_newJ _ _ _) (by intro u hu; simp at hu; subst hu; rfl) (by decide) (by unfold maxLen; omega) (by omega) (by have := RA.r.lt; omega) _ rfl ?_
     intro g5 c5 w5 hown5 hg5 _ _
     obtain ⟨a5, r5, r6, q6⟩ := RA.add hown5 hg5
     refine hK.out _ _ r5 (fun _ => ?_)
     clear hK K hown5 hg5
     refine tA (some 36) 10 rfl rfl r5 ?_
     try simp only [Act.put, List.setIfInBounds_toArray]
     refine tA (some 37) 11 rfl rfl r5 ?_
     try simp only [Act.put]
     refine rD 12 rfl (fun K hK => ?_)
     have c2 := a5.cB
     have f2 := a5.free (i := 2) (by omega)
     go_simp
     refine hK.out _ _ r6 (fun _ => ?_)
     clear hK K c2 f2 a5 r5
     refine wpAnyH_done (by kernel_rfl) ?_ _
     go_wp2_with fail
     go_roundw
     case rel => exact ⟨k + 1, _, by omega, by go_num, q6⟩
     case measure => simp [intOf]; omega
  ·have hk2 : k = h.length := by omega
   subst hk2
   go_wp2_with fail
   go_ret
   exact ⟨_, _, _, _, rfl, HFIN.out _ _ _ _ hI⟩
end

section
open Go.RowKit
theorem row_of_block {w : World} {g n : Nat} {cs : List Value} {t : TypeId} (hn : cs.length = n) (hm : n ≤ maxLen) (h : w.heap[g]? = some (.cells cs.toArray t (0, 0))) : Row w (.slice (some ⟨g, 0, none⟩) n n) n 1 cs := by
 refine ⟨by omega, _, _, rfl, ⟨Nat.le_refl _, hm⟩, fun e => (by cases e), fun _ => ⟨g, 0, rfl, fun i hi => ?_⟩⟩
 rw [cell_of_row _ _ _ _ _ _ h]; simp
theorem prow_at {W : World} {S B b : Nat} {h : List TxnV} {C : Nat} {r : List Nat} {vb vr : Value} {aF sF : Nat → Nat} {w : World} (p : PlIs W S B b h C r vb vr aF sF w) (h64 : h.length ≤ 64) :
  Calls Tryz.prog 179 #[.pointer (some ⟨S, 0, none⟩)] w fun e w' => ∃ v, e = .returned v ∧ v = .slice (some ⟨w.heap.size, 0, none⟩) r.length r.length ∧ Ints w' v (r.reverse.map Int.ofNat) ∧ Below w.heap.size w w' := by
 obtain ⟨i0, hi0, hz0, hz1, hz2⟩ := info_parts infoInt
 have hlen := p.len
 have hrow := p.row
 have hll : (r.reverse.map Int.ofNat).length = r.length := by simp
 obtain ⟨ao, cap, rfl⟩ := p.form
 have HS := hid (fun wx (hx : Below w.heap.size w wx) => And.intro (p.below hx).a.cR (p.below hx).row)
 have c3 := p.a.cR
 clear p hrow
 generalize r.reverse.map Int.ofNat = L at *
 generalize r.length = n at *
 have hcl : (L.map (Value.int .i64)).length = n := by simp [hll]
 have hb0 := box_below w (.cells (madeCells #[.int .i64 0] n) 3)
 have hnew := heap_alloc_new w (.cells (madeCells #[.int .i64 0] n) 3)
 have hml : (madeCells #[Value.int .i64 0] n).toList.length = n := by simp [madeCells]
 have hg0 : (w.alloc (.cells (madeCells #[.int .i64 0] n) 3)).heap[w.heap.size]? = some (.cells (madeCells #[.int .i64 0] n).toList.toArray 3 (0, 0)) := by rw [Array.toArray_toList]; exact hnew
 go_enter Tryz.func179, Tryz.ntmps179
 go_upto_region 2 with (at_make; refine wpList_make_row _ rfl _ _ 24 rfl 3 i0 (.int .i64 0) Tryz.underlying24 hi0 hz0 hz1 rfl .i64 .i64 n rfl rfl ?b2 ?b3 ?_)
 case b2 => rw [hz2]; omega
 case b3 => omega
 obtain ⟨d3, hrow⟩ := HS.out _ hb0
 clear hnew c3
 generalize w.alloc (.cells (madeCells #[.int .i64 0] n) 3) = w1 at *
 generalize (madeCells #[Value.int .i64 0] n).toList = Z at *
 obtain ⟨_, ao', cap', he, hm, hno, hc⟩ := hrow
 obtain ⟨e1, e2, e3⟩ : ao = ao' ∧ n = L.length ∧ cap = cap' := by simpa using he
 subst e1 e3
 have hpos : 0 < (L.map (Value.int .i64)).length → (some (⟨w.heap.size, 0, none⟩ : Addr) = some ⟨w.heap.size, 0, none⟩) ∧ ∃ ad, ao = some ad ∧ ∀ j v, (L.map (Value.int .i64))[j]? = some v → w1.cell? (ad.add j) = some v := fun hp => by
  obtain ⟨b, off, rfl, hcell⟩ := hc (by omega)
  refine ⟨rfl, _, rfl, fun j v hv => ?_⟩
  have hj := (List.getElem?_eq_some_iff.1 hv).1
  rw [Addr.add_lit, hcell j (by omega), hv]
 have h1c : ∀ v ∈ L.map (Value.int .i64), v.oneCell' = true := fun v hv => by obtain ⟨x, _, rfl⟩ := List.mem_map.1 hv; rfl
 obtain ⟨X, hX⟩ : ∃ X, X = L.map (Value.int .i64) := ⟨_, rfl⟩
 rw [← hX] at hcl hpos h1c
 have HX := hid hX
 have E2 := hid e2
 have HP := hid hpos
 have HC1 := hid h1c
 have HCL := hid hcl
 clear hpos h1c hcl
 clear hX hc hno he e2 hll
 obtain ⟨w2, hrun, HG, hb2⟩ : ∃ w2, Sem.run Tryz.prog (Builtin.copy_ #[24, 24] 3 #[.slice (some ⟨w.heap.size, 0, none⟩) n n, .slice ao n cap]) w1 = .ok (.int .i64 (n : Int)) w2 ∧ Hid (w2.heap[w.heap.size]? = some (.cells X.toArray 3 (0, 0))) ∧ Below w.heap.size w w2 := by
  have hsz1 : (Tryz.prog.info? 3).map (·.size) = some 1 := by rw [hi0]; simp [hz1]
  rcases Nat.eq_zero_or_pos n with h0 | h0
  ·have hX0 : X = [] := List.eq_nil_of_length_eq_zero (by rw [HCL.out]; exact h0)
   have hZ0 : Z = [] := List.eq_nil_of_length_eq_zero (by rw [hml]; exact h0)
   refine ⟨w1, ?_, hid (by rw [hX0, ← hZ0]; exact hg0), hb0⟩
   have := run_copy_none (P := Tryz.prog) w1 24 24 3 3 (some ⟨w.heap.size, 0, none⟩) ao n n n cap Tryz.underlying24 hsz1 (by rw [h0]; rfl)
   rw [this, h0]; rfl
  ·obtain ⟨_, ad, rfl, hsrc⟩ := HP.out (by rw [HCL.out]; exact h0)
   have := run_copy_row (P := Tryz.prog) w1 24 24 3 3 w.heap.size 0 n n ad n cap Z.toArray 3 X Tryz.underlying24 hsz1 hg0 (by rw [HCL.out]; simp) hsrc (by rw [HCL.out]; simp [hml]) HC1.out
   refine ⟨_, by rw [this, HCL.out]; rfl, hid ?_, below_setRow hb0 (Nat.le_refl _) _⟩
   have h3 := setRow_heap w1 w.heap.size Z.toArray (List.take 0 Z.toArray.toList ++ X ++ List.drop (0 + n) Z.toArray.toList).toArray 3 _ hg0
   rw [h3]
   have : List.take 0 Z.toArray.toList ++ X ++ List.drop (0 + n) Z.toArray.toList = X := by simp [hml]
   rw [this]
 have HR : Hid (Ints w2 (.slice (some ⟨w.heap.size, 0, none⟩) n n) L) := hid (by
  have h1 := row_of_block HCL.out (by unfold maxLen; omega) HG.out
  unfold Ints
  rw [HX.out] at h1
  rw [← E2.out]; exact h1)
 clear HG hg0
 go_wp2_with fail
 go_ret
 exact ⟨_, rfl, rfl, HR.out, hb2⟩
theorem prow_any {W : World} {S B b : Nat} {h : List TxnV} {C : Nat} {r : List Nat} {vb vr : Value} {aF sF : Nat → Nat} {w : World} (p : PlIs W S B b h C r vb vr aF sF w) (h64 : h.length ≤ 64) :
  Calls Tryz.prog 179 #[.pointer (some ⟨S, 0, none⟩)] w fun e w' => ∃ v, e = .returned v ∧ Ints w' v (r.reverse.map Int.ofNat) ∧ Below w.heap.size w w' :=
 (prow_at p h64).mono fun _ _ ⟨v, h1, _, h2, h3⟩ => ⟨v, h1, h2, h3⟩
end

section
open Go.RowKit
section
variable {w0 w w' : World} {N S B b : Nat} {h : List TxnV} {C : Nat} {r : List Nat} {vb vr : Value} {aF sF : Nat → Nat}
theorem PlX.lt (p : PlX w0 N S B b h C r vb vr aF sF w) : (∀ k ∈ r, k < h.length) ∧ r.Nodup := by
 obtain ⟨W, _, _, q⟩ := p; exact ⟨q.lt, q.nd⟩
theorem PlX.rowG (p : PlX w0 N S B b h C r vb vr aF sF w) (hc : checkI h = 0) : RowG h C r := by
 have h64 := (check_zero hc).1
 obtain ⟨W, _, _, q⟩ := p
 exact ⟨q.nd, fun k hk => by have := q.lt k hk; omega, q.base⟩
theorem xnew_any (x : Int) (hO : OrdIs w0 B b h) (hc : checkI h = 0) (ht : Tab w0) (hb : Below w0.heap.size w0 w) :
  Calls Tryz.prog 137 #[.pointer (some ⟨B, 0, none⟩), .int .i64 x] w fun e w' => ∃ S vb aF sF, e = .returned (.pointer (some ⟨S, 0, none⟩)) ∧ PlX w0 w.heap.size S B b h (clI x) [] vb (.slice none 0 0) aF sF w' ∧ Below w.heap.size w w' :=
 (pnew_any x h B b w (hO.below hb) hc (ht.below hb ht.pos)).mono fun _ _ ⟨S, vb, aF, sF, e, q⟩ => ⟨S, vb, aF, sF, e, ⟨w, hb, rfl, q⟩, q.bel⟩
theorem xtry_yes (p : PlX w0 N S B b h C r vb vr aF sF w) (hc : checkI h = 0) (hC : C < 9223372036854775808) (i : Nat) (hn : tryP h C r i = true) :
  Calls Tryz.prog 174 #[.pointer (some ⟨S, 0, none⟩), .int .i64 i] w fun e w' => e = .returned (.bool true) ∧ ∃ vr' aF' sF', PlX w0 N S B b h C (i :: r) vb vr' aF' sF' w' ∧ PlStep S vr vr' w w' := by
 obtain ⟨W, h1, h2, q⟩ := p
 exact (ptry_yes q hc hC i hn).mono fun _ _ ⟨e, vr', aF', sF', q', k⟩ => ⟨e, vr', aF', sF', ⟨W, h1, h2, q'⟩, k⟩
theorem xtry_no (p : PlX w0 N S B b h C r vb vr aF sF w) (hc : checkI h = 0) (hC : C < 9223372036854775808) (i : Int) (hn : tryI h C r i = false) :
  Calls Tryz.prog 174 #[.pointer (some ⟨S, 0, none⟩), .int .i64 i] w fun e w' => e = .returned (.bool false) ∧ Below w.heap.size w w' := by
 obtain ⟨W, h1, h2, q⟩ := p
 exact ptry_no q hc hC i hn
theorem xundo_cons {i : Nat} (p : PlX w0 N S B b h C (i :: r) vb vr aF sF w) (h64 : h.length ≤ 64) :
  Calls Tryz.prog 175 #[.pointer (some ⟨S, 0, none⟩)] w fun e w' => e = .returned (.bool true) ∧ ∃ vr', PlX w0 N S B b h C r vb vr' aF sF w' ∧ PlStep S vr vr' w w' := by
 obtain ⟨W, h1, h2, q⟩ := p
 exact (pundo_cons q h64).mono fun _ _ ⟨e, vr', q', k⟩ => ⟨e, vr', ⟨W, h1, h2, q'⟩, k⟩
theorem xplaced_any (p : PlX w0 N S B b h C r vb vr aF sF w) : Calls Tryz.prog 172 #[.pointer (some ⟨S, 0, none⟩)] w fun e w' => e = .returned (.int .u64 ((plS r : Nat) : Int)) ∧ w = w' := by
 obtain ⟨W, h1, h2, q⟩ := p; exact pplaced_any q
theorem xdone_any (p : PlX w0 N S B b h C r vb vr aF sF w) : Calls Tryz.prog 169 #[.pointer (some ⟨S, 0, none⟩)] w fun e w' => e = .returned (.bool (decide (r.length = h.length))) ∧ Below w.heap.size w w' := by
 obtain ⟨W, h1, h2, q⟩ := p; exact pdone_any q
theorem xrow_any (p : PlX w0 N S B b h C r vb vr aF sF w) (h64 : h.length ≤ 64) : Calls Tryz.prog 179 #[.pointer (some ⟨S, 0, none⟩)] w fun e w' => ∃ v, e = .returned v ∧ Ints w' v (r.reverse.map Int.ofNat) ∧ Below w.heap.size w w' := by
 obtain ⟨W, h1, h2, q⟩ := p; exact prow_any q h64
theorem xsees_any (i : Int) (p : PlX w0 N S B b h C r vb vr aF sF w) (h64 : h.length ≤ 64) : Calls Tryz.prog 177 #[.pointer (some ⟨S, 0, none⟩), .int .i64 i] w fun e w' => e = .returned (.int .u64 ((plSeeI h C r i : Nat) : Int)) ∧ w = w' := by
 obtain ⟨W, h1, h2, q⟩ := p; exact psees_any i q h64
end
def PlOf (S : Nat) (vb vr : Value) (g : Nat) : Prop := g = S ∨ vb.ownBlock = some g ∨ vr.ownBlock = some g
structure Two (w0 : World) (B b : Nat) (h : List TxnV) (C N1 S1 : Nat) (r1 : List Nat) (vb1 vr1 : Value) (aF1 sF1 : Nat → Nat) (N2 S2 : Nat) (r2 : List Nat) (vb2 vr2 : Value) (aF2 sF2 : Nat → Nat) (w : World) : Prop where
 p1 : PlX w0 N1 S1 B b h C r1 vb1 vr1 aF1 sF1 w
 p2 : PlX w0 N2 S2 B b h C r2 vb2 vr2 aF2 sF2 w
 ap : ∀ g, PlOf S1 vb1 vr1 g → ¬ PlOf S2 vb2 vr2 g
section
variable {w0 w w' : World} {B b : Nat} {h : List TxnV} {C N1 S1 N2 S2 : Nat} {r1 r2 : List Nat} {vb1 vr1 vb2 vr2 : Value} {aF1 sF1 aF2 sF2 : Nat → Nat}
theorem PlX.of (p : PlX w0 N1 S1 B b h C r1 vb1 vr1 aF1 sF1 w) {g : Nat} (hg : PlOf S1 vb1 vr1 g) : w0.heap.size ≤ g ∧ g < w.heap.size := by
 obtain ⟨a, c, d⟩ := p.lowS
 obtain ⟨o1, o2⟩ := p.own
 rcases hg with rfl | hg | hg
 ·omega
 ·have := o1 g hg; omega
 ·have := o2 g hg; omega
end
end

section
open Go.RowKit
def kV (p : Nat) (s : ByteArray) : Value := .agg #[.int .u64 (p : Int), .string s]
theorem kV_inj {p p' : Nat} {s s' : ByteArray} (h : kV p s = kV p' s') : p = p' ∧ s = s' := by
 unfold kV at h
 simp at h
 exact ⟨by exact_mod_cast h.1, h.2⟩
theorem lawK : Maps.Keyed Tryz.prog 246 :=
 Maps.Keyed.of_law (deep_law_laid laidOut (m := 2) (by omega) (of_decide_eq_true (by kernel_rfl)) (by kernel_rfl) (by kernel_rfl))
noncomputable def elK : TypeId := match Tryz.prog.underlying 205 with | some (.map _ e) => e | _ => 0
theorem undK : Tryz.prog.underlying 205 = some (.map 246 elK) := by kernel_rfl
theorem zeroK (w : World) : (zeroValue elK).run Tryz.prog w = .ok (.agg #[]) w := by kernel_rfl
theorem undKey : ∃ f1 f2 : Field, Tryz.prog.underlying 246 = some (.struct #[f1, f2]) ∧ (f1.name != "_") = true ∧ (f2.name != "_") = true ∧ f1.type = 106 ∧ f2.type = 9 ∧ f1.offset = 0 ∧ f2.offset = 1 := by
 have h0 : (match Tryz.prog.underlying 246 with | some (.struct fs) => fs.toList.map (fun f => (f.name != "_", f.type, f.offset)) | _ => []) = [(true, 106, 0), (true, 9, 1)] := by kernel_rfl
 cases hq : Tryz.prog.underlying 246 with
 | none => rw [hq] at h0; cases h0
 | some k =>
  rw [hq] at h0
  cases k
  case struct fs =>
   obtain ⟨l⟩ := fs
   simp only at h0
   match l, h0 with
   | [f1, f2], h0 =>
    simp only [List.map_cons, List.map_nil, List.cons.injEq, Prod.mk.injEq, and_true] at h0
    obtain ⟨⟨a1, a2, a3⟩, b1, b2, b3⟩ := h0
    exact ⟨f1, f2, rfl, a1, b1, a2, b2, a3, b3⟩
  all_goals cases h0
theorem cellsKey : Tryz.prog.cellsOf 246 = 2 ∧ Tryz.prog.cellsOf 106 = 1 ∧ Tryz.prog.cellsOf 9 = 1 := ⟨by kernel_rfl, by kernel_rfl, by kernel_rfl⟩
theorem litKey {p : Int} {s : ByteArray} (hp : (Lit.int .u64 p).wf = true) (hs : s.size ≤ maxLen) (d : Nat) : ∃ ls, Tryz.prog.keyLits (d + 2) 246 [.int .u64 p, .string s] = some ls := by
 obtain ⟨f1, f2, hu, n1, n2, t1, t2, o1, o2⟩ := undKey
 obtain ⟨c0, c1, c2⟩ := cellsKey
 have e1 : Tryz.prog.keyLits (d + 1) 106 [.int .u64 p] = some [.int .u64 p] := by
  unfold Program.keyLits
  rw [Tryz.underlying106]
  simp only [hp, and_self, if_true]
 have e2 : Tryz.prog.keyLits (d + 1) 9 [.string s] = some [.string s.data.toList] := by
  unfold Program.keyLits
  rw [Tryz.underlying9]
  simp only [hs, if_true]
 unfold Program.keyLits
 rw [hu]
 simp only [c0, List.length_cons, List.length_nil, Nat.zero_add, Nat.reduceAdd, true_and]
 rw [if_pos (by simp [n1, n2])]
 simp [t1, t2, o1, o2, c1, c2, e1, e2]
theorem keyOf_mk {p : Nat} {s : ByteArray} (hp : p < 18446744073709551616) (hs : s.size ≤ maxLen) : ∃ l, keyOf Tryz.prog 246 (kV p s) = some l ∧ WideAt.IsKeyLit l := by
 have hk : ∃ l, keyOf Tryz.prog 246 (kV p s) = some l := by
  have h1 : Tryz.prog.keyType 246 = true := by kernel_rfl
  have h2 : (kV p s).formed Tryz.prog 246 = true := by kernel_rfl
  obtain ⟨f1, f2, hu, _⟩ := undKey
  have hsz : 1 ≤ Tryz.prog.types.size := of_decide_eq_true (by kernel_rfl)
  obtain ⟨ls, hl⟩ := litKey (p := (p : Int)) (s := s) (WalkArith.wf_u64 (by omega)) hs (Tryz.prog.types.size - 1)
  rw [show Tryz.prog.types.size - 1 + 2 = Tryz.prog.types.size + 1 by omega] at hl
  unfold keyOf
  rw [hu]
  simp only [h1, h2, Bool.and_true, if_true]
  exact ⟨_, by rw [show (kV p s).cells.toList = [.int .u64 (p : Int), .string s] from rfl, hl]; rfl⟩
 obtain ⟨l, hl⟩ := hk
 exact ⟨l, hl, lawK.key hl⟩
def MemM (w : World) (b n : Nat) (f : Nat → ByteArray → Bool) : Prop :=
 ∃ D, w.ownsMap Tryz.prog 246 (unitElem (H := Unit)) b n D ∧ ∀ p s l, keyOf Tryz.prog 246 (kV p s) = some l → Maps.has D l = f p s
theorem MemM.made (w : World) : MemM (w.alloc (.map #[] 0)) w.heap.size 0 (fun _ _ => false) := ⟨_, World.ownsMap_made w _ _ _, fun _ _ _ _ => rfl⟩
section
variable {w : World} {b n : Nat} {f : Nat → ByteArray → Bool}
theorem MemM.lt (h : MemM w b n f) : b < w.heap.size := by obtain ⟨D, h, _⟩ := h; exact h.lt
theorem MemM.alloc (h : MemM w b n f) (o : Obj) : MemM (w.alloc o) b n f := by obtain ⟨D, h, r⟩ := h; exact ⟨D, h.alloc o, r⟩
theorem MemM.mono (h : MemM w b n f) {n' : Nat} (hn : n ≤ n') : MemM w b n' f := by obtain ⟨D, h, r⟩ := h; exact ⟨D, h.mono hn, r⟩
theorem MemM.below {w' : World} (h : MemM w b n f) {B : Nat} (hb : Below B w w') (hB : b < B) : MemM w' b n f := by
 obtain ⟨D, ⟨es, clock, h1, h2, h3, h4⟩, r⟩ := h
 exact ⟨D, ⟨es, clock, (hb.block b hB).trans h1, h2, h3, h4⟩, r⟩
theorem MemM.block {w' : World} (h : MemM w b n f) (hb : w'.heap[b]? = w.heap[b]?) : MemM w' b n f := by
 obtain ⟨D, ⟨es, clock, h1, h2, h3, h4⟩, r⟩ := h
 exact ⟨D, ⟨es, clock, hb.trans h1, h2, h3, h4⟩, r⟩
end
section
variable {ops : Array Oper} {rest : List Oper} {o : Oper} {a : Act} {Q : Exit → Act → World → Prop} (w : World)
theorem wpList_lookM (hg : o.guard = none) (m x : Operand) (t : TypeId) (hop : o.op = Op.lookup t m x true) (ht : t = 205)
  (b n : Nat) (f : Nat → ByteArray → Bool) (hm : a.eval m = .map (some b)) (hown : MemM w b n f) (p : Nat) (s : ByteArray) (hx : a.eval x = kV p s) (hp : p < 18446744073709551616) (hs : s.size ≤ maxLen)
  (hK : wpList Tryz.prog ops Q rest (a.put o.dst (.tuple #[.agg #[], .bool (f p s)])) w) : wpList Tryz.prog ops Q (o :: rest) a w := by
 subst ht
 obtain ⟨D, hD, r⟩ := hown
 obtain ⟨l, hl, _⟩ := keyOf_mk hp hs
 rw [← r p s l hl] at hK
 exact wpList_lookup_own_unit w hg m x _ hop _ _ lawK undK (zeroK w) b n D hm hD (kV p s) l hx hl hK
theorem wpList_putM (hg : o.guard = none) (m x v : Operand) (t : TypeId) (hop : o.op = Op.mapUpdate t m x v) (ht : t = 205)
  (b n : Nat) (f : Nat → ByteArray → Bool) (hm : a.eval m = .map (some b)) (hown : MemM w b n f) (hn : n < maxLen) (p : Nat) (s : ByteArray) (hx : a.eval x = kV p s) (hp : p < 18446744073709551616) (hs : s.size ≤ maxLen) (hv : a.eval v = .agg #[])
  (hK : ∀ w', MemM w' b (n + 1) (fun q u => decide (q = p ∧ u = s) || f q u) → w.grownBy w' (some b) → wpList Tryz.prog ops Q rest (a.put o.dst undef) w') : wpList Tryz.prog ops Q (o :: rest) a w := by
 subst ht
 obtain ⟨D, hD, r⟩ := hown
 obtain ⟨l, hl, hkl⟩ := keyOf_mk hp hs
 refine wpList_mapUpdate_own w hg m x v _ hop _ _ lawK undK (unitElem (H := Unit)) b n D hm hD hn _ _ _ hx hv hl (.agg []) [] unitElem_mk fun w' h1 h2 => hK w' ⟨_, h1, fun q u lq hq => ?_⟩ h2
 by_cases e : q = p ∧ u = s
 ·obtain ⟨rfl, rfl⟩ := e
  rw [hl] at hq
  cases hq
  rw [Maps.has_put_same hD.isMap hkl]
  simp
 ·have hne : lq ≠ l := fun h => e (kV_inj (lawK.inj (h ▸ hq) hl))
  rw [Maps.has_put_other hne, r q u lq hq]
  show _ = (decide (q = p ∧ u = s) || f q u)
  rw [decide_eq_false e]
  rfl
end
end

section
open Go.RowKit
theorem run_nil_map (b : Nat) (w : World) : Sem.run Tryz.prog (binOp BinOp.eql 205 (.map (some b)) (.map none)) w = .ok (.bool false) w := by kernel_rfl
section
variable {w : World} {b n : Nat} {f : Nat → ByteArray → Bool} {p : Nat} {s : ByteArray}
theorem mhas_any (hM : MemM w b n f) (hp : p < 18446744073709551616) (hs : s.size ≤ maxLen) :
  Calls Tryz.prog 171 #[.map (some b), kV p s] w fun e w' => e = .returned (.bool (f p s)) ∧ Below w.heap.size w w' := by
 unfold kV
 have hb1 := (Below.refl w.heap.size w).alloc (Nat.le_refl _) (.cells #[.int .u64 (p : Int), .string s] 246)
 have hM1 := hM.alloc (.cells #[.int .u64 (p : Int), .string s] 246)
 have HB : Hid (∀ o, Below w.heap.size w ((w.alloc (.cells #[.int .u64 (p : Int), .string s] 246)).alloc o)) := hid (fun o => hb1.alloc (by simp) _)
 have c0 : (w.alloc (.cells #[.int .u64 (p : Int), .string s] 246)).cell? ⟨w.heap.size, 0, none⟩ = some (.int .u64 (p : Int)) := by rw [cell_of_row _ _ _ _ _ _ (heap_alloc_new w _)]; rfl
 have c1 : (w.alloc (.cells #[.int .u64 (p : Int), .string s] 246)).cell? ⟨w.heap.size, 1, none⟩ = some (.string s) := by rw [cell_of_row _ _ _ _ _ _ (heap_alloc_new w _)]; rfl
 clear hM hb1
 go_enter Tryz.func171, Tryz.ntmps171
 go_wp2_with (first | (at_lookup; refine wpList_lookM _ rfl _ _ _ rfl rfl _ _ _ rfl hM1 _ _ rfl hp hs ?_) | go_in)
 go_ret
 exact ⟨rfl, HB.out _⟩
theorem madd_no (hM : MemM w b n f) (hp : p < 18446744073709551616) (hs : s.size ≤ maxLen) (hf : f p s = true) :
  Calls Tryz.prog 176 #[.map (some b), kV p s] w fun e w' => e = .returned (.bool false) ∧ Below w.heap.size w w' := by
 have hb1 := (Below.refl w.heap.size w).alloc (Nat.le_refl _) (.cells #[.int .u64 (p : Int), .string s] 246)
 have hM1 := hM.alloc (.cells #[.int .u64 (p : Int), .string s] 246)
 have c0 : (w.alloc (.cells #[.int .u64 (p : Int), .string s] 246)).cell? ⟨w.heap.size, 0, none⟩ = some (.int .u64 (p : Int)) := by rw [cell_of_row _ _ _ _ _ _ (heap_alloc_new w _)]; rfl
 have c1 : (w.alloc (.cells #[.int .u64 (p : Int), .string s] 246)).cell? ⟨w.heap.size, 1, none⟩ = some (.string s) := by rw [cell_of_row _ _ _ _ _ _ (heap_alloc_new w _)]; rfl
 have CH := hid (mhas_any hM1 hp hs)
 rw [hf] at CH
 have HB1 := hid hb1
 clear hM hM1 hb1
 unfold kV at CH ⊢
 have hnil := run_nil_map b
 go_enter Tryz.func176, Tryz.ntmps176
 go_wp2_with fail
 refine CH.out.mono ?_
 rintro e w1 ⟨rfl, hb⟩
 have hb2 := below_then HB1.out hb
 go_wp2_with fail
 go_ret
 exact ⟨rfl, hb2⟩
theorem madd_yes (hM : MemM w b n f) (hn : n < maxLen) (hp : p < 18446744073709551616) (hs : s.size ≤ maxLen) (hf : f p s = false) :
  Calls Tryz.prog 176 #[.map (some b), kV p s] w fun e w' => e = .returned (.bool true) ∧ MemM w' b (n + 1) (fun q u => decide (q = p ∧ u = s) || f q u) ∧ w.grownBy w' (some b) := by
 have hb1 := (Below.refl w.heap.size w).alloc (Nat.le_refl _) (.cells #[.int .u64 (p : Int), .string s] 246)
 have hM1 := hM.alloc (.cells #[.int .u64 (p : Int), .string s] 246)
 have c0 : (w.alloc (.cells #[.int .u64 (p : Int), .string s] 246)).cell? ⟨w.heap.size, 0, none⟩ = some (.int .u64 (p : Int)) := by rw [cell_of_row _ _ _ _ _ _ (heap_alloc_new w _)]; rfl
 have c1 : (w.alloc (.cells #[.int .u64 (p : Int), .string s] 246)).cell? ⟨w.heap.size, 1, none⟩ = some (.string s) := by rw [cell_of_row _ _ _ _ _ _ (heap_alloc_new w _)]; rfl
 have CH := hid (mhas_any hM1 hp hs)
 rw [hf] at CH
 have HB1 := hid hb1
 have hsz : w.heap.size < (w.alloc (.cells #[.int .u64 (p : Int), .string s] 246)).heap.size := by simp
 have hM0 := hid hM1
 clear hM hM1 hb1
 have HK : Hid (∀ wx, Below (w.alloc (.cells #[.int .u64 (p : Int), .string s] 246)).heap.size (w.alloc (.cells #[.int .u64 (p : Int), .string s] 246)) wx → wx.cell? ⟨w.heap.size, 0, none⟩ = some (.int .u64 (p : Int)) ∧ wx.cell? ⟨w.heap.size, 1, none⟩ = some (.string s) ∧ MemM wx b n f) :=
  hid (fun wx hx => ⟨(hx.cell (p := ⟨w.heap.size, 0, none⟩) hsz).trans c0, (hx.cell (p := ⟨w.heap.size, 1, none⟩) hsz).trans c1, hM0.out.below hx hM0.out.lt⟩)
 have HG : Hid (∀ wx wy, Below (w.alloc (.cells #[.int .u64 (p : Int), .string s] 246)).heap.size (w.alloc (.cells #[.int .u64 (p : Int), .string s] 246)) wx → wx.grownBy wy (some b) → w.grownBy wy (some b)) :=
  hid (fun wx wy hx hg => ⟨hg.os.trans hx.os, hg.tape.trans hx.tape, hg.output.trans hx.output, Nat.le_trans (Nat.le_trans (by simp) hx.size) hg.size, fun k hk hne => (hg.block k (Nat.lt_of_lt_of_le (Nat.lt_of_lt_of_le hk (by simp)) hx.size) hne).trans ((hx.block k (Nat.lt_of_lt_of_le hk (by simp))).trans (Below.heap_alloc w _ k hk))⟩)
 unfold kV at CH ⊢
 clear hsz hM0
 have hnil := run_nil_map b
 go_enter Tryz.func176, Tryz.ntmps176
 go_wp2_with fail
 refine CH.out.mono ?_
 rintro e w1 ⟨rfl, hb⟩
 obtain ⟨d0, d1, hM1⟩ := HK.out _ hb
 have HG1 := hid (fun wy hg => HG.out w1 wy hb hg)
 clear c0 c1 HK HG hb
 go_wp2_with (first | (at_mapUpdate; refine wpList_putM _ rfl _ _ _ _ rfl rfl _ _ _ rfl hM1 hn _ _ rfl hp hs rfl ?_; intro w2 hM2 hg2) | go_in)
 have hg3 := HG1.out _ hg2
 go_ret
 exact ⟨rfl, hM2, hg3⟩
end
end

section
def timesN (a b : Nat) : Nat := min (a * b) 4611686018427387904
theorem times_big {a b : Nat} (hb : 0 < b) (h : 4611686018427387904 / b < a) : timesN a b = 4611686018427387904 := by
 have := (Nat.div_lt_iff_lt_mul hb).1 h
 exact Nat.min_eq_right (Nat.le_of_lt this)
theorem times_small {a b : Nat} (hb : 0 < b) (h : ¬ 4611686018427387904 / b < a) : timesN a b = a * b ∧ a * b ≤ 4611686018427387904 := by
 have := (Nat.le_div_iff_mul_le hb).1 (Nat.le_of_not_lt h)
 exact ⟨Nat.min_eq_left this, this⟩
theorem times_le (a b : Nat) : timesN a b ≤ 4611686018427387904 := Nat.min_le_right _ _
theorem times_pos {a b : Nat} (ha : 0 < a) (hb : 0 < b) : 0 < timesN a b := Nat.lt_min.2 ⟨Nat.mul_pos ha hb, by decide⟩
theorem times_ge {a b : Nat} (hb : 0 < b) (ha : a ≤ 4611686018427387904) : a ≤ timesN a b := Nat.le_min.2 ⟨Nat.le_mul_of_pos_right a hb, ha⟩
def levN : Nat → Nat
 | 0 => 3
 | k + 1 => timesN (levN k) (k + 1)
theorem lev_le : ∀ k, levN k ≤ 4611686018427387904
 | 0 => by decide
 | k + 1 => times_le _ _
theorem lev_pos : ∀ k, 0 < levN k
 | 0 => by decide
 | k + 1 => times_pos (lev_pos k) (Nat.succ_pos k)
theorem lev_step (k : Nat) : levN k ≤ levN (k + 1) := times_ge (Nat.succ_pos k) (lev_le k)
theorem lev_mono {i k : Nat} (h : i ≤ k) : levN i ≤ levN k := by
 induction h with
 | refl => exact Nat.le_refl _
 | step _ ih => exact Nat.le_trans ih (lev_step _)
theorem lev_full {i k : Nat} (h : i ≤ k) (hi : 4611686018427387904 ≤ levN i) : levN k = 4611686018427387904 := Nat.le_antisymm (lev_le k) (Nat.le_trans hi (lev_mono h))
theorem lev_64 : levN 64 = 4611686018427387904 := by decide +kernel
theorem lev_most {k : Nat} (h : 64 ≤ k) : levN k = 4611686018427387904 := lev_full h (Nat.le_of_eq lev_64.symm)
def levZ (n : Int) : Nat := levN n.toNat
def fuelN (much : Int) : Nat := (min (max much 0) 4611686018427387904).toNat
def mleftN (f u : Nat) : Nat := if f = 4611686018427387904 then 4611686018427387904 else f - u
theorem fuel_le (much : Int) : fuelN much ≤ 4611686018427387904 := by unfold fuelN; omega
end

section
open Go.RowKit
theorem tdiv_nat (b : Nat) : (4611686018427387904 : Int).tdiv (b : Int) = ((4611686018427387904 / b : Nat) : Int) := rfl
theorem ftimes_any (a b : Nat) (w : World) (hb : 0 < b) :
  Calls Tryz.prog 101 #[.int .i64 (a : Int), .int .i64 (b : Int)] w fun e w' => e = .returned (.int .i64 ((timesN a b : Nat) : Int)) ∧ w = w' := by
 have hne : ¬ (b : Int) = 0 := by omega
 have hbi : (0 : Int) < (b : Int) := by omega
 have hq : 4611686018427387904 / b ≤ 4611686018427387904 := Nat.div_le_self _ _
 have HD := tdiv_nat b
 have HX := hid (times_big (a := a) hb)
 have HY := hid (times_small (a := a) hb)
 generalize 4611686018427387904 / b = q at *
 by_cases h : q < a
 ·have HV := hid (HX.out h)
  have hi : (q : Int) < (a : Int) := by omega
  clear HY h
  go_enter Tryz.func101, Tryz.ntmps101
  go_wp2_with fail
  go_ret
  exact ⟨ret_i (by rw [HV.out]; rfl), rfl⟩
 ·have HV := hid (HY.out h)
  have hp : a * b ≤ 4611686018427387904 := HV.out.2
  have hpi : (a : Int) * (b : Int) ≤ 4611686018427387904 := by rw [← Int.natCast_mul]; omega
  have hp0 : (0 : Int) ≤ (a : Int) * (b : Int) := by rw [← Int.natCast_mul]; omega
  have hi : ¬ (q : Int) < (a : Int) := by omega
  clear HX h hp
  go_enter Tryz.func101, Tryz.ntmps101
  go_wp2_with fail
  go_ret
  exact ⟨ret_i (by rw [HV.out.1, Int.natCast_mul]), rfl⟩
theorem flevel_any (n : Int) (w : World) :
  Calls Tryz.prog 102 #[.int .i64 n] w fun e w' => e = .returned (.int .i64 ((levZ n : Nat) : Int)) ∧ w = w' := by
 have HE : Hid (∀ k : Nat, k ≤ n.toNat → (n < (k : Int) + 1 ∨ 4611686018427387904 ≤ levN k) → levN k = levZ n) := hid (fun k hk h => by
  unfold levZ
  rcases h with h | h
  ·rw [show n.toNat = k by omega]
  ·rw [lev_full hk h]; exact Nat.le_antisymm (lev_le k) h)
 have HM : Hid (∀ k : Nat, 4611686018427387904 ≤ levN k ∨ k < 64) := hid (fun k => by
  rcases Nat.lt_or_ge k 64 with h | h
  ·exact .inr h
  ·exact .inl (Nat.le_of_eq (lev_most h).symm))
 have CT := hid (fun a b w hb => ftimes_any a b w hb)
 go_enter Tryz.func102, Tryz.ntmps102
 go_wp2_with fail
 go_loop [3, 4] (fun x i => ∃ k j : Nat, k ≤ n.toNat ∧ Hid (j = k + 1) ∧ x = .int .i64 ((levN k : Nat) : Int) ∧ i = .int .i64 (j : Int)) (fun _ i => (n + 1 - intOf i).toNat)
 case atStart => exact ⟨0, 1, by omega, hid rfl, rfl, rfl⟩
 case round =>
  obtain ⟨k, j, hk, HJ, rfl, rfl⟩ := hrel
  have hle := lev_le k
  have hm := HM.out k
  have HS : Hid (timesN (levN k) j = levN (k + 1)) := hid (by rw [HJ.out]; rfl)
  have HR : Hid ((n < (j : Int) ∨ 4611686018427387904 ≤ levN k) → levN k = levZ n) := hid (fun h => HE.out k hk (by rw [HJ.out] at h; exact h.imp (fun q => by omega) id))
  have HN : Hid ((j : Int) ≤ n → k + 1 ≤ n.toNat) := hid (fun h => by have := HJ.out; omega)
  have hj : 0 < j := by have := HJ.out; omega
  have hj65 : 4611686018427387904 ≤ levN k ∨ (j : Int) + 1 ≤ 9223372036854775807 := by have := HJ.out; omega
  have CX := hid (fun wx => CT.out (levN k) j wx hj)
  clear hm hk
  generalize levN k = x at *
  by_cases h1 : (j : Int) ≤ n
  ·by_cases h2 : x < 4611686018427387904
   ·have h3 : (x : Int) < 4611686018427387904 := by omega
    have hj2 : (j : Int) + 1 ≤ 9223372036854775807 := by omega
    have HN2 := hid (HN.out h1)
    rw [HS.out] at CX
    clear h2 hj65 hle hj
    generalize hy : levN (k + 1) = y at *
    have HY := hid hy
    clear hy
    go_wp2_with (refine (CX.out _).mono ?_; rintro e w' ⟨rfl, rfl⟩)
    go_round
    case rel => exact ⟨k + 1, j + 1, HN2.out, hid (by rw [HJ.out]), by rw [HY.out], rfl⟩
    case measure => simp only [intOf]; omega
   ·have HQ := hid (HR.out (.inr (by omega)))
    have h3 : ¬ (x : Int) < 4611686018427387904 := by omega
    clear h2 hj65 hle
    go_wp2_with fail
    go_ret
    exact ⟨ret_i (by rw [HQ.out]), rfl⟩
  ·have HQ := hid (HR.out (.inl (by omega)))
   clear hj65 hle
   go_wp2_with fail
   go_ret
   exact ⟨ret_i (by rw [HQ.out]), rfl⟩
theorem fall_any (n : Int) (w : World) :
  Calls Tryz.prog 51 #[.int .i64 n] w fun e w' => e = .returned (.int .i64 ((timesN (levZ n) 12 : Nat) : Int)) ∧ w = w' := by
 have HV : Hid (timesN 12 (levZ n) = timesN (levZ n) 12) := hid (by unfold timesN; rw [Nat.mul_comm])
 have C1 := hid (flevel_any n w)
 have C2 := hid (ftimes_any 12 (levZ n) w (lev_pos _))
 generalize levZ n = x at *
 rw [HV.out] at C2
 go_enter Tryz.func51, Tryz.ntmps51
 go_wp2_with (first | (go_at_call 102; refine C1.out.mono ?_; rintro e w' ⟨rfl, rfl⟩) | (go_at_call 101; refine C2.out.mono ?_; rintro e w' ⟨rfl, rfl⟩))
 go_ret
 exact ⟨rfl, rfl⟩
end

section
open Go.RowKit
structure MtAt (w : World) (S f u : Nat) : Prop where
 cF : w.cell? ⟨S, 0, none⟩ = some (.int .i64 (f : Int))
 cU : w.cell? ⟨S, 1, none⟩ = some (.int .i64 (u : Int))
 fU : w.frozen? ⟨S, 1, none⟩ = false
 le : f ≤ 4611686018427387904
 uM : u ≤ 4611686018427387904
 ue : f ≠ 4611686018427387904 → u ≤ f
theorem MtAt.lt {w : World} {S f u : Nat} (h : MtAt w S f u) : S < w.heap.size := by
 have h1 := h.cF
 unfold World.cell? at h1
 cases ho : w.heap[S]? with
 | none => simp [ho] at h1
 | some o => exact (Array.getElem?_eq_some_iff.1 ho).1
theorem MtAt.below {w w' : World} {S f u B : Nat} (h : MtAt w S f u) (hb : Below B w w') (hB : S < B) : MtAt w' S f u :=
 ⟨(hb.cell (p := ⟨S, 0, none⟩) hB).trans h.cF, (hb.cell (p := ⟨S, 1, none⟩) hB).trans h.cU, (hb.frozen (p := ⟨S, 1, none⟩) hB).trans h.fU, h.le, h.uM, h.ue⟩
theorem MtAt.more {w : World} {S f u : Nat} (h : MtAt w S f u) (hu : u + 1 ≤ 4611686018427387904) (hf : f ≠ 4611686018427387904 → u + 1 ≤ f) : MtAt (w.setCell ⟨S, 1, none⟩ (.int .i64 ((u + 1 : Nat) : Int))) S f (u + 1) := by
 refine ⟨?_, World.cell?_setCell_same _ _ _ h.cU, by rw [World.frozen?_setCell]; exact h.fU, h.le, hu, hf⟩
 rw [World.cell?_setCell_other _ _ _ _ (by simp)]; exact h.cF
theorem MtAt.made (w : World) {x : Int} {f : Nat} (t : TypeId) (hx : x = (f : Int)) (hf : f ≤ 4611686018427387904) : MtAt (w.alloc (.cells #[.int .i64 x, .int .i64 0] t)) w.heap.size f 0 := by
 subst hx
 have hh := heap_alloc_new w (.cells #[.int .i64 (f : Int), .int .i64 0] t)
 refine ⟨?_, ?_, frozen_of_row _ _ _ _ _ hh, hf, by omega, fun _ => by omega⟩
 ·rw [cell_of_row _ _ _ _ _ _ hh]; rfl
 ·rw [cell_of_row _ _ _ _ _ _ hh]; rfl
theorem fnew_any (n : Int) (w : World) :
  Calls Tryz.prog 94 #[.int .i64 n] w fun e w' => ∃ S, e = .returned (.pointer (some ⟨S, 0, none⟩)) ∧ MtAt w' S (fuelN n) 0 ∧ w.heap.size ≤ S ∧ Below w.heap.size w w' := by
 have HV : Hid (min (max n 0) 4611686018427387904 = ((fuelN n : Nat) : Int)) := hid (by unfold fuelN; omega)
 have HL := hid (fuel_le n)
 go_enter Tryz.func94, Tryz.ntmps94
 have HM : Hid (∀ x : Int, x = min (max n 0) 4611686018427387904 → MtAt (w.alloc (.cells #[.int .i64 x, .int .i64 0] 199)) w.heap.size (fuelN n) 0) := hid (fun x hx => MtAt.made w 199 (by rw [hx]; exact HV.out) HL.out)
 have HB : Hid (∀ o, Below w.heap.size w (w.alloc o)) := hid (fun o => (Below.refl _ _).alloc (Nat.le_refl _) _)
 clear HV HL
 go_wp2_with fail
 all_goals
  go_ret
  exact ⟨_, rfl, HM.out _ (by omega), Nat.le_refl _, HB.out _⟩
theorem fleft_any (S f u : Nat) (w : World) (h : MtAt w S f u) :
  Calls Tryz.prog 319 #[.pointer (some ⟨S, 0, none⟩)] w fun e w' => e = .returned (.int .i64 ((mleftN f u : Nat) : Int)) ∧ Below w.heap.size w w' := by
 have h0 := h.cF
 have h1 := h.cU
 have hf := h.le
 have hu := h.uM
 by_cases e : f = 4611686018427387904
 ·have HV : Hid ((4611686018427387904 : Int) = ((mleftN f u : Nat) : Int)) := hid (by unfold mleftN; rw [if_pos e]; rfl)
  have e1 : ((f : Int) == 4611686018427387904) = true := by rw [beq_iff_eq]; omega
  clear h hf e
  go_enter Tryz.func319, Tryz.ntmps319
  go_wp2_with fail
  go_ret
  exact ⟨ret_i HV.out, Below.refl _ _⟩
 ·have hle := h.ue e
  have HV : Hid ((f : Int) - (u : Int) = ((mleftN f u : Nat) : Int)) := hid (by unfold mleftN; rw [if_neg e]; omega)
  have e1 : ((f : Int) == 4611686018427387904) = false := by rw [beq_eq_false_iff_ne]; omega
  clear h e
  go_enter Tryz.func319, Tryz.ntmps319
  go_wp2_with fail
  go_quiet (fail)
  go_wp2_with fail
  go_ret
  exact ⟨ret_i HV.out, below_drewN (Below.refl _ _) _⟩
theorem fspend_no (S f u : Nat) (w : World) (h : MtAt w S f u) (h0 : mleftN f u = 0) :
  Calls Tryz.prog 320 #[.pointer (some ⟨S, 0, none⟩)] w fun e w' => e = .returned (.bool false) ∧ Below w.heap.size w w' := by
 have C1 := hid (fleft_any S f u w h)
 rw [h0] at C1
 clear h h0
 go_enter Tryz.func320, Tryz.ntmps320
 go_wp2_with fail
 refine C1.out.mono ?_
 rintro e w1 ⟨rfl, hb⟩
 go_wp2_with fail
 go_ret
 exact ⟨rfl, hb⟩
end

section
open Go.RowKit
theorem fspend_own (S f u : Nat) (w : World) (h : MtAt w S f u) (h0 : mleftN f u ≠ 0) (hM : u + 1 ≤ 4611686018427387904) :
  Calls Tryz.prog 320 #[.pointer (some ⟨S, 0, none⟩)] w fun e w' => e = .returned (.bool true) ∧ MtAt w' S f (u + 1) ∧ w.grownBy w' (some S) := by
 have C1 := hid (fleft_any S f u w h)
 have hf : f ≠ 4611686018427387904 → u + 1 ≤ f := fun e => by unfold mleftN at h0; rw [if_neg e] at h0; omega
 have H2 : Hid (∀ wx, Below w.heap.size w wx → MtAt wx S f u ∧ ∀ x, w.grownBy (wx.setCell ⟨S, 1, none⟩ x) (some S)) := hid (fun wx hb => ⟨h.below hb h.lt, fun x => by
  have hs : Below 0 wx (wx.setCell ⟨S, 1, none⟩ x) := (Below.refl 0 wx).setCell (Nat.zero_le _) x
  exact ⟨hs.os.trans hb.os, hs.tape.trans hb.tape, hs.output.trans hb.output, Nat.le_trans hb.size hs.size, fun k hk hne => (Below.heap_setCell wx ⟨S, 1, none⟩ x k (fun e => hne (congrArg some e))).trans (hb.block k hk)⟩⟩)
 have HF := hid hf
 have hne : (((mleftN f u : Nat) : Int) == 0) = false := by rw [beq_eq_false_iff_ne]; omega
 clear h h0 hf
 generalize mleftN f u = x at *
 go_enter Tryz.func320, Tryz.ntmps320
 go_wp2_with fail
 refine C1.out.mono ?_
 rintro e w1 ⟨rfl, hb⟩
 obtain ⟨q, hb2⟩ := H2.out _ hb
 have HQ := hid (q.more hM HF.out)
 have h1 := q.cU
 have h2 := q.fU
 have HB := hid (hb2 (.int .i64 ((u + 1 : Nat) : Int)))
 clear q hb2 hb
 go_wp2_with fail
 go_ret
 exact ⟨rfl, HQ.out, HB.out⟩
end

section
open Go.RowKit
theorem row_perm {n : Nat} (hn : n ≤ 64) {L : List Nat} (h : L.Perm (List.range n)) : rowOkA (n : Int) (L.map Int.ofNat) = true := by
 have hl : (L.map Int.ofNat).length = n := by rw [List.length_map, h.length_eq, List.length_range]
 unfold rowOkA
 rw [hl, decide_eq_true rfl, Bool.true_and, decide_eq_true_eq, setL_eq]
 refine set_ext (isSet_ofL _) ?_ fun i hi => ?_
 ·unfold belowS IsSet
  split
  ·omega
  ·split
   ·omega
   ·have := Nat.pow_lt_pow_right (a := 2) (by omega) (show (n : Int).toNat < 64 by omega)
    omega
 ·rw [testBit_ofL, decide_eq_true hi, Bool.true_and]
  have e1 : hasL (L.map Int.ofNat) (i : Int) = decide (i < n) := by
   unfold hasL
   rw [Bool.eq_iff_iff, List.any_eq_true, decide_eq_true_eq]
   constructor
   ·rintro ⟨a, ha, e⟩
    obtain ⟨k, hk, rfl⟩ := List.mem_map.1 ha
    have := List.mem_range.1 (h.mem_iff.1 hk)
    rw [beq_iff_eq] at e
    have : k = i := Int.ofNat.inj e
    omega
   ·intro hin
    exact ⟨(i : Int), List.mem_map.2 ⟨i, h.mem_iff.2 (List.mem_range.2 hin), rfl⟩, by simp⟩
  rw [e1]
  unfold belowS
  by_cases h0 : (n : Int) ≤ 0
  ·rw [if_pos h0, Nat.zero_testBit]
   exact decide_eq_false (by omega)
  ·rw [if_neg h0]
   by_cases h64 : 64 ≤ (n : Int)
   ·rw [if_pos h64]
    have : n = 64 := by omega
    subst this
    rw [show (18446744073709551615 : Nat) = 2 ^ 64 - 1 from rfl, Nat.testBit_two_pow_sub_one]
   ·rw [if_neg h64, Int.toNat_natCast, Nat.testBit_two_pow_sub_one]
theorem least_kept {h : List TxnV} {x : Nat} {l : List Int} {R : Mat} (hlt : x < 64) (hR : LeastIs h x l R) : lackN x (keptN h l R) = 0 := by
 have hx : x < 9223372036854775808 := by omega
 rw [lack_iff]
 intro k hb
 have hk6 : k < 6 := by
  apply Decidable.byContradiction
  intro hge
  have hp : (64 : Nat) ≤ 2 ^ k := by
   have := Nat.pow_le_pow_right (n := 2) (by omega) (show 6 ≤ k by omega)
   omega
  rw [Nat.testBit_lt_two_pow (by omega)] at hb
  cases hb
 rw [kept_bit h l R hk6, inM_iff]
 intro i j hi hj hm
 have h7 : k = 0 ∨ k = 1 ∨ k = 2 ∨ k = 3 ∨ k = 4 ∨ k = 5 := by omega
 rcases h7 with rfl | rfl | rfl | rfl | rfl | rfl
 ·exact least_base hx hR hi hj (.inr (.inl ⟨hb, hm⟩))
 ·obtain ⟨q, hq, a1, a2⟩ := (thenR_iff R R i j).1 hm
  exact (hR i j hi hj).2 (.trans (by rw [trB_bit _ hx]; exact hb) hq ((hR i q hi hq).1 a1) ((hR q j hq hj).1 a2))
 ·obtain ⟨q, hq, a1, a2⟩ := (thenR_iff _ R i j).1 hm
  exact (hR i j hi hj).2 (.pre (by rw [pfB_bit _ hx]; exact hb) hq a1 ((hR q j hq hj).1 a2))
 ·exact least_base hx hR hi hj (.inr (.inr (.inr (.inl ⟨hb, hm⟩))))
 ·exact least_base hx hR hi hj (.inr (.inr (.inr (.inr ⟨hb, hm⟩))))
 ·exact least_base hx hR hi hj (.inr (.inr (.inl ⟨hb, hm⟩)))
section
variable {h : List TxnV} {C : Nat}
theorem good_row (hc : checkI h = 0) {r : List Nat} (hnd : r.Nodup) (hlt : ∀ k ∈ r, k < h.length) (g : goodR h C r) : RowG h C r :=
 ⟨hnd, fun k hk => by have := hlt k hk; have := (check_zero hc).1; omega, fun k hk => (g k hk).1⟩
theorem sees_col {r : List Nat} {k : Nat} (hk : k < 64) : seeTo (seesR h C r) (k : Int) 64 = plSee h C r k := by
 refine set_ext (seeTo_set _ _ _) (plSee_set h C r k) fun j hj => ?_
 rw [seeTo_bit _ _ _ _ (Nat.le_refl 64), decide_eq_true hj, Bool.true_and, hasR_nat _ _ _ hj hk]; rfl
theorem seeTo_congr {R S : Mat} (h : ∀ i j, i < 64 → j < 64 → R i j = S i j) {k : Nat} (hk : k < 64) : seeTo R (k : Int) 64 = seeTo S (k : Int) 64 := by
 refine set_ext (seeTo_set _ _ _) (seeTo_set _ _ _) fun j hj => ?_
 rw [seeTo_bit _ _ _ _ (Nat.le_refl 64), seeTo_bit _ _ _ _ (Nat.le_refl 64), hasR_nat _ _ _ hj hk, hasR_nat _ _ _ hj hk, h j k hj hk]
theorem good_right (hc : checkI h = 0) {r : List Nat} (g : RowG h C r) (hC : C < 9223372036854775808) (hlt : ∀ k ∈ r, k < h.length) {k : Nat} (hk : k ∈ r) :
  (readsOf h k).all (readOk h (r.reverse.map Int.ofNat) (seesR h C r) k) = readsP h (aheadL r) (plSee h C r k) k := by
 unfold readsP
 have hkn := hlt k hk
 have h64 := (check_zero hc).1
 refine all_congr _ fun x hx => ?_
 unfold readOk
 rw [sees_col (by omega)]
 refine read_last hc g.nd g.lt hkn (fun j hj => aheadL_mem g.lt (sees_ahead g.lt g.nd g.base hj)) hx fun n e => ?_
 rw [sees_fix g k hk]
 refine wld4_base ?_
 rcases read_from hc hkn hx with q | ⟨m, hm, q, _, _⟩
 ·rw [e] at q; omega
 ·have : n = m := by rw [e] at q; exact Int.ofNat.inj q
  subst this
  exact from_base hC h64 hkn hm hx q
theorem good_holds (hc : checkI h = 0) {lv : Int} (hlv : isLv lv = true) {r : List Nat} (hp : r.reverse.Perm (List.range h.length)) {R : Mat} (hR : LeastIs h (askN lv) (r.reverse.map Int.ofNat) R) :
  (holdsB h lv (r.reverse.map Int.ofNat) R = true ↔ soundTo h h.length = true ∧ goodR h (clI ((askN lv : Nat) : Int)) r) ∧
  (holdsB h lv (r.reverse.map Int.ofNat) R = true → ∀ j k, j < 64 → k < 64 → R j k = (plSee h (clI ((askN lv : Nat) : Int)) r k).testBit j) := by
 have h64 := (check_zero hc).1
 have hnd : r.Nodup := by
  have := (List.Perm.nodup_iff hp).2 List.nodup_range
  exact (List.reverse_perm r).nodup_iff.1 this
 have hmem : ∀ k, k ∈ r ↔ k < h.length := fun k => by rw [← List.mem_reverse, hp.mem_iff, List.mem_range]
 have hlt : ∀ k ∈ r, k < h.length := fun k hk => (hmem k).1 hk
 have hlt64 : ∀ k ∈ r, k < 64 := fun k hk => by have := hlt k hk; omega
 have hx := askN_lt lv
 have hx' : askN lv < 9223372036854775808 := by omega
 have hy : clI ((askN lv : Nat) : Int) < 9223372036854775808 := by have := clI_lt ((askN lv : Nat) : Int); omega
 obtain ⟨b0, b1, b2, b3, b4, b5⟩ := clI_bits (askN lv)
 generalize hCe : clI ((askN lv : Nat) : Int) = C at *
 have hNL : (r.reverse.map Int.ofNat).Nodup := nodup_ofNat ((List.reverse_perm r).nodup_iff.2 hnd)
 have hrow : rowOkA (h.length : Int) (r.reverse.map Int.ofNat) = true := row_perm h64 hp
 -- of a good row
 have K : RowG h C r → inM R (chainR (r.reverse.map Int.ofNat)) = true → ∀ j k, j < 64 → k < 64 → R j k = (plSee h C r k).testBit j := by
  intro g hin
  have hS : LeastIs h (clI ((askN lv : Nat) : Int)) (r.reverse.map Int.ofNat) (seesR h C r) := by rw [hCe]; exact sees_least g hy (fun k hk => (hmem k).2 hk)
  exact rowsA_inj (least_closed hc hNL hx' hR hS hin)
 have G : holdsB h lv (r.reverse.map Int.ofNat) R = true → RowG h C r := by
  intro hh
  unfold holdsB at hh
  simp only [Bool.and_eq_true] at hh
  obtain ⟨_, _, hr, _⟩ := hh
  unfold rightM at hr
  simp only [Bool.and_eq_true] at hr
  have hin := (inM_iff _ _).1 hr.2.1
  refine ⟨hnd, hlt64, fun k hk j hj => ?_⟩
  have hk64 := hlt64 k hk
  obtain ⟨hj64, hb⟩ := (baseN_bit hk64).1 hj
  rw [← ahead_chain hnd hlt64]
  refine hin j k hj64 hk64 ?_
  rw [baseM_iff h C hy] at hb
  rcases hb with hb | ⟨c0, hb⟩ | ⟨c5, hb⟩
  ·exact least_base hx' hR hj64 hk64 (.inl hb)
  ·rw [b0, Bool.or_eq_true] at c0
   rcases c0 with c0 | c0
   ·exact least_base hx' hR hj64 hk64 (.inr (.inl ⟨c0, hb⟩))
   ·exact least_base hx' hR hj64 hk64 (.inr (.inr (.inl ⟨c0, (inM_iff _ _).1 (ses_in_tim hc) j k hj64 hk64 hb⟩)))
  ·rw [b5] at c5
   exact least_base hx' hR hj64 hk64 (.inr (.inr (.inl ⟨c5, hb⟩)))
 have RT : RowG h C r → (∀ j k, j < 64 → k < 64 → R j k = (plSee h C r k).testBit j) → (rightTo h (r.reverse.map Int.ofNat) R h.length = true ↔ ∀ k ∈ r, readsP h (aheadL r) (plSee h C r k) k = true) := by
  intro g e
  have e2 : ∀ k ∈ r, (readsOf h k).all (readOk h (r.reverse.map Int.ofNat) R k) = readsP h (aheadL r) (plSee h C r k) k := by
   intro k hk
   rw [← good_right hc g hy hlt hk]
   refine all_congr _ fun x _ => ?_
   unfold readOk
   rw [seeTo_congr (R := R) (S := seesR h C r) e (hlt64 k hk)]
  unfold rightTo
  rw [List.all_eq_true]
  constructor
  ·intro q k hk
   rw [← e2 k hk]
   exact q k (List.mem_range.2 (hlt k hk))
  ·intro q k hk
   have hk := (hmem k).2 (List.mem_range.1 hk)
   rw [e2 k hk]
   exact q k hk
 have HH : holdsB h lv (r.reverse.map Int.ofNat) R = true → inM R (chainR (r.reverse.map Int.ofNat)) = true := by
  intro hh
  unfold holdsB rightM at hh
  simp only [Bool.and_eq_true] at hh
  exact hh.2.2.1.2.1
 refine ⟨⟨fun hh => ?_, fun ⟨hs, hg⟩ => ?_⟩, fun hh => K (G hh) (HH hh)⟩
 ·have g := G hh
  have e := K g (HH hh)
  have hh2 := hh
  unfold holdsB rightM at hh2
  simp only [Bool.and_eq_true] at hh2
  refine ⟨hh2.2.1, fun k hk => ⟨g.base k hk, (RT g e).1 hh2.2.2.1.2.2 k hk⟩⟩
 ·have g := good_row hc hnd hlt hg
  have hS := sees_least g hy (fun k hk => (hmem k).2 hk)
  have hin : inM R (chainR (r.reverse.map Int.ofNat)) = true := by
   refine inM_trans (least_mono (y := C) hx' hy (fun k hk => ?_) hR hS) ?_
   ·have hk6 : k < 6 := by
     apply Decidable.byContradiction
     intro hge
     have hp : (64 : Nat) ≤ 2 ^ k := by
      have := Nat.pow_le_pow_right (n := 2) (by omega) (show 6 ≤ k by omega)
      omega
     rw [Nat.testBit_lt_two_pow (by omega)] at hk
     cases hk
    have h7 : k = 0 ∨ k = 1 ∨ k = 2 ∨ k = 3 ∨ k = 4 ∨ k = 5 := by omega
    rcases h7 with rfl | rfl | rfl | rfl | rfl | rfl
    ·rw [b0, hk]; rfl
    ·rw [b1, hk]; rfl
    ·rw [b2, hk]; rfl
    ·rw [b3, hk]; rfl
    ·rw [b4, hk]
    ·rw [b5, hk]
   ·rw [inM_iff]
    intro j k _ _ hs
    rw [ahead_chain hnd hlt64]
    exact sees_ahead g.lt g.nd g.base hs
  have e := K g hin
  unfold holdsB rightM
  rw [hlv, hs, hrow, hin, (RT g e).2 fun k hk => (hg k hk).2, least_kept hx hR]; rfl
end
end

section
open Go.RowKit
def wAllN (h : List TxnV) : Nat := mkS fun j => decide (j < h.length) && !(keysOf (opsAt h j)).isEmpty
theorem wAll_set (h : List TxnV) : IsSet (wAllN h) := isSet_mkS _
theorem wAll_bit {h : List TxnV} {j : Nat} : (wAllN h).testBit j = true ↔ j < 64 ∧ j < h.length ∧ keysOf (opsAt h j) ≠ [] := by
 unfold wAllN
 rw [testBit_mkS]
 simp
theorem wrt_all {h : List TxnV} {y : Int} {j : Nat} (hj : (wrtN h y).testBit j = true) : (wAllN h).testBit j = true := by
 unfold wrtN at hj
 rw [testBit_mkS] at hj
 simp only [Bool.and_eq_true, decide_eq_true_eq] at hj
 exact wAll_bit.2 ⟨hj.1, hj.2.1, fun e => by rw [e] at hj; cases hj.2.2⟩
theorem riv_all {h : List TxnV} (hc : checkI h = 0) {i k : Nat} (hr : (rivN h i).testBit k = true) : (wAllN h).testBit i = true ∧ (wAllN h).testBit k = true := by
 have h64 := (check_zero hc).1
 obtain ⟨hk, hr⟩ := rivN_bit.1 hr
 unfold rivB rivR at hr
 simp only [Bool.and_eq_true, decide_eq_true_eq, List.any_eq_true, List.mem_range] at hr
 obtain ⟨hi, hk2, _, n, _, h1, h2⟩ := hr
 have a1 := (keysOf_iff hc hi (n : Int)).2 h1
 have a2 := (keysOf_iff hc hk2 (n : Int)).2 h2
 exact ⟨wAll_bit.2 ⟨by omega, hi, fun e => by rw [e] at a1; cases a1⟩, wAll_bit.2 ⟨hk, hk2, fun e => by rw [e] at a2; cases a2⟩⟩
structure Sim (h : List TxnV) (C : Nat) (r s : List Nat) : Prop where
 mem : ∀ j, j ∈ r ↔ j ∈ s
 wr : ∀ k j, (wAllN h).testBit k = true → (wAllN h).testBit j = true → ((aheadL r k).testBit j = true ↔ (aheadL s k).testBit j = true)
 pf : C.testBit 2 = true → C.testBit 4 = false → ∀ k j, (wAllN h).testBit j = true → ((aheadL r k).testBit j = true ↔ (aheadL s k).testBit j = true)
section
variable {h : List TxnV} {C : Nat} {r s : List Nat}
theorem Sim.all (q : Sim h C r s) (hr : ∀ k ∈ r, k < 64) : plS r = plS s := by
 apply Nat.eq_of_testBit_eq
 intro j
 rw [plS_bit j r hr, plS_bit j s (fun k hk => hr k ((q.mem k).2 hk)), Bool.eq_iff_iff, decide_eq_true_eq, decide_eq_true_eq]
 exact q.mem j
theorem Sim.cons (q : Sim h C r s) (hr : ∀ k ∈ r, k < 64) (i : Nat) : Sim h C (i :: r) (i :: s) := by
 have e := q.all hr
 refine ⟨fun j => by rw [List.mem_cons, List.mem_cons, q.mem], fun k j a b => ?_, fun a b k j c => ?_⟩
 ·unfold aheadL; split
  ·rw [e]
  ·exact q.wr k j a b
 ·unfold aheadL; split
  ·rw [e]
  ·exact q.pf a b k j c
theorem wld2_bit {b pl rv j : Nat} (h4 : C.testBit 4 = false) : (wld2 b pl rv C).testBit j = true ↔ b.testBit j = true ∨ (C.testBit 3 = true ∧ rv.testBit j = true ∧ pl.testBit j = true) := by
 have e1 : wld1 b pl C = b := by unfold wld1; rw [h4]; rfl
 unfold wld2
 rw [e1]
 cases C.testBit 3 with
 | false => simp
 | true => simp [Nat.testBit_or, Nat.testBit_and]
theorem RowG.hin (g : RowG h C r) : ∀ k j, (plSee h C r k).testBit j = true → (aheadL r k).testBit j = true := fun _ _ hj => sees_ahead g.lt g.nd g.base hj
theorem Sim.sees (hc : checkI h = 0) (q : Sim h C r s) (g : RowG h C r) (g' : RowG h C s) (h4 : C.testBit 4 = false) (h2 : C.testBit 2 = false) : ∀ (t p : List Nat), p ++ t = r → ∀ k ∈ t, plSee h C r k = plSee h C s k
 | [], _, _, _, hk => by cases hk
 | i :: t, p, e, k, hk => by
  have ih := Sim.sees hc q g g' h4 h2 t (p ++ [i]) (by rw [List.append_assoc]; exact e)
  rcases List.mem_cons.1 hk with rfl | hk
  ·have hkr : k ∈ r := by rw [← e]; simp
   have hks := (q.mem k).1 hkr
   have hnd : (p ++ k :: t).Nodup := by rw [e]; exact g.nd
   have hat : aheadL r k = plS t := by
    rw [← e, aheadL_drop hnd (List.mem_cons_self ..)]; unfold aheadL; rw [if_pos rfl]
   have ht64 : ∀ a ∈ t, a < 64 := fun a ha => g.lt a (by rw [← e]; simp [ha])
   rw [sees_fix g k hkr, sees_fix g' k hks]
   have e2 : wld2 (baseN h C k) (aheadL r k) (rivN h k) C = wld2 (baseN h C k) (aheadL s k) (rivN h k) C := by
    apply Nat.eq_of_testBit_eq
    intro j
    rw [Bool.eq_iff_iff, wld2_bit h4, wld2_bit h4]
    refine or_congr Iff.rfl (and_congr_right fun _ => and_congr_right fun hr => ?_)
    obtain ⟨a, b⟩ := riv_all hc hr
    exact q.wr k j a b
   have e3 : wld3 (baseN h C k) (aheadL r k) (rivN h k) C (plSee h C r) = wld3 (baseN h C k) (aheadL s k) (rivN h k) C (plSee h C s) := by
    unfold wld3
    rw [← e2, joinN_congr (F := plSee h C r) (G := plSee h C s) fun m _ hm => ih m ?_]
    have := wld2_in (g.base k hkr) hm
    rw [hat] at this
    exact plS_mem ht64 this
   unfold wld4
   rw [if_neg (by rw [h2]; simp), if_neg (by rw [h2]; simp)]
   exact e3
  ·exact ih k hk
theorem nextN_in (g : RowG h C r) {i : Nat} (hb : ∀ j, (baseN h C i).testBit j = true → (plS r).testBit j = true) {j : Nat} (hj : (nextN h C r i).testBit j = true) : (plS r).testBit j = true :=
 wld4_in hb (fun k j _ hj => ahead_in g.lt (g.hin k j hj)) (fun _ _ _ hj => ahead_in g.lt hj) hj
theorem next_prefix (g : RowG h C r) (h2 : C.testBit 2 = true) (i j : Nat) : (nextN h C r i).testBit j = true ↔
  (wld2 (baseN h C i) (plS r) (rivN h i) C).testBit j = true ∨ ∃ m, (wld2 (baseN h C i) (plS r) (rivN h i) C).testBit m = true ∧ m < 64 ∧ (aheadL r m).testBit j = true := by
 unfold nextN
 constructor
 ·intro hj
  have h3 : ∀ x, (wld3 (baseN h C i) (plS r) (rivN h i) C (plSee h C r)).testBit x = true → (wld2 (baseN h C i) (plS r) (rivN h i) C).testBit x = true ∨ ∃ m, (wld2 (baseN h C i) (plS r) (rivN h i) C).testBit m = true ∧ m < 64 ∧ (aheadL r m).testBit x = true := by
   intro x hx
   unfold wld3 at hx
   split at hx
   ·rw [Nat.testBit_or, Bool.or_eq_true, joinN_iff] at hx
    rcases hx with hx | ⟨m, hm, a, b⟩
    ·exact .inl hx
    ·exact .inr ⟨m, a, hm, g.hin m x b⟩
   ·exact .inl hx
  unfold wld4 at hj
  rw [if_pos h2, Nat.testBit_or, Bool.or_eq_true, joinN_iff] at hj
  rcases hj with hj | ⟨m, hm, a, b⟩
  ·exact h3 j hj
  ·rcases h3 m a with q | ⟨m2, q, hm2, q2⟩
   ·exact .inr ⟨m, q, hm, b⟩
   ·exact .inr ⟨m2, q, hm2, aheadL_trans g.nd g.lt q2 b⟩
 ·rintro (hj | ⟨m, a, hm, b⟩)
  ·exact wld4_up (wld3_up hj)
  ·unfold wld4
   rw [if_pos h2, Nat.testBit_or, Bool.or_eq_true, joinN_iff]
   exact .inr ⟨m, hm, wld3_up a, b⟩
theorem Sim.next (hc : checkI h = 0) (q : Sim h C r s) (g : RowG h C r) (g' : RowG h C s) {i : Nat} (hb : ∀ j, (baseN h C i).testBit j = true → (plS r).testBit j = true) {j : Nat} (hj : (wAllN h).testBit j = true) :
  (nextN h C r i).testBit j = true ↔ (nextN h C s i).testBit j = true := by
 have e := q.all g.lt
 cases h4 : C.testBit 4 with
 | true => exact ⟨fun a => wld4_all h4 (by rw [← e]; exact nextN_in g hb a), fun a => wld4_all h4 (by rw [e]; exact nextN_in g' (by rw [← e]; exact hb) a)⟩
 | false =>
  cases h2 : C.testBit 2 with
  | true =>
   rw [next_prefix g h2, next_prefix g' h2, ← e]
   exact or_congr Iff.rfl ⟨fun ⟨m, a, b, c⟩ => ⟨m, a, b, (q.pf h2 h4 m j hj).1 c⟩, fun ⟨m, a, b, c⟩ => ⟨m, a, b, (q.pf h2 h4 m j hj).2 c⟩⟩
  | false =>
   have hs := Sim.sees hc q g g' h4 h2 r [] rfl
   have e3 : wld3 (baseN h C i) (plS r) (rivN h i) C (plSee h C r) = wld3 (baseN h C i) (plS r) (rivN h i) C (plSee h C s) := by
    unfold wld3
    rw [joinN_congr (F := plSee h C r) (G := plSee h C s) fun m _ hm => hs m (plS_mem g.lt (wld2_in hb hm))]
   unfold nextN wld4
   rw [h2, ← e, e3]
   simp only [Bool.false_eq_true, if_false]
theorem lack_bits (a b : Nat) : decide (lackN a b = 0) = true ↔ ∀ k, a.testBit k = true → b.testBit k = true := by rw [decide_eq_true_eq, lack_iff]
theorem Sim.try (hc : checkI h = 0) (q : Sim h C r s) (g : RowG h C r) (g' : RowG h C s) (i : Nat) : tryP h C r i = tryP h C s i := by
 have e := q.all g.lt
 have h64 := (check_zero hc).1
 unfold tryP
 by_cases hi : i < h.length
 ·rw [decide_eq_true hi, Bool.true_and, Bool.true_and, show decide (i ∈ r) = decide (i ∈ s) by simp only [q.mem i], ← e]
  congr 1
  cases hbb : inB (baseN h C i) (plS r) with
  | false => rfl
  | true =>
   have hb := (inB_bits (baseN_set h C i)).1 hbb
   rw [Bool.true_and, Bool.true_and]
   unfold readsP
   refine all_congr _ fun x hx => ?_
   have hrf := read_from hc hi hx
   unfold readP readW
   by_cases h0 : 0 ≤ x.2
   ·rw [if_pos h0, if_pos h0, Bool.eq_iff_iff, lack_bits, lack_bits]
    rcases hrf with hrf | ⟨n, hn, hx2, hni, hw⟩
    ·omega
    have hWn := wrt_all hw
    rw [hx2, Int.toNat_natCast]
    have side : ∀ (a b : List Nat), (∀ k, (wAllN h).testBit k = true → ((nextN h C a i).testBit k = true → (nextN h C b i).testBit k = true)) → (∀ k, (wAllN h).testBit k = true → ((aheadL b n).testBit k = true → (aheadL a n).testBit k = true)) →
      (∀ k, (nextN h C b i &&& wrtN h x.1).testBit k = true → (withS (aheadL b n) (n : Int)).testBit k = true) → (∀ k, (nextN h C a i &&& wrtN h x.1).testBit k = true → (withS (aheadL a n) (n : Int)).testBit k = true) := by
     intro a b hab hba hB k hk
     rw [Nat.testBit_and, Bool.and_eq_true] at hk
     have hW := wrt_all hk.2
     have := hB k (by rw [Nat.testBit_and, Bool.and_eq_true]; exact ⟨hab k hW hk.1, hk.2⟩)
     rw [testBit_withS] at this ⊢
     simp only [Bool.or_eq_true] at this ⊢
     exact this.imp (hba k hW) id
    exact ⟨side s r (fun k hk a => (q.next hc g g' hb hk).2 a) (fun k hk a => (q.wr n k hWn hk).1 a), side r s (fun k hk a => (q.next hc g g' hb hk).1 a) (fun k hk a => (q.wr n k hWn hk).2 a)⟩
   ·rw [if_neg h0, if_neg h0, Bool.eq_iff_iff, decide_eq_true_eq, decide_eq_true_eq]
    have side : ∀ (a b : List Nat), (∀ k, (wAllN h).testBit k = true → ((nextN h C a i).testBit k = true → (nextN h C b i).testBit k = true)) → nextN h C b i &&& wrtN h x.1 = 0 → nextN h C a i &&& wrtN h x.1 = 0 := by
     intro a b hab hB
     apply Nat.eq_of_testBit_eq
     intro k
     rw [Nat.zero_testBit, Nat.testBit_and]
     cases hw : (wrtN h x.1).testBit k with
     | false => rw [Bool.and_false]
     | true =>
      cases hn : (nextN h C a i).testBit k with
      | false => rfl
      | true =>
       have : (nextN h C b i &&& wrtN h x.1).testBit k = true := by rw [Nat.testBit_and, hab k (wrt_all hw) hn, hw]; rfl
       rw [hB, Nat.zero_testBit] at this; cases this
    exact ⟨side s r (fun k hk a => (q.next hc g g' hb hk).2 a), side r s (fun k hk a => (q.next hc g g' hb hk).1 a)⟩
 ·rw [decide_eq_false hi]; rfl
end
end

section
open Go.RowKit
def wrOf (h : List TxnV) (r : List Nat) : List Nat := r.filter fun i => (wAllN h).testBit i
def aheadC (h : List TxnV) : List Nat → Nat → Nat
 | [], _ => 0
 | i :: r, k => if k = i then (wrOf h r).length else aheadC h r k
def reachB (C : Nat) : Bool := C.testBit 2 && !C.testBit 4
def keyL (h : List TxnV) (C : Nat) (r : List Nat) : List Nat := (wrOf h r).reverse ++ if reachB C then (lst (lackN (plS r) (wAllN h))).map (aheadC h r) else []
def byteB (l : List Nat) : ByteArray := ⟨(l.map fun n => UInt8.ofNat n).toArray⟩
def keyB (h : List TxnV) (C : Nat) (r : List Nat) : ByteArray := byteB (keyL h C r)
theorem byteB_inj : ∀ {l m : List Nat}, (∀ n ∈ l, n < 256) → (∀ n ∈ m, n < 256) → byteB l = byteB m → l = m := by
 intro l m hl hm e
 have e2 : (l.map fun n => UInt8.ofNat n) = m.map fun n => UInt8.ofNat n := by
  unfold byteB at e
  injection e with e
  injection e
 clear e
 induction l generalizing m with
 | nil => cases m with
  | nil => rfl
  | cons b m => cases e2
 | cons a l ih =>
  cases m with
  | nil => cases e2
  | cons b m =>
   rw [List.map_cons, List.map_cons] at e2
   injection e2 with h1 h2
   have ha := hl a (List.mem_cons_self ..)
   have hb := hm b (List.mem_cons_self ..)
   have h3 := congrArg UInt8.toNat h1
   rw [UInt8.toNat_ofNat', UInt8.toNat_ofNat', Nat.mod_eq_of_lt ha, Nat.mod_eq_of_lt hb] at h3
   rw [h3, ih (fun n hn => hl n (List.mem_cons_of_mem _ hn)) (fun n hn => hm n (List.mem_cons_of_mem _ hn)) h2]
section
variable {h : List TxnV} {C : Nat} {r s : List Nat}
theorem wrOf_cons (i : Nat) (r : List Nat) : wrOf h (i :: r) = if (wAllN h).testBit i then i :: wrOf h r else wrOf h r := by
 unfold wrOf; rw [List.filter_cons]
theorem mem_wrOf {j : Nat} : j ∈ wrOf h r ↔ j ∈ r ∧ (wAllN h).testBit j = true := by unfold wrOf; rw [List.mem_filter]
theorem wrOf_le : (wrOf h r).length ≤ r.length := List.length_filter_le _ _
theorem aheadC_le : ∀ (r : List Nat) (k : Nat), aheadC h r k ≤ r.length
 | [], _ => by unfold aheadC; omega
 | i :: r, k => by
  unfold aheadC
  have h1 := wrOf_le (h := h) (r := r)
  have h2 := aheadC_le r k
  split <;> (simp only [List.length_cons]; omega)
theorem ahead_wr : ∀ (r : List Nat), (∀ k ∈ r, k < 64) → ∀ (k j : Nat), (wAllN h).testBit k = true → (wAllN h).testBit j = true → ((aheadL r k).testBit j = true ↔ (aheadL (wrOf h r) k).testBit j = true)
 | [], _, k, j, _, _ => by unfold wrOf; rfl
 | i :: r, hlt, k, j, hk, hj => by
  have hlt' : ∀ a ∈ r, a < 64 := fun a ha => hlt a (List.mem_cons_of_mem _ ha)
  have ih := ahead_wr r hlt' k j hk hj
  rw [wrOf_cons]
  by_cases e : k = i
  ·subst e
   rw [if_pos hk]
   unfold aheadL
   rw [if_pos rfl, if_pos rfl, plS_bit j r hlt', plS_bit j (wrOf h r) (fun a ha => hlt' a (mem_wrOf.1 ha).1), decide_eq_true_eq, decide_eq_true_eq, mem_wrOf]
   exact ⟨fun q => ⟨q, hj⟩, And.left⟩
  ·have e1 : aheadL (i :: r) k = aheadL r k := by rw [aheadL]; exact if_neg e
   rw [e1]
   split
   ·have e2 : aheadL (i :: wrOf h r) k = aheadL (wrOf h r) k := by rw [aheadL]; exact if_neg e
    rw [e2]; exact ih
   ·exact ih
theorem ahead_suf : ∀ (r : List Nat), r.Nodup → ∀ k ∈ r, ∃ q, aheadL r k = plS q ∧ (∀ a ∈ q, a ∈ r) ∧ wrOf h q <:+ wrOf h r ∧ (wrOf h q).length = aheadC h r k
 | [], _, k, hk => by cases hk
 | i :: r, hnd, k, hk => by
  obtain ⟨hi, hnd'⟩ := List.nodup_cons.1 hnd
  have hsuf : wrOf h r <:+ wrOf h (i :: r) := by
   rw [wrOf_cons]; split
   ·exact List.suffix_cons ..
   ·exact List.suffix_refl _
  by_cases e : k = i
  ·refine ⟨r, ?_, fun a ha => List.mem_cons_of_mem _ ha, hsuf, ?_⟩
   ·rw [aheadL]; exact if_pos e
   ·rw [aheadC]; exact (if_pos e).symm
  ·obtain ⟨q, h1, h2, h3, h4⟩ := ahead_suf r hnd' k ((List.mem_cons.1 hk).resolve_left e)
   refine ⟨q, ?_, fun a ha => List.mem_cons_of_mem _ (h2 a ha), h3.trans hsuf, ?_⟩
   ·rw [aheadL]; exact (if_neg e).trans h1
   ·rw [aheadC]; exact h4.trans (if_neg e).symm
theorem ahead_none : ∀ (r : List Nat) (k : Nat), k ∉ r → aheadL r k = 0
 | [], _, _ => rfl
 | i :: r, k, hk => by
  rw [aheadL]
  rw [if_neg (fun e => hk (by rw [e]; exact List.mem_cons_self ..))]
  exact ahead_none r k fun q => hk (List.mem_cons_of_mem _ q)
theorem mem_of_plS (hr : ∀ k ∈ r, k < 64) (hs : ∀ k ∈ s, k < 64) (hp : plS r = plS s) (j : Nat) : j ∈ r ↔ j ∈ s := by
 have h1 := plS_bit j r hr
 have h2 := plS_bit j s hs
 rw [hp, h2] at h1
 simp only [decide_eq_decide] at h1
 exact h1.symm
theorem keyL_lt (hr : ∀ k ∈ r, k < 64) (hl : r.length ≤ 64) : ∀ n ∈ keyL h C r, n < 256 := by
 intro n hn
 unfold keyL at hn
 rcases List.mem_append.1 hn with hn | hn
 ·have := hr n (mem_wrOf.1 (List.mem_reverse.1 hn)).1; omega
 ·split at hn
  ·obtain ⟨k, _, rfl⟩ := List.mem_map.1 hn
   have := aheadC_le (h := h) r k; omega
  ·cases hn
theorem wrOf_perm (hr : r.Nodup) (hs : s.Nodup) (hm : ∀ j, j ∈ r ↔ j ∈ s) : (wrOf h r).length = (wrOf h s).length :=
 (((List.perm_ext_iff_of_nodup hr hs).2 hm).filter _).length_eq
theorem sim_of_key (hr : ∀ k ∈ r, k < 64) (hs : ∀ k ∈ s, k < 64) (hlr : r.length ≤ 64) (hls : s.length ≤ 64) (nr : r.Nodup) (ns : s.Nodup) (hp : plS r = plS s) (hk : keyB h C r = keyB h C s) : Sim h C r s := by
 have hm := mem_of_plS hr hs hp
 have hk := byteB_inj (keyL_lt hr hlr) (keyL_lt hs hls) hk
 unfold keyL at hk
 rw [hp] at hk
 obtain ⟨e1, e2⟩ := List.append_inj hk (by rw [List.length_reverse, List.length_reverse]; exact wrOf_perm nr ns hm)
 have e1 : wrOf h r = wrOf h s := List.reverse_inj.1 e1
 have hw : ∀ k j, (wAllN h).testBit k = true → (wAllN h).testBit j = true → ((aheadL r k).testBit j = true ↔ (aheadL s k).testBit j = true) := fun k j a b => by
  rw [ahead_wr r hr k j a b, ahead_wr s hs k j a b, e1]
 refine ⟨hm, hw, fun h2 h4 k j hj => ?_⟩
 cases hkw : (wAllN h).testBit k with
 | true => exact hw k j hkw hj
 | false =>
  by_cases hkr : k ∈ r
  ·have hks := (hm k).1 hkr
   have hpf : reachB C = true := by unfold reachB; rw [h2, h4]; rfl
   rw [if_pos hpf, if_pos hpf] at e2
   have hkl : k ∈ lst (lackN (plS s) (wAllN h)) := by
    refine mem_lst.2 ⟨hr k hkr, ?_⟩
    unfold lackN
    rw [Nat.testBit_xor, Nat.testBit_and, hkw, Bool.and_false, Bool.xor_false, plS_bit k s hs, decide_eq_true_eq]
    exact hks
   have e3 : aheadC h r k = aheadC h s k := (List.map_inj_left.1 e2) k hkl
   obtain ⟨q, a1, a2, a3, a4⟩ := ahead_suf (h := h) r nr k hkr
   obtain ⟨u, b1, b2, b3, b4⟩ := ahead_suf (h := h) s ns k hks
   rw [← e1] at b3
   have hqu : wrOf h q = wrOf h u := (List.suffix_of_suffix_length_le a3 b3 (by omega)).eq_of_length (by omega)
   rw [a1, b1, plS_bit j q (fun a ha => hr a (a2 a ha)), plS_bit j u (fun a ha => hs a (b2 a ha)), decide_eq_true_eq, decide_eq_true_eq]
   have h1 := mem_wrOf (h := h) (r := q) (j := j)
   have h2 := mem_wrOf (h := h) (r := u) (j := j)
   rw [hqu] at h1
   exact ⟨fun x => (h2.1 (h1.2 ⟨x, hj⟩)).1, fun x => (h1.1 (h2.2 ⟨x, hj⟩)).1⟩
  ·rw [ahead_none r k hkr, ahead_none s k (fun q => hkr ((hm k).2 q))]
end
end

section
def exts (many : Nat) : Nat → List Nat → List (List Nat)
 | 0, r => [r]
 | k + 1, r => (List.range many).flatMap fun i => if i ∈ r then [] else exts many k (r ++ [i])
def extsTo (many k : Nat) (r : List Nat) (j : Nat) : List (List Nat) := (List.range j).flatMap fun i => if i ∈ r then [] else exts many k (r ++ [i])
theorem extsTo_succ (many k : Nat) (r : List Nat) (j : Nat) : extsTo many k r (j + 1) = extsTo many k r j ++ if j ∈ r then [] else exts many k (r ++ [j]) := by
 unfold extsTo; rw [List.range_succ, List.flatMap_append]; simp
theorem extsTo_zero (many k : Nat) (r : List Nat) : extsTo many k r 0 = [] := rfl
theorem exts_all (many k : Nat) (r : List Nat) : exts many (k + 1) r = extsTo many k r many := rfl
theorem mem_exts {many : Nat} : ∀ {k : Nat} {r x : List Nat}, x ∈ exts many k r → (r.Nodup → x.Nodup) ∧ ((∀ i ∈ r, i < many) → ∀ i ∈ x, i < many) ∧ x.length = r.length + k ∧ r <+: x
 | 0, r, x, h => by
  obtain rfl : x = r := by simpa [exts] using h
  exact ⟨id, id, rfl, List.prefix_rfl⟩
 | k + 1, r, x, h => by
  simp only [exts, List.mem_flatMap, List.mem_range] at h
  obtain ⟨i, hi, hx⟩ := h
  split at hx
  ·cases hx
  ·next hn =>
   obtain ⟨a, b, c, d⟩ := mem_exts hx
   refine ⟨fun hr => a (by rw [List.nodup_append]; refine ⟨hr, by simp, fun u hu v hv e => ?_⟩; simp at hv; subst hv; subst e; exact hn hu), fun hr => b fun u hu => ?_, ?_, (List.prefix_append _ _).trans d⟩
   ·rcases List.mem_append.1 hu with hu | hu
    ·exact hr u hu
    ·simp at hu; omega
   ·rw [c, List.length_append, List.length_singleton]; omega
def ordersN (n : Nat) : List (List Nat) := exts n n []
end

section
open Go.RowKit
instance memDec (q : Nat × ByteArray) (M : List (Nat × ByteArray)) : Decidable (q ∈ M) := @List.instDecidableMemOfLawfulBEq _ instBEqOfDecidableEq inferInstance q M
theorem any_alike {α : Type} {p q : α → Bool} : ∀ (l : List α), (∀ a ∈ l, p a = q a) → l.any p = l.any q
 | [], _ => rfl
 | a :: l, h => by rw [List.any_cons, List.any_cons, h a (List.mem_cons_self ..), any_alike l fun b hb => h b (List.mem_cons_of_mem _ hb)]
section
variable {h : List TxnV} {C n : Nat}
theorem tryP_parts {r : List Nat} {i : Nat} (ht : tryP h C r i = true) : i < h.length ∧ i ∉ r ∧ (∀ j, (baseN h C i).testBit j = true → (plS r).testBit j = true) := by
 unfold tryP at ht
 simp only [Bool.and_eq_true, decide_eq_true_eq, Bool.not_eq_true', decide_eq_false_iff_not] at ht
 exact ⟨ht.1, ht.2.1, (inB_bits (baseN_set h C i)).1 ht.2.2.1⟩
theorem RowG.push {r : List Nat} (g : RowG h C r) (h64 : h.length ≤ 64) {i : Nat} (ht : tryP h C r i = true) : RowG h C (i :: r) := by
 obtain ⟨h1, h2, h3⟩ := tryP_parts ht
 refine ⟨List.nodup_cons.2 ⟨h2, g.nd⟩, fun k hk => ?_, fun k hk j hj => ?_⟩
 ·rcases List.mem_cons.1 hk with rfl | hk
  ·omega
  ·exact g.lt k hk
 ·by_cases e : k = i
  ·subst e; rw [aheadL, if_pos rfl]; exact h3 j hj
  ·rw [aheadL_tail e]; exact g.base k ((List.mem_cons.1 hk).resolve_left e) j hj
theorem RowG.nil : RowG h C [] := ⟨List.nodup_nil, fun _ hk => (by cases hk), fun _ hk => (by cases hk)⟩
def firstE (h : List TxnV) (C n : Nat) : Nat → List Nat → Option (List Nat)
 | 0, r => some r
 | k + 1, r => (List.range n).findSome? fun j => if tryP h C r j = true then firstE h C n k (j :: r) else none
theorem firstE_alike (hc : checkI h = 0) : ∀ (k : Nat) (r s : List Nat), Sim h C r s → RowG h C r → RowG h C s → (firstE h C n k r).isSome = (firstE h C n k s).isSome
 | 0, _, _, _, _, _ => rfl
 | k + 1, r, s, q, g, g' => by
  have h64 := (check_zero hc).1
  have key : ∀ l : List Nat, (l.findSome? fun j => if tryP h C r j = true then firstE h C n k (j :: r) else none).isSome = (l.findSome? fun j => if tryP h C s j = true then firstE h C n k (j :: s) else none).isSome := by
   intro l
   rw [List.isSome_findSome?, List.isSome_findSome?]
   refine any_alike l fun j _ => ?_
   have e := q.try hc g g' j
   cases ht : tryP h C r j with
   | false => rw [← e, ht]; rfl
   | true =>
    have ht' : tryP h C s j = true := by rw [← e]; exact ht
    rw [if_pos rfl, if_pos ht']
    exact firstE_alike hc k (j :: r) (j :: s) (q.cons g.lt j) (g.push h64 ht) (g'.push h64 ht')
  exact key _
def Bad (h : List TxnV) (C n : Nat) (M : List (Nat × ByteArray)) : Prop := ∀ q ∈ M, ∃ (r : List Nat) (k : Nat), RowG h C r ∧ r.length + k = n ∧ q = (plS r, keyB h C r) ∧ firstE h C n k r = none
theorem Bad.nil : Bad h C n [] := fun _ hq => by cases hq
theorem Bad.fails (hc : checkI h = 0) (hn : n = h.length) {M : List (Nat × ByteArray)} (hM : Bad h C n M) {r : List Nat} {k : Nat} (g : RowG h C r) (hk : r.length + k = n) (hq : (plS r, keyB h C r) ∈ M) : firstE h C n k r = none := by
 have h64 := (check_zero hc).1
 obtain ⟨s, k', g', hk', e, hf⟩ := hM _ hq
 have e1 : plS r = plS s := congrArg Prod.fst e
 have e2 : keyB h C r = keyB h C s := congrArg Prod.snd e
 have hq := sim_of_key g.lt g'.lt (by omega) (by omega) g.nd g'.nd e1 e2
 have hl : r.length = s.length := ((List.perm_ext_iff_of_nodup g.nd g'.nd).2 hq.mem).length_eq
 obtain rfl : k = k' := by omega
 have := firstE_alike (n := n) hc k r s hq g g'
 rw [hf] at this
 exact Option.isNone_iff_eq_none.1 (by simpa using this)
abbrev Srch := Option (List Nat) × List (Nat × ByteArray) × Nat
def srchStep (F : List Nat → List (Nat × ByteArray) → Srch) (h : List TxnV) (C : Nat) (r : List Nat) (st : Srch) (j : Nat) : Srch :=
 match st.1 with
 | some _ => st
 | none => if j ∈ r then st else if tryP h C r j = true then ((F (j :: r) st.2.1).1, (F (j :: r) st.2.1).2.1, st.2.2 + 1 + (F (j :: r) st.2.1).2.2) else (none, st.2.1, st.2.2 + 1)
def srchTo (F : List Nat → List (Nat × ByteArray) → Srch) (h : List TxnV) (C : Nat) (r : List Nat) (M : List (Nat × ByteArray)) (j : Nat) : Srch := (List.range j).foldl (srchStep F h C r) (none, M, 0)
def srchEnd (h : List TxnV) (C : Nat) (r : List Nat) (st : Srch) : Srch := match st.1 with
 | some _ => st
 | none => (none, (plS r, keyB h C r) :: st.2.1, st.2.2)
def srch (h : List TxnV) (C n : Nat) : Nat → List Nat → List (Nat × ByteArray) → Srch
 | 0, r, M => (some r, M, 0)
 | k + 1, r, M => if (plS r, keyB h C r) ∈ M then (none, M, 0) else srchEnd h C r (srchTo (srch h C n k) h C r M n)
theorem srchTo_succ (F : List Nat → List (Nat × ByteArray) → Srch) (r : List Nat) (M : List (Nat × ByteArray)) (j : Nat) : srchTo F h C r M (j + 1) = srchStep F h C r (srchTo F h C r M j) j := by
 unfold srchTo; rw [List.range_succ, List.foldl_append]; rfl
section
variable {F : List Nat → List (Nat × ByteArray) → Srch} {r : List Nat} {st : Srch} {j : Nat}
theorem step_found {x : List Nat} (h1 : st.1 = some x) : srchStep F h C r st j = st := by unfold srchStep; rw [h1]
theorem step_in (h1 : st.1 = none) (hj : j ∈ r) : srchStep F h C r st j = st := by unfold srchStep; rw [h1]; simp only [if_pos hj]
theorem step_no (h1 : st.1 = none) (hj : j ∉ r) (ht : tryP h C r j = false) : srchStep F h C r st j = (none, st.2.1, st.2.2 + 1) := by unfold srchStep; rw [h1, ht]; simp [hj]
theorem step_yes (h1 : st.1 = none) (hj : j ∉ r) (ht : tryP h C r j = true) : srchStep F h C r st j = ((F (j :: r) st.2.1).1, (F (j :: r) st.2.1).2.1, st.2.2 + 1 + (F (j :: r) st.2.1).2.2) := by unfold srchStep; rw [h1, ht]; simp [hj]
theorem srchTo_found {M : List (Nat × ByteArray)} {i : Nat} {x : List Nat} (h1 : (srchTo F h C r M i).1 = some x) : ∀ d, srchTo F h C r M (i + d) = srchTo F h C r M i
 | 0 => rfl
 | d + 1 => by
  have ih := srchTo_found h1 d
  rw [← Nat.add_assoc, srchTo_succ, ih, step_found h1]
theorem srchTo_found_le {M : List (Nat × ByteArray)} {i j : Nat} (hij : i ≤ j) {x : List Nat} (h1 : (srchTo F h C r M i).1 = some x) : srchTo F h C r M j = srchTo F h C r M i := by
 obtain ⟨d, rfl⟩ := Nat.le.dest hij; exact srchTo_found h1 d
theorem step_cost : st.2.2 ≤ (srchStep F h C r st j).2.2 := by
 unfold srchStep
 split
 ·exact Nat.le_refl _
 ·split
  ·exact Nat.le_refl _
  ·split
   ·show st.2.2 ≤ st.2.2 + 1 + _; omega
   ·show st.2.2 ≤ st.2.2 + 1; omega
theorem srchTo_cost {M : List (Nat × ByteArray)} {i j : Nat} (hij : i ≤ j) : (srchTo F h C r M i).2.2 ≤ (srchTo F h C r M j).2.2 := by
 induction hij with
 | refl => exact Nat.le_refl _
 | step _ ih => rw [srchTo_succ]; exact Nat.le_trans ih step_cost
end
theorem srch_in {k : Nat} {r : List Nat} {M : List (Nat × ByteArray)} (hq : (plS r, keyB h C r) ∈ M) : srch h C n (k + 1) r M = (none, M, 0) := by rw [srch]; exact if_pos hq
theorem srch_go {k : Nat} {r : List Nat} {M : List (Nat × ByteArray)} (hq : (plS r, keyB h C r) ∉ M) : srch h C n (k + 1) r M = srchEnd h C r (srchTo (srch h C n k) h C r M n) := by rw [srch]; exact if_neg hq
theorem srchEnd_cost {r : List Nat} {st : Srch} : (srchEnd h C r st).2.2 = st.2.2 ∧ (srchEnd h C r st).1 = st.1 := by
 unfold srchEnd
 split
 ·exact ⟨rfl, rfl⟩
 ·rename_i e; exact ⟨rfl, e.symm⟩
theorem srch_keys : ∀ (k : Nat) (r : List Nat) (M : List (Nat × ByteArray)), (srch h C n k r M).2.1.length ≤ M.length + (srch h C n k r M).2.2 + 1
 | 0, r, M => by unfold srch; show M.length ≤ _; omega
 | k + 1, r, M => by
  by_cases hq : (plS r, keyB h C r) ∈ M
  ·rw [srch_in hq]; show M.length ≤ _; omega
  ·rw [srch_go hq]
   have key : ∀ j, (srchTo (srch h C n k) h C r M j).2.1.length ≤ M.length + (srchTo (srch h C n k) h C r M j).2.2 := by
    intro j
    induction j with
    | zero => exact Nat.le_refl _
    | succ j ih =>
     rw [srchTo_succ]
     generalize srchTo (srch h C n k) h C r M j = st at *
     unfold srchStep
     split
     ·exact ih
     ·split
      ·exact ih
      ·split
       ·have := srch_keys k (j :: r) st.2.1
        show List.length (srch h C n k (j :: r) st.2.1).2.1 ≤ M.length + (st.2.2 + 1 + (srch h C n k (j :: r) st.2.1).2.2)
        omega
       ·show st.2.1.length ≤ M.length + (st.2.2 + 1); omega
   have := key n
   generalize srchTo (srch h C n k) h C r M n = st at *
   unfold srchEnd
   split
   ·omega
   ·show st.2.1.length + 1 ≤ M.length + st.2.2 + 1; omega
def trN : Nat → Nat
 | 0 => 0
 | k + 1 => (k + 1) * (1 + trN k)
theorem free_count {r : List Nat} (hnd : r.Nodup) (hlt : ∀ i ∈ r, i < n) : ((List.range n).filter fun j => !decide (j ∈ r)).length + r.length = n := by
 have h1 : ((List.range n).filter fun j => decide (j ∈ r)).Perm r := by
  refine (List.perm_ext_iff_of_nodup (List.nodup_range.filter _) hnd).2 fun j => ?_
  simp only [List.mem_filter, List.mem_range, decide_eq_true_eq]
  exact ⟨And.right, fun q => ⟨hlt j q, q⟩⟩
 have h2 : ((List.range n).filter fun j => decide (j ∈ r)).length + ((List.range n).filter fun j => !decide (j ∈ r)).length = (List.range n).length := by
  rw [← List.countP_eq_length_filter, ← List.countP_eq_length_filter]
  have := List.length_eq_countP_add_countP (fun j => decide (j ∈ r)) (l := List.range n)
  rw [this]
  congr 1
  refine List.countP_congr fun j _ => ?_
  cases decide (j ∈ r) <;> simp
 rw [h1.length_eq, List.length_range] at h2
 omega
theorem srch_tries : ∀ (k : Nat) (r : List Nat) (M : List (Nat × ByteArray)), r.Nodup → (∀ i ∈ r, i < n) → r.length + k = n → h.length = n → (srch h C n k r M).2.2 ≤ trN k
 | 0, r, M, _, _, _, _ => Nat.le_refl _
 | k + 1, r, M, hnd, hlt, hl, hh => by
  by_cases hq : (plS r, keyB h C r) ∈ M
  ·rw [srch_in hq]; exact Nat.zero_le _
  ·rw [srch_go hq, srchEnd_cost.1]
   have key : ∀ j, j ≤ n → (srchTo (srch h C n k) h C r M j).2.2 ≤ ((List.range j).filter fun j => !decide (j ∈ r)).length * (1 + trN k) := by
    intro j
    induction j with
    | zero => intro _; exact Nat.zero_le _
    | succ j ih =>
     intro hj
     have ih := ih (by omega)
     rw [srchTo_succ, List.range_succ, List.filter_append, List.length_append]
     generalize srchTo (srch h C n k) h C r M j = st at *
     by_cases hjr : j ∈ r
     ·rw [show (List.filter (fun j => !decide (j ∈ r)) [j]).length = 0 by simp [hjr], Nat.add_zero]
      cases h1 : st.1 with
      | some x => rw [step_found h1]; exact ih
      | none => rw [step_in h1 hjr]; exact ih
     ·rw [show (List.filter (fun j => !decide (j ∈ r)) [j]).length = 1 by simp [hjr], Nat.add_mul, Nat.one_mul]
      cases h1 : st.1 with
      | some x => rw [step_found h1]; omega
      | none =>
       cases ht : tryP h C r j with
       | false => rw [step_no h1 hjr ht]; show st.2.2 + 1 ≤ _; omega
       | true =>
        rw [step_yes h1 hjr ht]
        have := srch_tries k (j :: r) st.2.1 (List.nodup_cons.2 ⟨hjr, hnd⟩) (fun i hi => by rcases List.mem_cons.1 hi with rfl | hi; exact hj; exact hlt i hi) (by simp only [List.length_cons]; omega) hh
        show st.2.2 + 1 + (srch h C n k (j :: r) st.2.1).2.2 ≤ _
        omega
   have hf := free_count hnd hlt
   have := key n (Nat.le_refl _)
   rw [show ((List.range n).filter fun j => !decide (j ∈ r)).length = k + 1 by omega] at this
   exact this
theorem srch_right (hc : checkI h = 0) (hn : n = h.length) : ∀ (k : Nat) (r : List Nat) (M : List (Nat × ByteArray)), RowG h C r → r.length + k = n → Bad h C n M → (srch h C n k r M).1 = firstE h C n k r ∧ Bad h C n (srch h C n k r M).2.1
 | 0, r, M, _, _, hM => ⟨rfl, hM⟩
 | k + 1, r, M, g, hl, hM => by
  have h64 := (check_zero hc).1
  by_cases hq : (plS r, keyB h C r) ∈ M
  ·rw [srch_in hq]; exact ⟨(Bad.fails hc hn hM g hl hq).symm, hM⟩
  ·rw [srch_go hq]
   have key : ∀ j, (srchTo (srch h C n k) h C r M j).1 = ((List.range j).findSome? fun j => if tryP h C r j = true then firstE h C n k (j :: r) else none) ∧ Bad h C n (srchTo (srch h C n k) h C r M j).2.1 := by
    intro j
    induction j with
    | zero => exact ⟨rfl, hM⟩
    | succ j ih =>
     obtain ⟨i1, i2⟩ := ih
     rw [srchTo_succ, List.range_succ, List.findSome?_append, ← i1]
     generalize srchTo (srch h C n k) h C r M j = st at *
     cases h1 : st.1 with
     | some x => rw [step_found h1, h1]; exact ⟨rfl, i2⟩
     | none =>
      rw [Option.none_or, List.findSome?_singleton]
      by_cases hjr : j ∈ r
      ·have ht : tryP h C r j = false := by
        cases ht : tryP h C r j with
        | false => rfl
        | true => exact ((tryP_parts ht).2.1 hjr).elim
       rw [step_in h1 hjr, ht, h1]
       exact ⟨rfl, i2⟩
      ·cases ht : tryP h C r j with
       | false => rw [step_no h1 hjr ht]; exact ⟨rfl, i2⟩
       | true =>
        rw [step_yes h1 hjr ht, if_pos rfl]
        exact srch_right hc hn k (j :: r) st.2.1 (g.push h64 ht) (by simp only [List.length_cons]; omega) i2
   obtain ⟨k1, k2⟩ := key n
   have hk : firstE h C n (k + 1) r = (srchTo (srch h C n k) h C r M n).1 := k1.symm
   generalize srchTo (srch h C n k) h C r M n = st at *
   refine ⟨by rw [hk]; exact srchEnd_cost.2, ?_⟩
   unfold srchEnd
   split
   ·exact k2
   ·rename_i e
    intro q hqm
    rcases List.mem_cons.1 hqm with rfl | hqm
    ·exact ⟨r, k + 1, g, hl, rfl, hk.trans e⟩
    ·exact k2 q hqm
end
end

end Go.Proofs.YtnhkjehfmbfmmaaGreatDoor
