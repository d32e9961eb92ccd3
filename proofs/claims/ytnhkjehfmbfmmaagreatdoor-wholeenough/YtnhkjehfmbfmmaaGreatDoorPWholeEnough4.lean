/- Walks and plain facts that the proof of the statement WholeEnough uses, joined: PlaI PlaF AxiH OrdP LesA LesB AxhA PlaD PlaG PlaJ. Conditions: each theorem's own. -/
import Derived.BigQuiet
import Derived.Deep.QuietTactic
import Derived.Test.YtnhkjehfmbfmmaaGreatDoorPWholeEnough0
import Derived.Test.YtnhkjehfmbfmmaaGreatDoorPWholeEnough1
import Derived.Test.YtnhkjehfmbfmmaaGreatDoorPWholeEnough2
import Derived.Test.YtnhkjehfmbfmmaaGreatDoorPWholeEnough3
namespace Go.Proofs.YtnhkjehfmbfmmaaGreatDoor
set_option maxHeartbeats 32000000
set_option maxRecDepth 100000
set_option linter.unusedSimpArgs false
set_option linter.unusedVariables false
open Lib (hid)
section
open Go.RowKit
section
variable {W : World} {S B b : Nat} {h : List TxnV} {C : Nat} {r : List Nat} {vb vr : Value} {aF sF : Nat → Nat} {w : World}
theorem pundo_cons {i : Nat} (p : PlIs W S B b h C (i :: r) vb vr aF sF w) (h64 : h.length ≤ 64) : Calls Tryz.prog 175 #[.pointer (some ⟨S, 0, none⟩)] w fun e w' => e = .returned (.bool true) ∧ ∃ vr', PlIs W S B b h C r vb vr' aF sF w' ∧ PlStep S vr vr' w w' := by
 obtain ⟨ao, cap, rfl⟩ := p.form
 have hlen := p.len
 simp only [List.length_cons] at p hlen ⊢
 have HU := hid (fun wx (hx : Below w.heap.size w wx) => (p.below hx).undo)
 have HX := hid (fun wx (hx : Below w.heap.size w wx) => PlStep.of_below (S := S) (vr := .slice ao (r.length + 1) cap) hx)
 have hrow := p.row
 have hl1 : ((i :: r).reverse.map Int.ofNat).length = r.length + 1 := by simp
 obtain ⟨g, o, hao, hcell⟩ := Ints.at (ao := ao) (n := r.length + 1) (cap := cap) hrow (k := r.length) (by rw [hl1]; omega)
 subst hao
 have hval : ((i :: r).reverse.map Int.ofNat)[r.length]'(by rw [hl1]; omega) = (i : Int) := by simp
 rw [hval] at hcell
 have HS := hid (fun wx (hx : Below w.heap.size w wx) => And.intro (p.below hx).a.cR (And.intro (p.below hx).a.cP (And.intro ((hx.cell (p := ⟨g, o + r.length, none⟩) (block_lt hcell)).trans hcell) (And.intro ((p.below hx).a.free (i := 3) (by omega)) ((p.below hx).a.free (i := 4) (by omega))))))
 have hpop := plS_pop (i := i) (r := r) (List.nodup_cons.1 p.nd).1 (fun a ha => by have := p.lt a ha; omega)
 have CW := hid (fun wx => wo_any (plS (i :: r)) (i : Int) wx (plS_set _))
 rw [hpop] at CW
 have hr64 : (r.length : Int) < 64 := by omega
 have hr1 : (r.length : Int) + 1 - 1 = (r.length : Int) := by omega
 have hr2 : (r.length : Int) < (r.length : Int) + 1 := by omega
 have hc1 : r.length ≤ cap := by
  have := p.rw.2
  rcases this with ⟨e, _⟩ | ⟨_, _, _, e, _, _, hh, _⟩
  ·cases e
  ·simp only [Value.slice.injEq] at e
   simp only [List.length_cons] at hh
   omega
 have hc2 : (r.length : Int) ≤ (cap : Int) := by omega
 have kd0 := Below.refl w.heap.size w
 obtain ⟨n3, n4, _, _, _⟩ := HS.out _ kd0
 clear p hrow hl1 hval hcell hpop hlen
 generalize plS (i :: r) = s1 at *
 generalize plS r = s0 at *
 generalize r.length = n at *
 go_enter Tryz.func175, Tryz.ntmps175
 go_upto_region 4 with fail
 have kd := kd0.drew
 clear n3 n4 kd0
 refine wp_region_held_drew (S := fun _ => True) (by kernel_rfl) trivial (fun hS0 => ?_)
 generalize w.drew = wd at *
 obtain ⟨n3, n4, n5, f3, f4⟩ := HS.out _ kd
 refine tA (some 16) 0 rfl rfl hS0 ?_
 try simp only [Act.put, zA, zB, zC]
 refine tA (some 17) 1 rfl rfl hS0 ?_
 try simp only [Act.put, zA, zB, zC]
 refine tA (some 18) 2 rfl rfl hS0 ?_
 try simp only [Act.put, zA, zB, zC]
 refine tA (some 19) 3 rfl rfl hS0 ?_
 try simp only [Act.put, zA, zB, zC]
 refine tA (some 20) 4 rfl rfl hS0 ?_
 try simp only [Act.put, zA, zB, zC]
 refine tA (some 22) 6 rfl rfl hS0 ?_
 try simp only [Act.put, zA, zB, zC]
 refine tA (some 24) 8 rfl rfl hS0 ?_
 try simp only [Act.put, zA, zB, zC]
 refine tA (some 25) 9 rfl rfl hS0 ?_
 try simp only [Act.put, zA, zB, zC]
 refine tA (some 26) 10 rfl rfl hS0 ?_
 try simp only [Act.put, zA, zB, zC]
 refine tA (some 28) 12 rfl rfl hS0 ?_
 try simp only [Act.put, zA, zB, zC]
 refine tA (some 29) 13 rfl rfl hS0 ?_
 try simp only [Act.put, zA, zB, zC]
 refine tA (some 30) 14 rfl rfl hS0 ?_
 try simp only [Act.put, zA, zB, zC]
 refine tA (some 32) 16 rfl rfl hS0 ?_
 try simp only [Act.put, zA, zB, zC]
 refine wpAnyH_ready (rs := [5, 11, 15]) (by kernel_rfl) (by simp) ?_
 refine AllReadyH.cons rfl (fun K hK => ?_) (AllReadyH.cons rfl (fun K hK => ?_) (AllReadyH.cons rfl (fun K hK => ?_) AllReadyH.nil))
 ·
  go_simp
  refine hK.out _ _ trivial (fun _ => ?_)
  clear hK K
  refine tA (some 23) 7 rfl rfl hS0 ?_
  try simp only [Act.put, zA, zB, zC]
  refine wpAnyH_ready (rs := [11, 15]) (by kernel_rfl) (by simp) ?_
  refine AllReadyH.cons rfl (fun K hK => ?_) (AllReadyH.cons rfl (fun K hK => ?_) AllReadyH.nil)
  ·
   go_simp
   refine hK.out _ _ trivial (fun _ => ?_)
   clear hK K
   refine rD 15 rfl (fun K hK => ?_)
   go_simp
   refine hK.out _ _ trivial (fun _ => ?_)
   clear hK K
   refine tA (some 33) 17 rfl rfl hS0 ?_
   try simp only [Act.put, zA, zB, zC]
   refine rD 18 rfl (fun K hK => ?_)
   go_simp
   refine hK.out _ _ trivial (fun _ => ?_)
   clear hK K
   refine rD 19 rfl (fun K hK => ?_)
   go_simp
   refine (CW.out _).mono ?_
   rintro e y1 ⟨rfl, rfl⟩
   show K _ _
   refine hK.out _ _ trivial (fun _ => ?_)
   clear hK K
   refine tA (some 36) 20 rfl rfl hS0 ?_
   try simp only [Act.put, zA, zB, zC]
   refine tA (some 37) 21 rfl rfl hS0 ?_
   try simp only [Act.put, zA, zB, zC]
   refine rD 22 rfl (fun K hK => ?_)
   go_simp
   refine hK.out _ _ trivial (fun _ => ?_)
   clear hK K
   refine tA (some 38) 23 rfl rfl hS0 ?_
   try simp only [Act.put, zA, zB, zC]
   refine tA (some 39) 24 rfl rfl hS0 ?_
   try simp only [Act.put, zA, zB, zC]
   refine rD 25 rfl (fun K hK => ?_)
   have q4 : (World.setCell wd ⟨S, 3, none⟩ (.slice (some ⟨g, o, none⟩) n cap)).cell? ⟨S, 4, none⟩ = some (.int .u64 (s1 : Int)) := by rw [World.cell?_setCell_other _ _ _ _ (by simp)]; exact n4
   go_simp
   refine hK.out _ _ trivial (fun _ => ?_)
   clear hK K
   refine wpAnyH_done (by kernel_rfl) ?_ _
   have hu := HU.out _ kd
   have hx := HX.out _ kd
   go_wp2_with fail
   go_ret
   exact ⟨rfl, _, hu.1, hx.trans hu.2⟩
  ·
   go_simp
   refine hK.out _ _ trivial (fun _ => ?_)
   clear hK K
   refine tA (some 33) 17 rfl rfl hS0 ?_
   try simp only [Act.put, zA, zB, zC]
   refine wpAnyH_ready (rs := [11, 18]) (by kernel_rfl) (by simp) ?_
   refine AllReadyH.cons rfl (fun K hK => ?_) (AllReadyH.cons rfl (fun K hK => ?_) AllReadyH.nil)
   ·
    go_simp
    refine hK.out _ _ trivial (fun _ => ?_)
    clear hK K
    refine rD 18 rfl (fun K hK => ?_)
    go_simp
    refine hK.out _ _ trivial (fun _ => ?_)
    clear hK K
    refine rD 19 rfl (fun K hK => ?_)
    go_simp
    refine (CW.out _).mono ?_
    rintro e y1 ⟨rfl, rfl⟩
    show K _ _
    refine hK.out _ _ trivial (fun _ => ?_)
    clear hK K
    refine tA (some 36) 20 rfl rfl hS0 ?_
    try simp only [Act.put, zA, zB, zC]
    refine tA (some 37) 21 rfl rfl hS0 ?_
    try simp only [Act.put, zA, zB, zC]
    refine rD 22 rfl (fun K hK => ?_)
    go_simp
    refine hK.out _ _ trivial (fun _ => ?_)
    clear hK K
    refine tA (some 38) 23 rfl rfl hS0 ?_
    try simp only [Act.put, zA, zB, zC]
    refine tA (some 39) 24 rfl rfl hS0 ?_
    try simp only [Act.put, zA, zB, zC]
    refine rD 25 rfl (fun K hK => ?_)
    have q4 : (World.setCell wd ⟨S, 3, none⟩ (.slice (some ⟨g, o, none⟩) n cap)).cell? ⟨S, 4, none⟩ = some (.int .u64 (s1 : Int)) := by rw [World.cell?_setCell_other _ _ _ _ (by simp)]; exact n4
    go_simp
    refine hK.out _ _ trivial (fun _ => ?_)
    clear hK K
    refine wpAnyH_done (by kernel_rfl) ?_ _
    have hu := HU.out _ kd
    have hx := HX.out _ kd
    go_wp2_with fail
    go_ret
    exact ⟨rfl, _, hu.1, hx.trans hu.2⟩
   ·
    go_simp
    refine hK.out _ _ trivial (fun _ => ?_)
    clear hK K
    refine rD 11 rfl (fun K hK => ?_)
    go_simp
    refine hK.out _ _ trivial (fun _ => ?_)
    clear hK K
    refine rD 19 rfl (fun K hK => ?_)
    go_simp
    refine (CW.out _).mono ?_
    rintro e y1 ⟨rfl, rfl⟩
    show K _ _
    refine hK.out _ _ trivial (fun _ => ?_)
    clear hK K
    refine tA (some 36) 20 rfl rfl hS0 ?_
    try simp only [Act.put, zA, zB, zC]
    refine tA (some 37) 21 rfl rfl hS0 ?_
    try simp only [Act.put, zA, zB, zC]
    refine rD 22 rfl (fun K hK => ?_)
    go_simp
    refine hK.out _ _ trivial (fun _ => ?_)
    clear hK K
    refine tA (some 38) 23 rfl rfl hS0 ?_
    try simp only [Act.put, zA, zB, zC]
    refine tA (some 39) 24 rfl rfl hS0 ?_
    try simp only [Act.put, zA, zB, zC]
    refine rD 25 rfl (fun K hK => ?_)
    have q4 : (World.setCell wd ⟨S, 3, none⟩ (.slice (some ⟨g, o, none⟩) n cap)).cell? ⟨S, 4, none⟩ = some (.int .u64 (s1 : Int)) := by rw [World.cell?_setCell_other _ _ _ _ (by simp)]; exact n4
    go_simp
    refine hK.out _ _ trivial (fun _ => ?_)
    clear hK K
    refine wpAnyH_done (by kernel_rfl) ?_ _
    have hu := HU.out _ kd
    have hx := HX.out _ kd
    go_wp2_with fail
    go_ret
    exact ⟨rfl, _, hu.1, hx.trans hu.2⟩
 ·
  go_simp
  refine hK.out _ _ trivial (fun _ => ?_)
  clear hK K
  refine wpAnyH_ready (rs := [5, 15]) (by kernel_rfl) (by simp) ?_
  refine AllReadyH.cons rfl (fun K hK => ?_) (AllReadyH.cons rfl (fun K hK => ?_) AllReadyH.nil)
  ·
   go_simp
   refine hK.out _ _ trivial (fun _ => ?_)
   clear hK K
   refine tA (some 23) 7 rfl rfl hS0 ?_
   try simp only [Act.put, zA, zB, zC]
   refine rD 15 rfl (fun K hK => ?_)
   go_simp
   refine hK.out _ _ trivial (fun _ => ?_)
   clear hK K
   refine tA (some 33) 17 rfl rfl hS0 ?_
   try simp only [Act.put, zA, zB, zC]
   refine rD 18 rfl (fun K hK => ?_)
   go_simp
   refine hK.out _ _ trivial (fun _ => ?_)
   clear hK K
   refine rD 19 rfl (fun K hK => ?_)
   go_simp
   refine (CW.out _).mono ?_
   rintro e y1 ⟨rfl, rfl⟩
   show K _ _
   refine hK.out _ _ trivial (fun _ => ?_)
   clear hK K
   refine tA (some 36) 20 rfl rfl hS0 ?_
   try simp only [Act.put, zA, zB, zC]
   refine tA (some 37) 21 rfl rfl hS0 ?_
   try simp only [Act.put, zA, zB, zC]
   refine rD 22 rfl (fun K hK => ?_)
   go_simp
   refine hK.out _ _ trivial (fun _ => ?_)
   clear hK K
   refine tA (some 38) 23 rfl rfl hS0 ?_
   try simp only [Act.put, zA, zB, zC]
   refine tA (some 39) 24 rfl rfl hS0 ?_
   try simp only [Act.put, zA, zB, zC]
   refine rD 25 rfl (fun K hK => ?_)
   have q4 : (World.setCell wd ⟨S, 3, none⟩ (.slice (some ⟨g, o, none⟩) n cap)).cell? ⟨S, 4, none⟩ = some (.int .u64 (s1 : Int)) := by rw [World.cell?_setCell_other _ _ _ _ (by simp)]; exact n4
   go_simp
   refine hK.out _ _ trivial (fun _ => ?_)
   clear hK K
   refine wpAnyH_done (by kernel_rfl) ?_ _
   have hu := HU.out _ kd
   have hx := HX.out _ kd
   go_wp2_with fail
   go_ret
   exact ⟨rfl, _, hu.1, hx.trans hu.2⟩
  ·
   go_simp
   refine hK.out _ _ trivial (fun _ => ?_)
   clear hK K
   refine tA (some 33) 17 rfl rfl hS0 ?_
   try simp only [Act.put, zA, zB, zC]
   refine wpAnyH_ready (rs := [5, 18]) (by kernel_rfl) (by simp) ?_
   refine AllReadyH.cons rfl (fun K hK => ?_) (AllReadyH.cons rfl (fun K hK => ?_) AllReadyH.nil)
   ·
    go_simp
    refine hK.out _ _ trivial (fun _ => ?_)
    clear hK K
    refine tA (some 23) 7 rfl rfl hS0 ?_
    try simp only [Act.put, zA, zB, zC]
    refine rD 18 rfl (fun K hK => ?_)
    go_simp
    refine hK.out _ _ trivial (fun _ => ?_)
    clear hK K
    refine rD 19 rfl (fun K hK => ?_)
    go_simp
    refine (CW.out _).mono ?_
    rintro e y1 ⟨rfl, rfl⟩
    show K _ _
    refine hK.out _ _ trivial (fun _ => ?_)
    clear hK K
    refine tA (some 36) 20 rfl rfl hS0 ?_
    try simp only [Act.put, zA, zB, zC]
    refine tA (some 37) 21 rfl rfl hS0 ?_
    try simp only [Act.put, zA, zB, zC]
    refine rD 22 rfl (fun K hK => ?_)
    go_simp
    refine hK.out _ _ trivial (fun _ => ?_)
    clear hK K
    refine tA (some 38) 23 rfl rfl hS0 ?_
    try simp only [Act.put, zA, zB, zC]
    refine tA (some 39) 24 rfl rfl hS0 ?_
    try simp only [Act.put, zA, zB, zC]
    refine rD 25 rfl (fun K hK => ?_)
    have q4 : (World.setCell wd ⟨S, 3, none⟩ (.slice (some ⟨g, o, none⟩) n cap)).cell? ⟨S, 4, none⟩ = some (.int .u64 (s1 : Int)) := by rw [World.cell?_setCell_other _ _ _ _ (by simp)]; exact n4
    go_simp
    refine hK.out _ _ trivial (fun _ => ?_)
    clear hK K
    refine wpAnyH_done (by kernel_rfl) ?_ _
    have hu := HU.out _ kd
    have hx := HX.out _ kd
    go_wp2_with fail
    go_ret
    exact ⟨rfl, _, hu.1, hx.trans hu.2⟩
   ·
    go_simp
    refine hK.out _ _ trivial (fun _ => ?_)
    clear hK K
    refine wpAnyH_ready (rs := [5, 19]) (by kernel_rfl) (by simp) ?_
    refine AllReadyH.cons rfl (fun K hK => ?_) (AllReadyH.cons rfl (fun K hK => ?_) AllReadyH.nil)
    ·
     go_simp
     refine hK.out _ _ trivial (fun _ => ?_)
     clear hK K
     refine tA (some 23) 7 rfl rfl hS0 ?_
     try simp only [Act.put, zA, zB, zC]
     refine rD 19 rfl (fun K hK => ?_)
     go_simp
     refine (CW.out _).mono ?_
     rintro e y1 ⟨rfl, rfl⟩
     show K _ _
     refine hK.out _ _ trivial (fun _ => ?_)
     clear hK K
     refine tA (some 36) 20 rfl rfl hS0 ?_
     try simp only [Act.put, zA, zB, zC]
     refine tA (some 37) 21 rfl rfl hS0 ?_
     try simp only [Act.put, zA, zB, zC]
     refine rD 22 rfl (fun K hK => ?_)
     go_simp
     refine hK.out _ _ trivial (fun _ => ?_)
     clear hK K
     refine tA (some 38) 23 rfl rfl hS0 ?_
     try simp only [Act.put, zA, zB, zC]
     refine tA (some 39) 24 rfl rfl hS0 ?_
     try simp only [Act.put, zA, zB, zC]
     refine rD 25 rfl (fun K hK => ?_)
     have q4 : (World.setCell wd ⟨S, 3, none⟩ (.slice (some ⟨g, o, none⟩) n cap)).cell? ⟨S, 4, none⟩ = some (.int .u64 (s1 : Int)) := by rw [World.cell?_setCell_other _ _ _ _ (by simp)]; exact n4
     go_simp
     refine hK.out _ _ trivial (fun _ => ?_)
     clear hK K
     refine wpAnyH_done (by kernel_rfl) ?_ _
     have hu := HU.out _ kd
     have hx := HX.out _ kd
     go_wp2_with fail
     go_ret
     exact ⟨rfl, _, hu.1, hx.trans hu.2⟩
    ·
     go_simp
     refine (CW.out _).mono ?_
     rintro e y1 ⟨rfl, rfl⟩
     show K _ _
     refine hK.out _ _ trivial (fun _ => ?_)
     clear hK K
     refine rD 5 rfl (fun K hK => ?_)
     go_simp
     refine hK.out _ _ trivial (fun _ => ?_)
     clear hK K
     refine tA (some 23) 7 rfl rfl hS0 ?_
     try simp only [Act.put, zA, zB, zC]
     refine tA (some 36) 20 rfl rfl hS0 ?_
     try simp only [Act.put, zA, zB, zC]
     refine tA (some 37) 21 rfl rfl hS0 ?_
     try simp only [Act.put, zA, zB, zC]
     refine rD 22 rfl (fun K hK => ?_)
     go_simp
     refine hK.out _ _ trivial (fun _ => ?_)
     clear hK K
     refine tA (some 38) 23 rfl rfl hS0 ?_
     try simp only [Act.put, zA, zB, zC]
     refine tA (some 39) 24 rfl rfl hS0 ?_
     try simp only [Act.put, zA, zB, zC]
     refine rD 25 rfl (fun K hK => ?_)
     have q4 : (World.setCell wd ⟨S, 3, none⟩ (.slice (some ⟨g, o, none⟩) n cap)).cell? ⟨S, 4, none⟩ = some (.int .u64 (s1 : Int)) := by rw [World.cell?_setCell_other _ _ _ _ (by simp)]; exact n4
     go_simp
     refine hK.out _ _ trivial (fun _ => ?_)
     clear hK K
     refine wpAnyH_done (by kernel_rfl) ?_ _
     have hu := HU.out _ kd
     have hx := HX.out _ kd
     go_wp2_with fail
     go_ret
     exact ⟨rfl, _, hu.1, hx.trans hu.2⟩
 ·
  go_simp
  refine hK.out _ _ trivial (fun _ => ?_)
  clear hK K
  refine tA (some 33) 17 rfl rfl hS0 ?_
  try simp only [Act.put, zA, zB, zC]
  refine wpAnyH_ready (rs := [5, 11, 18]) (by kernel_rfl) (by simp) ?_
  refine AllReadyH.cons rfl (fun K hK => ?_) (AllReadyH.cons rfl (fun K hK => ?_) (AllReadyH.cons rfl (fun K hK => ?_) AllReadyH.nil))
  ·
   go_simp
   refine hK.out _ _ trivial (fun _ => ?_)
   clear hK K
   refine tA (some 23) 7 rfl rfl hS0 ?_
   try simp only [Act.put, zA, zB, zC]
   refine wpAnyH_ready (rs := [11, 18]) (by kernel_rfl) (by simp) ?_
   refine AllReadyH.cons rfl (fun K hK => ?_) (AllReadyH.cons rfl (fun K hK => ?_) AllReadyH.nil)
   ·
    go_simp
    refine hK.out _ _ trivial (fun _ => ?_)
    clear hK K
    refine rD 18 rfl (fun K hK => ?_)
    go_simp
    refine hK.out _ _ trivial (fun _ => ?_)
    clear hK K
    refine rD 19 rfl (fun K hK => ?_)
    go_simp
    refine (CW.out _).mono ?_
    rintro e y1 ⟨rfl, rfl⟩
    show K _ _
    refine hK.out _ _ trivial (fun _ => ?_)
    clear hK K
    refine tA (some 36) 20 rfl rfl hS0 ?_
    try simp only [Act.put, zA, zB, zC]
    refine tA (some 37) 21 rfl rfl hS0 ?_
    try simp only [Act.put, zA, zB, zC]
    refine rD 22 rfl (fun K hK => ?_)
    go_simp
    refine hK.out _ _ trivial (fun _ => ?_)
    clear hK K
    refine tA (some 38) 23 rfl rfl hS0 ?_
    try simp only [Act.put, zA, zB, zC]
    refine tA (some 39) 24 rfl rfl hS0 ?_
    try simp only [Act.put, zA, zB, zC]
    refine rD 25 rfl (fun K hK => ?_)
    have q4 : (World.setCell wd ⟨S, 3, none⟩ (.slice (some ⟨g, o, none⟩) n cap)).cell? ⟨S, 4, none⟩ = some (.int .u64 (s1 : Int)) := by rw [World.cell?_setCell_other _ _ _ _ (by simp)]; exact n4
    go_simp
    refine hK.out _ _ trivial (fun _ => ?_)
    clear hK K
    refine wpAnyH_done (by kernel_rfl) ?_ _
    have hu := HU.out _ kd
    have hx := HX.out _ kd
    go_wp2_with fail
    go_ret
    exact ⟨rfl, _, hu.1, hx.trans hu.2⟩
   ·
    go_simp
    refine hK.out _ _ trivial (fun _ => ?_)
    clear hK K
    refine rD 11 rfl (fun K hK => ?_)
    go_simp
    refine hK.out _ _ trivial (fun _ => ?_)
    clear hK K
    refine rD 19 rfl (fun K hK => ?_)
    go_simp
    refine (CW.out _).mono ?_
    rintro e y1 ⟨rfl, rfl⟩
    show K _ _
    refine hK.out _ _ trivial (fun _ => ?_)
    clear hK K
    refine tA (some 36) 20 rfl rfl hS0 ?_
    try simp only [Act.put, zA, zB, zC]
    refine tA (some 37) 21 rfl rfl hS0 ?_
    try simp only [Act.put, zA, zB, zC]
    refine rD 22 rfl (fun K hK => ?_)
    go_simp
    refine hK.out _ _ trivial (fun _ => ?_)
    clear hK K
    refine tA (some 38) 23 rfl rfl hS0 ?_
    try simp only [Act.put, zA, zB, zC]
    refine tA (some 39) 24 rfl rfl hS0 ?_
    try simp only [Act.put, zA, zB, zC]
    refine rD 25 rfl (fun K hK => ?_)
    have q4 : (World.setCell wd ⟨S, 3, none⟩ (.slice (some ⟨g, o, none⟩) n cap)).cell? ⟨S, 4, none⟩ = some (.int .u64 (s1 : Int)) := by rw [World.cell?_setCell_other _ _ _ _ (by simp)]; exact n4
    go_simp
    refine hK.out _ _ trivial (fun _ => ?_)
    clear hK K
    refine wpAnyH_done (by kernel_rfl) ?_ _
    have hu := HU.out _ kd
    have hx := HX.out _ kd
    go_wp2_with fail
    go_ret
    exact ⟨rfl, _, hu.1, hx.trans hu.2⟩
  ·
   go_simp
   refine hK.out _ _ trivial (fun _ => ?_)
   clear hK K
   refine wpAnyH_ready (rs := [5, 18]) (by kernel_rfl) (by simp) ?_
   refine AllReadyH.cons rfl (fun K hK => ?_) (AllReadyH.cons rfl (fun K hK => ?_) AllReadyH.nil)
   ·
    go_simp
    refine hK.out _ _ trivial (fun _ => ?_)
    clear hK K
    refine tA (some 23) 7 rfl rfl hS0 ?_
    try simp only [Act.put, zA, zB, zC]
    refine rD 18 rfl (fun K hK => ?_)
    go_simp
    refine hK.out _ _ trivial (fun _ => ?_)
    clear hK K
    refine rD 19 rfl (fun K hK => ?_)
    go_simp
    refine (CW.out _).mono ?_
    rintro e y1 ⟨rfl, rfl⟩
    show K _ _
    refine hK.out _ _ trivial (fun _ => ?_)
    clear hK K
    refine tA (some 36) 20 rfl rfl hS0 ?_
    try simp only [Act.put, zA, zB, zC]
    refine tA (some 37) 21 rfl rfl hS0 ?_
    try simp only [Act.put, zA, zB, zC]
    refine rD 22 rfl (fun K hK => ?_)
    go_simp
    refine hK.out _ _ trivial (fun _ => ?_)
    clear hK K
    refine tA (some 38) 23 rfl rfl hS0 ?_
    try simp only [Act.put, zA, zB, zC]
    refine tA (some 39) 24 rfl rfl hS0 ?_
    try simp only [Act.put, zA, zB, zC]
    refine rD 25 rfl (fun K hK => ?_)
    have q4 : (World.setCell wd ⟨S, 3, none⟩ (.slice (some ⟨g, o, none⟩) n cap)).cell? ⟨S, 4, none⟩ = some (.int .u64 (s1 : Int)) := by rw [World.cell?_setCell_other _ _ _ _ (by simp)]; exact n4
    go_simp
    refine hK.out _ _ trivial (fun _ => ?_)
    clear hK K
    refine wpAnyH_done (by kernel_rfl) ?_ _
    have hu := HU.out _ kd
    have hx := HX.out _ kd
    go_wp2_with fail
    go_ret
    exact ⟨rfl, _, hu.1, hx.trans hu.2⟩
   ·
    go_simp
    refine hK.out _ _ trivial (fun _ => ?_)
    clear hK K
    refine wpAnyH_ready (rs := [5, 19]) (by kernel_rfl) (by simp) ?_
    refine AllReadyH.cons rfl (fun K hK => ?_) (AllReadyH.cons rfl (fun K hK => ?_) AllReadyH.nil)
    ·
     go_simp
     refine hK.out _ _ trivial (fun _ => ?_)
     clear hK K
     refine tA (some 23) 7 rfl rfl hS0 ?_
     try simp only [Act.put, zA, zB, zC]
     refine rD 19 rfl (fun K hK => ?_)
     go_simp
     refine (CW.out _).mono ?_
     rintro e y1 ⟨rfl, rfl⟩
     show K _ _
     refine hK.out _ _ trivial (fun _ => ?_)
     clear hK K
     refine tA (some 36) 20 rfl rfl hS0 ?_
     try simp only [Act.put, zA, zB, zC]
     refine tA (some 37) 21 rfl rfl hS0 ?_
     try simp only [Act.put, zA, zB, zC]
     refine rD 22 rfl (fun K hK => ?_)
     go_simp
     refine hK.out _ _ trivial (fun _ => ?_)
     clear hK K
     refine tA (some 38) 23 rfl rfl hS0 ?_
     try simp only [Act.put, zA, zB, zC]
     refine tA (some 39) 24 rfl rfl hS0 ?_
     try simp only [Act.put, zA, zB, zC]
     refine rD 25 rfl (fun K hK => ?_)
     have q4 : (World.setCell wd ⟨S, 3, none⟩ (.slice (some ⟨g, o, none⟩) n cap)).cell? ⟨S, 4, none⟩ = some (.int .u64 (s1 : Int)) := by rw [World.cell?_setCell_other _ _ _ _ (by simp)]; exact n4
     go_simp
     refine hK.out _ _ trivial (fun _ => ?_)
     clear hK K
     refine wpAnyH_done (by kernel_rfl) ?_ _
     have hu := HU.out _ kd
     have hx := HX.out _ kd
     go_wp2_with fail
     go_ret
     exact ⟨rfl, _, hu.1, hx.trans hu.2⟩
    ·
     go_simp
     refine (CW.out _).mono ?_
     rintro e y1 ⟨rfl, rfl⟩
     show K _ _
     refine hK.out _ _ trivial (fun _ => ?_)
     clear hK K
     refine rD 5 rfl (fun K hK => ?_)
     go_simp
     refine hK.out _ _ trivial (fun _ => ?_)
     clear hK K
     refine tA (some 23) 7 rfl rfl hS0 ?_
     try simp only [Act.put, zA, zB, zC]
     refine tA (some 36) 20 rfl rfl hS0 ?_
     try simp only [Act.put, zA, zB, zC]
     refine tA (some 37) 21 rfl rfl hS0 ?_
     try simp only [Act.put, zA, zB, zC]
     refine rD 22 rfl (fun K hK => ?_)
     go_simp
     refine hK.out _ _ trivial (fun _ => ?_)
     clear hK K
     refine tA (some 38) 23 rfl rfl hS0 ?_
     try simp only [Act.put, zA, zB, zC]
     refine tA (some 39) 24 rfl rfl hS0 ?_
     try simp only [Act.put, zA, zB, zC]
     refine rD 25 rfl (fun K hK => ?_)
     have q4 : (World.setCell wd ⟨S, 3, none⟩ (.slice (some ⟨g, o, none⟩) n cap)).cell? ⟨S, 4, none⟩ = some (.int .u64 (s1 : Int)) := by rw [World.cell?_setCell_other _ _ _ _ (by simp)]; exact n4
     go_simp
     refine hK.out _ _ trivial (fun _ => ?_)
     clear hK K
     refine wpAnyH_done (by kernel_rfl) ?_ _
     have hu := HU.out _ kd
     have hx := HX.out _ kd
     go_wp2_with fail
     go_ret
     exact ⟨rfl, _, hu.1, hx.trans hu.2⟩
  ·
   go_simp
   refine hK.out _ _ trivial (fun _ => ?_)
   clear hK K
   refine wpAnyH_ready (rs := [5, 11]) (by kernel_rfl) (by simp) ?_
   refine AllReadyH.cons rfl (fun K hK => ?_) (AllReadyH.cons rfl (fun K hK => ?_) AllReadyH.nil)
   ·
    go_simp
    refine hK.out _ _ trivial (fun _ => ?_)
    clear hK K
    refine tA (some 23) 7 rfl rfl hS0 ?_
    try simp only [Act.put, zA, zB, zC]
    refine rD 11 rfl (fun K hK => ?_)
    go_simp
    refine hK.out _ _ trivial (fun _ => ?_)
    clear hK K
    refine rD 19 rfl (fun K hK => ?_)
    go_simp
    refine (CW.out _).mono ?_
    rintro e y1 ⟨rfl, rfl⟩
    show K _ _
    refine hK.out _ _ trivial (fun _ => ?_)
    clear hK K
    refine tA (some 36) 20 rfl rfl hS0 ?_
    try simp only [Act.put, zA, zB, zC]
    refine tA (some 37) 21 rfl rfl hS0 ?_
    try simp only [Act.put, zA, zB, zC]
    refine rD 22 rfl (fun K hK => ?_)
    go_simp
    refine hK.out _ _ trivial (fun _ => ?_)
    clear hK K
    refine tA (some 38) 23 rfl rfl hS0 ?_
    try simp only [Act.put, zA, zB, zC]
    refine tA (some 39) 24 rfl rfl hS0 ?_
    try simp only [Act.put, zA, zB, zC]
    refine rD 25 rfl (fun K hK => ?_)
    have q4 : (World.setCell wd ⟨S, 3, none⟩ (.slice (some ⟨g, o, none⟩) n cap)).cell? ⟨S, 4, none⟩ = some (.int .u64 (s1 : Int)) := by rw [World.cell?_setCell_other _ _ _ _ (by simp)]; exact n4
    go_simp
    refine hK.out _ _ trivial (fun _ => ?_)
    clear hK K
    refine wpAnyH_done (by kernel_rfl) ?_ _
    have hu := HU.out _ kd
    have hx := HX.out _ kd
    go_wp2_with fail
    go_ret
    exact ⟨rfl, _, hu.1, hx.trans hu.2⟩
   ·
    go_simp
    refine hK.out _ _ trivial (fun _ => ?_)
    clear hK K
    refine wpAnyH_ready (rs := [5, 19]) (by kernel_rfl) (by simp) ?_
    refine AllReadyH.cons rfl (fun K hK => ?_) (AllReadyH.cons rfl (fun K hK => ?_) AllReadyH.nil)
    ·
     go_simp
     refine hK.out _ _ trivial (fun _ => ?_)
     clear hK K
     refine tA (some 23) 7 rfl rfl hS0 ?_
     try simp only [Act.put, zA, zB, zC]
     refine rD 19 rfl (fun K hK => ?_)
     go_simp
     refine (CW.out _).mono ?_
     rintro e y1 ⟨rfl, rfl⟩
     show K _ _
     refine hK.out _ _ trivial (fun _ => ?_)
     clear hK K
     refine tA (some 36) 20 rfl rfl hS0 ?_
     try simp only [Act.put, zA, zB, zC]
     refine tA (some 37) 21 rfl rfl hS0 ?_
     try simp only [Act.put, zA, zB, zC]
     refine rD 22 rfl (fun K hK => ?_)
     go_simp
     refine hK.out _ _ trivial (fun _ => ?_)
     clear hK K
     refine tA (some 38) 23 rfl rfl hS0 ?_
     try simp only [Act.put, zA, zB, zC]
     refine tA (some 39) 24 rfl rfl hS0 ?_
     try simp only [Act.put, zA, zB, zC]
     refine rD 25 rfl (fun K hK => ?_)
     have q4 : (World.setCell wd ⟨S, 3, none⟩ (.slice (some ⟨g, o, none⟩) n cap)).cell? ⟨S, 4, none⟩ = some (.int .u64 (s1 : Int)) := by rw [World.cell?_setCell_other _ _ _ _ (by simp)]; exact n4
     go_simp
     refine hK.out _ _ trivial (fun _ => ?_)
     clear hK K
     refine wpAnyH_done (by kernel_rfl) ?_ _
     have hu := HU.out _ kd
     have hx := HX.out _ kd
     go_wp2_with fail
     go_ret
     exact ⟨rfl, _, hu.1, hx.trans hu.2⟩
    ·
     go_simp
     refine (CW.out _).mono ?_
     rintro e y1 ⟨rfl, rfl⟩
     show K _ _
     refine hK.out _ _ trivial (fun _ => ?_)
     clear hK K
     refine rD 5 rfl (fun K hK => ?_)
     go_simp
     refine hK.out _ _ trivial (fun _ => ?_)
     clear hK K
     refine tA (some 23) 7 rfl rfl hS0 ?_
     try simp only [Act.put, zA, zB, zC]
     refine tA (some 36) 20 rfl rfl hS0 ?_
     try simp only [Act.put, zA, zB, zC]
     refine tA (some 37) 21 rfl rfl hS0 ?_
     try simp only [Act.put, zA, zB, zC]
     refine rD 22 rfl (fun K hK => ?_)
     go_simp
     refine hK.out _ _ trivial (fun _ => ?_)
     clear hK K
     refine tA (some 38) 23 rfl rfl hS0 ?_
     try simp only [Act.put, zA, zB, zC]
     refine tA (some 39) 24 rfl rfl hS0 ?_
     try simp only [Act.put, zA, zB, zC]
     refine rD 25 rfl (fun K hK => ?_)
     have q4 : (World.setCell wd ⟨S, 3, none⟩ (.slice (some ⟨g, o, none⟩) n cap)).cell? ⟨S, 4, none⟩ = some (.int .u64 (s1 : Int)) := by rw [World.cell?_setCell_other _ _ _ _ (by simp)]; exact n4
     go_simp
     refine hK.out _ _ trivial (fun _ => ?_)
     clear hK K
     refine wpAnyH_done (by kernel_rfl) ?_ _
     have hu := HU.out _ kd
     have hx := HX.out _ kd
     go_wp2_with fail
     go_ret
     exact ⟨rfl, _, hu.1, hx.trans hu.2⟩
end
end

section
open Go.RowKit
theorem bit_ne (x k : Nat) (hx : x < 9223372036854775808) (hk : 2 ^ k < 9223372036854775808) {q : Int} (hq : bits .and .i64 (x : Int) ((2 ^ k : Nat) : Int) = q) : x.testBit k = !decide (q = 0) := by
 have := bit_zero x k hx hk
 rw [hq] at this
 cases hb : x.testBit k
 ·rw [decide_eq_true (this.2 hb)]; rfl
 ·rw [decide_eq_false (fun e => by rw [this.1 e] at hb; cases hb)]; rfl
theorem pwould_any {W : World} {S B b : Nat} {h : List TxnV} {C : Nat} {r : List Nat} {vb vr : Value} {aF sF : Nat → Nat} {w : World} (p : PlIs W S B b h C r vb vr aF sF w) (hc : checkI h = 0) (hC : C < 9223372036854775808) (i : Nat) (hi : i < h.length) :
  Calls Tryz.prog 231 #[.pointer (some ⟨S, 0, none⟩), .int .i64 i] w fun e w' => e = .returned (.int .u64 ((wld4 (baseN h C i) (plS r) (rivN h i) C sF aF : Nat) : Int)) ∧ Below w.heap.size w w' := by
 obtain ⟨q16, h16⟩ : ∃ q, bits .and .i64 (C : Int) 16 = q := ⟨_, rfl⟩
 obtain ⟨q8, h8⟩ : ∃ q, bits .and .i64 (C : Int) 8 = q := ⟨_, rfl⟩
 obtain ⟨q2, h2⟩ : ∃ q, bits .and .i64 (C : Int) 2 = q := ⟨_, rfl⟩
 obtain ⟨q4, h4⟩ : ∃ q, bits .and .i64 (C : Int) 4 = q := ⟨_, rfl⟩
 have H16 := hid (bit_ne C 4 hC (by omega) h16)
 have H8 := hid (bit_ne C 3 hC (by omega) h8)
 have H2 := hid (bit_ne C 1 hC (by omega) h2)
 have H4 := hid (bit_ne C 2 hC (by omega) h4)
 have hbs := baseN_set h C i
 have hps := plS_set r
 have hrs := rivN_set h i
 have E1 : Hid (wld1 (baseN h C i) (plS r) C = if q16 = 0 then baseN h C i else baseN h C i ||| plS r) := hid (by unfold wld1; rw [H16.out]; by_cases e : q16 = 0 <;> simp [e])
 have E2 : Hid (wld2 (baseN h C i) (plS r) (rivN h i) C = if q8 = 0 then wld1 (baseN h C i) (plS r) C else wld1 (baseN h C i) (plS r) C ||| (rivN h i &&& plS r)) := hid (by unfold wld2; rw [H8.out]; by_cases e : q8 = 0 <;> simp [e])
 have E3 : Hid (wld3 (baseN h C i) (plS r) (rivN h i) C sF = if q2 = 0 then wld2 (baseN h C i) (plS r) (rivN h i) C else wld2 (baseN h C i) (plS r) (rivN h i) C ||| joinN sF (wld2 (baseN h C i) (plS r) (rivN h i) C)) := hid (by unfold wld3; rw [H2.out]; by_cases e : q2 = 0 <;> simp [e])
 have E4 : Hid (wld4 (baseN h C i) (plS r) (rivN h i) C sF aF = if q4 = 0 then wld3 (baseN h C i) (plS r) (rivN h i) C sF else wld3 (baseN h C i) (plS r) (rivN h i) C sF ||| joinN aF (wld3 (baseN h C i) (plS r) (rivN h i) C sF)) := hid (by unfold wld4; rw [H4.out]; by_cases e : q4 = 0 <;> simp [e])
 have hsF : ∀ k, k < 64 → IsSet (sF k) := fun k hk => (p.set k hk).2
 have haF : ∀ k, k < 64 → IsSet (aF k) := fun k hk => (p.set k hk).1
 have s1 := wld1_set (C := C) hbs hps
 have s2 := wld2_set (C := C) hbs hps hrs
 have s3 := wld3_set (C := C) hbs hps hrs hsF
 have CJ1 := hid (fun s wx (hs : IsSet s) (hx : Below w.heap.size w wx) => joined_any S 69 sF s wx hs hsF (fun k hk => (p.below hx).a.cS hk) (p.below hx).tab)
 have CJ2 := hid (fun s wx (hs : IsSet s) (hx : Below w.heap.size w wx) => joined_any S 5 aF s wx hs haF (fun k hk => (p.below hx).a.cA hk) (p.below hx).tab)
 have CRV := hid (fun wx (hx : Below w.heap.size w wx) => ordis_rivals (p.below hx).ord hc i)
 have HS := hid (fun wx (hx : Below w.heap.size w wx) => And.intro (p.below hx).a.cO (And.intro (p.below hx).a.cC (p.below hx).a.cP))
 obtain ⟨gb, ob, cb, hvb, hcb⟩ : ∃ gb ob cb, vb = .slice (some ⟨gb, ob, none⟩) h.length cb ∧ w.cell? ⟨gb, ob + i, none⟩ = some (.int .u64 ((baseN h C i : Nat) : Int)) := by
  obtain ⟨hl, ao, cap, e, hm, hno, hcl⟩ := Row.of_owns p.ba
  obtain ⟨g, off, e2, hcell⟩ := hcl (by omega)
  refine ⟨g, off, cap, by rw [e, e2], ?_⟩
  rw [hcell i (by omega), List.getElem?_map, List.getElem?_range hi]; rfl
 have cB := p.a.cB
 rw [hvb] at cB
 obtain ⟨n0, n1, n2⟩ := HS.out w (Below.refl _ _)
 have hii : (i : Int) < (h.length : Int) := by omega
 have hb0 := Below.refl w.heap.size w
 have hr0 : IsSet (joinN sF (wld2 (baseN h C i) (plS r) (rivN h i) C)) := joinN_set hsF
 have hr1 : IsSet (joinN aF (wld3 (baseN h C i) (plS r) (rivN h i) C sF)) := joinN_set haF
 clear p H16 H8 H2 H4 hsF haF hvb hc hi
 generalize wld4 (baseN h C i) (plS r) (rivN h i) C sF aF = x4 at *
 generalize wld3 (baseN h C i) (plS r) (rivN h i) C sF = x3 at *
 generalize wld2 (baseN h C i) (plS r) (rivN h i) C = x2 at *
 generalize wld1 (baseN h C i) (plS r) C = x1 at *
 generalize baseN h C i = x0 at *
 generalize plS r = pl at *
 generalize rivN h i = rv at *
 have CJ1 := hid (fun wx (hx : Below w.heap.size w wx) => CJ1.out x2 wx s2 hx)
 have CJ2 := hid (fun wx (hx : Below w.heap.size w wx) => CJ2.out x3 wx s3 hx)
 generalize joinN sF x2 = j1 at *
 generalize joinN aF x3 = j2 at *
 have O1 := Go.bits_or_u64_nat _ _ hbs hps
 have O2 := Go.bits_and_u64_nat _ _ hrs hps
 have O3 := Go.bits_or_u64_nat _ _ s1 (isSet_and (t := pl) hrs)
 have O4 := Go.bits_or_u64_nat _ _ s2 hr0
 have O5 := Go.bits_or_u64_nat _ _ s3 hr1
 clear hbs hps hrs s1 s2 s3 hr0 hr1
 go_enter Tryz.func231, Tryz.ntmps231
 go_upto_if 18 with fail
 go_cut [5] from 13 to 24 (fun v wx => v = .int .u64 (x1 : Int) ∧ Below w.heap.size w wx)
 case first =>
  by_cases e : q16 = 0
  ·have HE : Hid (x0 = x1) := hid (by rw [E1.out, if_pos e])
   go_wp2_with fail
   go_meet
   exact ⟨by rw [HE.out], hb0⟩
  ·have HE : Hid (x0 ||| pl = x1) := hid (by rw [E1.out, if_neg e])
   have e2 := bne_iff_ne.2 e
   go_wp2_with fail
   go_meet
   exact ⟨by rw [← HE.out], hb0⟩
 obtain ⟨rfl, hb1⟩ := hcut
 generalize wc = w1 at *
 clear hb0 cB hcb n0 n1 n2
 obtain ⟨n0, n1, n2⟩ := HS.out _ hb1
 go_upto_if 30 with fail
 go_cut [5] from 25 to 43 (fun v wx => v = .int .u64 (x2 : Int) ∧ Below w.heap.size w wx)
 case first =>
  by_cases e : q8 = 0
  ·have HE : Hid (x1 = x2) := hid (by rw [E2.out, if_pos e])
   go_wp2_with fail
   go_meet
   exact ⟨by rw [HE.out], hb1⟩
  ·have HE : Hid (x1 ||| (rv &&& pl) = x2) := hid (by rw [E2.out, if_neg e])
   have e2 := bne_iff_ne.2 e
   go_upto_region 5 with fail
   refine wp_region_held_drew (S := Below w.heap.size w) (by kernel_rfl) hb1.drew (fun hS0 => ?_)
   refine tG (some 31) 0 ?vua0 rfl rfl (Or.inl ⟨by rfl, ?hua0⟩) hS0 ?rua0
   case hua0 => (intro w hw; obtain ⟨n0, n1, n2⟩ := HS.out _ hw; go_simp; try (with_reducible rfl))
   try simp only [Act.put, zA, zB, zC]
   refine tG (some 32) 1 ?vua1 rfl rfl (Or.inl ⟨by rfl, ?hua1⟩) hS0 ?rua1
   case hua1 => (intro w hw; obtain ⟨n0, n1, n2⟩ := HS.out _ hw; go_simp; try (with_reducible rfl))
   try simp only [Act.put, zA, zB, zC]
   refine tG (some 33) 2 ?vua2 rfl rfl (Or.inl ⟨by rfl, ?hua2⟩) hS0 ?rua2
   case hua2 => (intro w hw; obtain ⟨n0, n1, n2⟩ := HS.out _ hw; go_simp; try (with_reducible rfl))
   try simp only [Act.put, zA, zB, zC]
   refine tG (some 34) 3 ?vua3 rfl rfl (Or.inl ⟨by rfl, ?hua3⟩) hS0 ?rua3
   case hua3 => (intro w hw; obtain ⟨n0, n1, n2⟩ := HS.out _ hw; go_simp; try (with_reducible rfl))
   try simp only [Act.put, zA, zB, zC]
   refine tG (some 35) 4 ?vua4 rfl rfl (Or.inl ⟨by rfl, ?hua4⟩) hS0 ?rua4
   case hua4 => (intro w hw; obtain ⟨n0, n1, n2⟩ := HS.out _ hw; go_simp; try (with_reducible rfl))
   try simp only [Act.put, zA, zB, zC]
   refine tG (some 36) 5 ?vua5 rfl rfl (Or.inl ⟨by rfl, ?hua5⟩) hS0 ?rua5
   case hua5 => (intro w hw; obtain ⟨n0, n1, n2⟩ := HS.out _ hw; go_simp; try (with_reducible rfl))
   try simp only [Act.put, zA, zB, zC]
   refine tG (some 38) 7 ?vua7 rfl rfl (Or.inl ⟨by rfl, ?hua7⟩) hS0 ?rua7
   case hua7 => (intro w hw; obtain ⟨n0, n1, n2⟩ := HS.out _ hw; go_simp; try (with_reducible rfl))
   try simp only [Act.put, zA, zB, zC]
   refine tG (some 39) 8 ?vua8 rfl rfl (Or.inl ⟨by rfl, ?hua8⟩) hS0 ?rua8
   case hua8 => (intro w hw; obtain ⟨n0, n1, n2⟩ := HS.out _ hw; go_simp; try (with_reducible rfl))
   try simp only [Act.put, zA, zB, zC]
   refine tG (some 40) 9 ?vua9 rfl rfl (Or.inl ⟨by rfl, ?hua9⟩) hS0 ?rua9
   case hua9 => (intro w hw; obtain ⟨n0, n1, n2⟩ := HS.out _ hw; go_simp; try (with_reducible rfl))
   try simp only [Act.put, zA, zB, zC]
   refine tG (some 41) 10 ?vua10 rfl rfl (Or.inl ⟨by rfl, ?hua10⟩) hS0 ?rua10
   case hua10 => (intro w hw; obtain ⟨n0, n1, n2⟩ := HS.out _ hw; go_simp; try (with_reducible rfl))
   try simp only [Act.put, zA, zB, zC]
   refine rD 6 rfl (fun K hK => ?_)
   go_simp
   refine (CRV.out _ hS0).mono ?_
   rintro e y1 ⟨rfl, j1⟩
   show K _ _
   have s1 := below_then hS0 j1
   refine hK.out _ _ s1 (fun _ => ?_)
   clear hK K
   refine tG (some 42) 11 ?vua11 rfl rfl (Or.inl ⟨by rfl, ?hua11⟩) s1 ?rua11
   case hua11 => (intro w hw; obtain ⟨n0, n1, n2⟩ := HS.out _ hw; go_simp; try (with_reducible rfl))
   try simp only [Act.put, zA, zB, zC]
   refine tG (some 43) 12 ?vua12 rfl rfl (Or.inl ⟨by rfl, ?hua12⟩) s1 ?rua12
   case hua12 => (intro w hw; obtain ⟨n0, n1, n2⟩ := HS.out _ hw; go_simp; try (with_reducible rfl))
   try simp only [Act.put, zA, zB, zC]
   refine tG (some 5) 13 ?vua13 rfl rfl (Or.inl ⟨by rfl, ?hua13⟩) s1 ?rua13
   case hua13 => (intro w hw; obtain ⟨n0, n1, n2⟩ := HS.out _ hw; go_simp; try (with_reducible rfl))
   try simp only [Act.put, zA, zB, zC]
   refine wpAnyH_done (by kernel_rfl) ?_ _
   rw [HE.out]
   go_wp2_with fail
   go_meet
   exact ⟨rfl, s1⟩
 obtain ⟨rfl, hb2⟩ := hcut
 generalize wc = w2 at *
 clear hb1 n0 n1 n2
 obtain ⟨n0, n1, n2⟩ := HS.out _ hb2
 go_upto_if 49 with fail
 go_cut [5] from 44 to 56 (fun v wx => v = .int .u64 (x3 : Int) ∧ Below w.heap.size w wx)
 case first =>
  by_cases e : q2 = 0
  ·have HE : Hid (x2 = x3) := hid (by rw [E3.out, if_pos e])
   go_wp2_with fail
   go_meet
   exact ⟨by rw [HE.out], hb2⟩
  ·have HE : Hid (x2 ||| j1 = x3) := hid (by rw [E3.out, if_neg e])
   have e2 := bne_iff_ne.2 e
   go_wp2_with fail
   refine (CJ1.out _ hb2).mono ?_
   rintro e w3 ⟨rfl, h3⟩
   have hb3 := below_then hb2 h3
   go_wp2_with fail
   go_meet
   exact ⟨by rw [← HE.out], hb3⟩
 obtain ⟨rfl, hb3⟩ := hcut
 generalize wc = w3 at *
 clear hb2 n0 n1 n2
 obtain ⟨n0, n1, n2⟩ := HS.out _ hb3
 go_upto_region 8 with fail
 by_cases e : q4 = 0
 ·have HE : Hid ((x3 : Int) = ((x4 : Nat) : Int)) := hid (by rw [E4.out, if_pos e])
  go_wp2_with fail
  go_ret
  exact ⟨ret_i HE.out, hb3⟩
 ·have HE : Hid (((x3 ||| j2 : Nat) : Int) = ((x4 : Nat) : Int)) := hid (by rw [E4.out, if_neg e])
  have e2 := bne_iff_ne.2 e
  go_wp2_with fail
  refine (CJ2.out _ hb3).mono ?_
  rintro e w4 ⟨rfl, h4⟩
  have hb4 := below_then hb3 h4
  go_wp2_with fail
  go_ret
  exact ⟨ret_i HE.out, hb4⟩
end

section
open Go.RowKit
theorem all_congr {α : Type} {p q : α → Bool} : ∀ (l : List α), (∀ a ∈ l, p a = q a) → l.all p = l.all q
 | [], _ => rfl
 | a :: l, h => by rw [List.all_cons, List.all_cons, h a List.mem_cons_self, all_congr l (fun b hb => h b (List.mem_cons_of_mem _ hb))]
end

section
open Go.RowKit
theorem rivR_symm (h : List TxnV) (i k : Nat) : rivR h i k = rivR h k i := by
 unfold rivR
 congr 1
 funext n
 rw [Bool.and_comm]
theorem rivB_symm (h : List TxnV) (i k : Nat) : rivB h i k = rivB h k i := by
 unfold rivB
 rw [rivR_symm h i k, Bool.eq_iff_iff]
 simp only [Bool.and_eq_true, decide_eq_true_eq]
 exact ⟨fun ⟨a, b, c, d⟩ => ⟨b, a, fun e => c e.symm, d⟩, fun ⟨a, b, c, d⟩ => ⟨b, a, fun e => c e.symm, d⟩⟩
theorem baseN_bit {h : List TxnV} {C i j : Nat} (hi : i < 64) : (baseN h C i).testBit j = true ↔ j < 64 ∧ baseM h (C : Int) j i = true := by
 unfold baseN
 rw [seeTo_bit _ _ _ _ (Nat.le_refl 64), Bool.and_eq_true, decide_eq_true_eq]
 exact ⟨fun ⟨a, b⟩ => ⟨a, by rwa [hasR_nat _ _ _ a hi] at b⟩, fun ⟨a, b⟩ => ⟨a, by rw [hasR_nat _ _ _ a hi]; exact b⟩⟩
theorem rivN_bit {h : List TxnV} {i j : Nat} : (rivN h i).testBit j = true ↔ j < 64 ∧ rivB h i j = true := by
 unfold rivN
 rw [testBit_mkS, Bool.and_eq_true, decide_eq_true_eq]
theorem baseM_lt {h : List TxnV} {C j k : Nat} (hC : C < 9223372036854775808) (hj : j < 64) (hk : k < 64) (hb : baseM h (C : Int) j k = true) : j < h.length ∧ k < h.length := by
 rw [baseM_iff h C hC] at hb
 rcases hb with hb | ⟨_, hb⟩ | ⟨_, hb⟩
 ·exact ⟨((prsTo_iff _ _ j k hj hk _).1 hb).1, ((prsTo_iff _ _ j k hj hk _).1 hb).2.1⟩
 ·exact ⟨((prsTo_iff _ _ j k hj hk _).1 hb).1, ((prsTo_iff _ _ j k hj hk _).1 hb).2.1⟩
 ·exact ⟨((prsTo_iff _ _ j k hj hk _).1 hb).1, ((prsTo_iff _ _ j k hj hk _).1 hb).2.1⟩
def seesR (h : List TxnV) (C : Nat) (r : List Nat) : Mat := fun j k => (plSee h C r k).testBit j
section
variable {h : List TxnV} {C : Nat}
theorem RowG.drop : ∀ {p r : List Nat}, RowG h C (p ++ r) → RowG h C r
 | [], _, g => g
 | _ :: p, _, g => RowG.drop (p := p) g.tail
theorem aheadL_drop : ∀ {p r : List Nat}, (p ++ r).Nodup → ∀ {k : Nat}, k ∈ r → aheadL (p ++ r) k = aheadL r k
 | [], _, _, _, _ => rfl
 | i :: p, r, hn, k, hk => by
  obtain ⟨hi, hn'⟩ := List.nodup_cons.1 (show (i :: (p ++ r)).Nodup from hn)
  show aheadL (i :: (p ++ r)) k = _
  rw [aheadL_tail (fun e => hi (by rw [← e]; exact List.mem_append_right _ hk)), aheadL_drop hn' hk]
theorem sees_sound {r : List Nat} (g : RowG h C r) (hC : C < 9223372036854775808) : ∀ (r' p : List Nat), p ++ r' = r → ∀ j k, (plSee h C r' k).testBit j = true → Must (startM h (C : Int) (chainR (r.reverse.map Int.ofNat))) (chainR (r.reverse.map Int.ofNat)) (trB C) (pfB C) j k
 | [], _, _, j, k, hj => by unfold plSee at hj; simp at hj
 | i :: r', p, he, j, k, hj => by
  have ih := sees_sound g hC r' (p ++ [i]) (by rw [List.append_assoc]; exact he)
  by_cases e : k = i
  ·subst e
   have g2 : RowG h C (k :: r') := RowG.drop (p := p) (by rw [he]; exact g)
   have hk64 := g2.lt k (List.mem_cons_self ..)
   have hA : ∀ m, m ∈ k :: r' → aheadL r m = aheadL (k :: r') m := fun m hm => by
    rw [← he]; exact aheadL_drop (by rw [he]; exact g.nd) hm
   have hkn := (List.nodup_cons.1 g2.nd).1
   have hpl : ∀ j, (plS r').testBit j = true → chainR (r.reverse.map Int.ofNat) j k = true := fun j hj => by
    rw [ahead_chain g.nd g.lt, hA k (List.mem_cons_self ..), aheadL, if_pos rfl]; exact hj
   rw [plSee, if_pos rfl] at hj
   refine wld4_least (Y := fun j => Must (startM h (C : Int) (chainR (r.reverse.map Int.ofNat))) (chainR (r.reverse.map Int.ofNat)) (trB C) (pfB C) j k) ?_ ?_ ?_ ?_ ?_ hj
   ·intro j hj
    exact .base ((startM_iff h C hC _ j k).2 (.inl ((baseN_bit hk64).1 hj).2))
   ·intro hc j hj
    exact .base ((startM_iff h C hC _ j k).2 (.inr (.inr ⟨hc, hpl j hj⟩)))
   ·intro hc j hr hj
    refine .base ((startM_iff h C hC _ j k).2 (.inr (.inl ⟨hc, ?_⟩)))
    unfold rivM
    rw [hpl j hj, rivB_symm, (rivN_bit.1 hr).2]; rfl
   ·intro hc m j hm hY hj
    exact .trans (by rw [trB_bit C hC]; exact hc) hm (ih j m hj) hY
   ·intro hc m j hm hY hj
    refine .pre (by rw [pfB_bit C hC]; exact hc) hm ?_ hY
    have hm' : m ∈ r' := by
     by_cases q : m ∈ r'
     ·exact q
     ·rw [aheadL_out q] at hj; simp at hj
    have hne : m ≠ k := fun e => hkn (by rw [← e]; exact hm')
    rw [ahead_chain g.nd g.lt, hA m (List.mem_cons_of_mem _ hm'), aheadL_tail hne]; exact hj
  ·rw [plSee_tail e] at hj
   exact ih j k hj
theorem sees_least {r : List Nat} (g : RowG h C r) (hC : C < 9223372036854775808) (hall : ∀ k, k < h.length → k ∈ r) : LeastIs h C (r.reverse.map Int.ofNat) (seesR h C r) := by
 intro j k hj hk
 refine ⟨fun hs => sees_sound g hC r [] rfl j k hs, fun hm => ?_⟩
 obtain ⟨c1, c2⟩ := sees_closed g
 refine must_in (V := fun j k => (plSee h C r k).testBit j = true) ?_ ?_ ?_ hm hj hk
 ·intro j k hj hk hs
  rw [startM_iff h C hC] at hs
  rcases hs with hs | ⟨hc, hs⟩ | ⟨hc, hs⟩
  ·have hkr := hall k (baseM_lt hC hj hk hs).2
   rw [sees_fix g k hkr]
   exact wld4_base ((baseN_bit hk).2 ⟨hj, hs⟩)
  ·unfold rivM at hs
   rw [Bool.and_eq_true, ahead_chain g.nd g.lt] at hs
   have hkr : k ∈ r := by
    by_cases q : k ∈ r
    ·exact q
    ·rw [aheadL_out q] at hs; simp at hs
   rw [sees_fix g k hkr]
   exact wld4_riv hc (rivN_bit.2 ⟨hj, by rw [rivB_symm]; exact hs.2⟩) hs.1
  ·rw [ahead_chain g.nd g.lt] at hs
   have hkr : k ∈ r := by
    by_cases q : k ∈ r
    ·exact q
    ·rw [aheadL_out q] at hs; simp at hs
   rw [sees_fix g k hkr]
   exact wld4_all hc hs
 ·intro ht i m j _ _ _ h1 h2
  rw [trB_bit C hC] at ht
  exact c1 ht j m i h2 h1
 ·intro hp i m j _ _ _ h1 h2
  rw [pfB_bit C hC] at hp
  rw [ahead_chain g.nd g.lt] at h1
  exact c2 hp j m i h2 h1
end
theorem read_from {h : List TxnV} (hc : checkI h = 0) {k : Nat} (hk : k < h.length) {x : Int × Int} (hx : x ∈ readsOf h k) : x.2 = -1 ∨ ∃ n : Nat, n < h.length ∧ x.2 = (n : Int) ∧ n ≠ k ∧ (wrtN h x.1).testBit n = true := by
 rw [reads_same hc hk] at hx
 unfold rdR at hx
 obtain ⟨o, ho, rfl⟩ := List.mem_map.1 hx
 obtain ⟨ho1, ho2⟩ := List.mem_filter.1 ho
 obtain ⟨h1, h2⟩ := refReads_in ho1
 rcases reads_F (may_of hc) hk h1 h2 with ⟨h0, hn⟩ | ⟨h0, u, hu, hku, hw⟩
 ·left; unfold fromR; rw [if_pos h0]
 ·right
  obtain ⟨p, hp, hpv, hpk⟩ := real_wr h h.length (Nat.le_refl _) o.val u hu
  obtain ⟨t, ht, hpt, hpw⟩ := wrs_mem.1 hp
  obtain ⟨n, hn, rfl⟩ := List.getElem_of_mem ht
  have h3 := may_wr (may_of hc) hn hpt hpw
  rw [hpv, hu] at h3
  have h4 := Option.some.inj h3
  have hui : u.i = (n : Int) := by rw [h4]
  have hfr : fromR h o = (n : Int) := by unfold fromR; rw [if_neg h0, hw, hui]
  refine ⟨n, hn, hfr, ?_, ?_⟩
  ·rintro rfl
   rw [hfr] at ho2
   simp at ho2
  ·have h64 := (check_zero hc).1
   show (wrtN h o.key).testBit n = true
   unfold wrtN
   rw [testBit_mkS, decide_eq_true (show n < 64 by omega), decide_eq_true hn, Bool.true_and, Bool.true_and, decide_eq_true_eq, opsAt_eq hn]
   unfold keysOf
   rw [← hku, ← hpk]
   obtain ⟨a, b⟩ := (check_zero hc).2.2.2 _ (List.getElem_mem hn) p hpt
   obtain ⟨q, hq⟩ := Option.isSome_iff_exists.1 (lastW_some h[n].l hpw h[n].l.length (Nat.le_refl _) (by rw [List.take_length]; exact hpt))
   rw [List.take_length] at hq
   refine List.mem_map.2 ⟨q, upTo_mem.2 ⟨p.key.toNat, by omega, ?_⟩, (lastW_key hq).1⟩
   unfold wrK
   rw [Int.toNat_of_nonneg a]; exact hq
theorem from_base {h : List TxnV} {C : Nat} (hC : C < 9223372036854775808) (h64 : h.length ≤ 64) {k n : Nat} (hk : k < h.length) (hn : n < h.length) {x : Int × Int} (hx : x ∈ readsOf h k) (he : x.2 = (n : Int)) : (baseN h C k).testBit n = true := by
 rw [baseN_bit (by omega)]
 refine ⟨by omega, (baseM_iff h C hC n k).2 (.inl ?_)⟩
 refine (prsTo_iff (froP h) h.length n k (by omega) (by omega) h.length).2 ⟨hn, hk, ?_⟩
 unfold froP
 rw [List.any_eq_true]
 exact ⟨x, hx, by rw [he]; simp⟩
theorem readsP_congr {h : List TxnV} {aF aG : Nat → Nat} {s k : Nat} (hc : ∀ x ∈ readsOf h k, 0 ≤ x.2 → aF x.2.toNat = aG x.2.toNat) : readsP h aF s k = readsP h aG s k := by
 unfold readsP
 refine all_congr _ fun x hx => ?_
 unfold readP readW
 by_cases h0 : 0 ≤ x.2
 ·rw [if_pos h0, if_pos h0, hc x hx h0]
 ·rw [if_neg h0, if_neg h0]
def goodR (h : List TxnV) (C : Nat) (r : List Nat) : Prop := ∀ k ∈ r, (∀ j, (baseN h C k).testBit j = true → (aheadL r k).testBit j = true) ∧ readsP h (aheadL r) (plSee h C r k) k = true
section
variable {h : List TxnV} {C : Nat}
theorem reads_tail (hc : checkI h = 0) (hC : C < 9223372036854775808) {i k : Nat} {r : List Nat} (hi : i ∉ r) (hlt : ∀ a ∈ r, a < h.length) (hk : k < h.length) (hb : ∀ j, (baseN h C k).testBit j = true → (plS r).testBit j = true) (s : Nat) :
  readsP h (aheadL (i :: r)) s k = readsP h (aheadL r) s k := by
 have h64 := (check_zero hc).1
 refine readsP_congr fun x hx h0 => ?_
 rcases read_from hc hk hx with e | ⟨n, hn, e, _, _⟩
 ·omega
 ·have := plS_mem (fun a ha => by have := hlt a ha; omega) (hb n (from_base hC h64 hk hn hx e))
  rw [e, Int.toNat_natCast]
  exact aheadL_tail (fun q => hi (by rw [← q]; exact this))
theorem inB_bits {s t : Nat} (hs : IsSet s) : inB s t = true ↔ ∀ j, s.testBit j = true → t.testBit j = true := by
 rw [inB_iff hs]
 exact ⟨fun q j hj => q j (by by_cases e : j < 64; exact e; rw [hs.high (by omega)] at hj; cases hj) hj, fun q j _ hj => q j hj⟩
theorem good_cons (hc : checkI h = 0) (hC : C < 9223372036854775808) {i : Nat} {r : List Nat} (hi : i ∉ r) (hin : i < h.length) (hlt : ∀ a ∈ r, a < h.length) : goodR h C (i :: r) ↔ goodR h C r ∧ tryP h C r i = true := by
 have h64 := (check_zero hc).1
 have hlt64 : ∀ a ∈ r, a < 64 := fun a ha => by have := hlt a ha; omega
 have key : ∀ k ∈ r, k ≠ i := fun k hk e => hi (by rw [← e]; exact hk)
 constructor
 ·intro g
  constructor
  ·intro k hk
   obtain ⟨g1, g2⟩ := g k (List.mem_cons_of_mem _ hk)
   rw [aheadL_tail (key k hk)] at g1
   refine ⟨g1, ?_⟩
   rw [plSee_tail (key k hk), reads_tail hc hC hi hlt (hlt k hk) (fun j hj => ahead_in hlt64 (g1 j hj))] at g2
   exact g2
  ·obtain ⟨g1, g2⟩ := g i (List.mem_cons_self ..)
   rw [aheadL, if_pos rfl] at g1
   rw [plSee, if_pos rfl, reads_tail hc hC hi hlt hin g1] at g2
   unfold tryP nextN
   rw [decide_eq_true hin, decide_eq_false hi, (inB_bits (baseN_set h C i)).2 g1, g2]; rfl
 ·rintro ⟨g, ht⟩
  unfold tryP at ht
  simp only [Bool.and_eq_true] at ht
  obtain ⟨_, _, g1, g2⟩ := ht
  have g1 := (inB_bits (baseN_set h C i)).1 g1
  intro k hk
  by_cases e : k = i
  ·subst e
   rw [aheadL, if_pos rfl]
   refine ⟨g1, ?_⟩
   rw [plSee, if_pos rfl, reads_tail hc hC hi hlt hin g1]
   exact g2
  ·have hkr : k ∈ r := by rcases List.mem_cons.1 hk with q | q; exact (e q).elim; exact q
   obtain ⟨q1, q2⟩ := g k hkr
   rw [aheadL_tail e]
   refine ⟨q1, ?_⟩
   rw [plSee_tail e, reads_tail hc hC hi hlt (hlt k hkr) (fun j hj => ahead_in hlt64 (q1 j hj))]
   exact q2
def allT (h : List TxnV) (C : Nat) : List Nat → List Nat → Bool
 | _, [] => true
 | r, i :: l => tryP h C r i && allT h C (i :: r) l
theorem good_drop (hc : checkI h = 0) (hC : C < 9223372036854775808) : ∀ {p r : List Nat}, (p ++ r).Nodup → (∀ a ∈ p ++ r, a < h.length) → goodR h C (p ++ r) → goodR h C r
 | [], _, _, _, g => g
 | i :: p, r, hn, hlt, g => by
  obtain ⟨hi, hn'⟩ := List.nodup_cons.1 (show (i :: (p ++ r)).Nodup from hn)
  have hlt' : ∀ a ∈ p ++ r, a < h.length := fun a ha => hlt a (List.mem_cons_of_mem _ ha)
  exact good_drop hc hC hn' hlt' ((good_cons hc hC hi (hlt i (List.mem_cons_self ..)) hlt').1 g).1
theorem allT_iff (hc : checkI h = 0) (hC : C < 9223372036854775808) : ∀ (l r : List Nat), (l.reverse ++ r).Nodup → (∀ a ∈ l.reverse ++ r, a < h.length) → goodR h C r → (allT h C r l = true ↔ goodR h C (l.reverse ++ r))
 | [], r, _, _, g => ⟨fun _ => g, fun _ => rfl⟩
 | i :: l, r, hn, hlt, g => by
  have e : (i :: l).reverse ++ r = l.reverse ++ (i :: r) := by simp
  rw [e] at hn hlt ⊢
  have hn2 : (i :: r).Nodup := (List.nodup_append.1 hn).2.1
  have hi := (List.nodup_cons.1 hn2).1
  have hin := hlt i (List.mem_append_right _ (List.mem_cons_self ..))
  have hltr : ∀ a ∈ r, a < h.length := fun a ha => hlt a (List.mem_append_right _ (List.mem_cons_of_mem _ ha))
  unfold allT
  rw [Bool.and_eq_true]
  constructor
  ·rintro ⟨ht, ha⟩
   exact (allT_iff hc hC l (i :: r) hn hlt ((good_cons hc hC hi hin hltr).2 ⟨g, ht⟩)).1 ha
  ·intro g2
   have g3 := good_drop hc hC hn hlt g2
   exact ⟨((good_cons hc hC hi hin hltr).1 g3).2, (allT_iff hc hC l (i :: r) hn hlt g3).2 g2⟩
theorem last_is {f : Nat} {S : Nat} (hS : S.testBit f = true) : ∀ {r : List Nat}, r.Nodup → (∀ k ∈ r, k < 64) → f ∈ r → (∀ j, S.testBit j = true → j ∈ r) → (lastI (r.reverse.map Int.ofNat) S = (f : Int) ↔ ∀ j, S.testBit j = true → j = f ∨ (aheadL r f).testBit j = true) := by
 intro r
 induction r with
 | nil => intro _ _ hf _; cases hf
 | cons i r ih =>
  intro hnd hlt hf hin
  obtain ⟨hi, hnd'⟩ := List.nodup_cons.1 hnd
  have hi64 := hlt i (List.mem_cons_self ..)
  have hlt' : ∀ a ∈ r, a < 64 := fun a ha => hlt a (List.mem_cons_of_mem _ ha)
  rw [List.reverse_cons, List.map_append, List.map_cons, List.map_nil, lastI_snoc, show Int.ofNat i = (i : Int) from rfl, hasB_nat hi64]
  by_cases hs : S.testBit i = true
  ·rw [if_pos hs]
   by_cases e : f = i
   ·subst e
    refine ⟨fun _ j hj => ?_, fun _ => rfl⟩
    rw [aheadL, if_pos rfl, plS_bit j r hlt', decide_eq_true_eq]
    exact List.mem_cons.1 (hin j hj)
   ·constructor
    ·intro q; exact (e (Int.ofNat.inj q).symm).elim
    ·intro q
     rcases q i hs with q | q
     ·exact (e q.symm).elim
     ·rw [aheadL_tail e] at q
      exact (hi (aheadL_mem hlt' q)).elim
  ·rw [if_neg hs]
   have e : f ≠ i := fun e => hs (by rw [← e]; exact hS)
   have hfr : f ∈ r := by rcases List.mem_cons.1 hf with q | q; exact (e q).elim; exact q
   rw [ih hnd' hlt' hfr (fun j hj => by
    rcases List.mem_cons.1 (hin j hj) with q | q
    ·exact (hs (by rw [← q]; exact hj)).elim
    ·exact q), aheadL_tail e]
theorem last_none {S : Nat} : ∀ {r : List Nat}, (∀ k ∈ r, k < 64) → (∀ j, S.testBit j = true → j ∈ r) → (lastI (r.reverse.map Int.ofNat) S = -1 ↔ S = 0) := by
 intro r
 induction r with
 | nil =>
  intro _ hin
  refine ⟨fun _ => ?_, fun _ => rfl⟩
  apply Nat.eq_of_testBit_eq
  intro j
  cases e : S.testBit j with
  | false => simp
  | true => cases hin j e
 | cons i r ih =>
  intro hlt hin
  have hi64 := hlt i (List.mem_cons_self ..)
  have hlt' : ∀ a ∈ r, a < 64 := fun a ha => hlt a (List.mem_cons_of_mem _ ha)
  rw [List.reverse_cons, List.map_append, List.map_cons, List.map_nil, lastI_snoc, show Int.ofNat i = (i : Int) from rfl, hasB_nat hi64]
  by_cases hs : S.testBit i = true
  ·rw [if_pos hs]
   constructor
   ·intro q; exact absurd q (by omega)
   ·intro q; rw [q] at hs; simp at hs
  ·rw [if_neg hs]
   exact ih hlt' (fun j hj => by
    rcases List.mem_cons.1 (hin j hj) with q | q
    ·exact (hs (by rw [← q]; exact hj)).elim
    ·exact q)
theorem read_last (hc : checkI h = 0) {r : List Nat} (hnd : r.Nodup) (hlt : ∀ k ∈ r, k < 64) {k s : Nat} (hk : k < h.length) (hs : ∀ j, s.testBit j = true → j ∈ r) {x : Int × Int} (hx : x ∈ readsOf h k) (hfs : ∀ n : Nat, x.2 = (n : Int) → s.testBit n = true) :
  decide (lastI (r.reverse.map Int.ofNat) (s &&& wrtN h x.1) = x.2) = readP h (aheadL r) s x := by
 have h64 := (check_zero hc).1
 unfold readP readW
 rw [decide_eq_decide]
 have hsW : ∀ j, (s &&& wrtN h x.1).testBit j = true → j ∈ r := fun j hj => by rw [Nat.testBit_and, Bool.and_eq_true] at hj; exact hs j hj.1
 rcases read_from hc hk hx with e | ⟨n, hn, e, hne, hw⟩
 ·rw [e, if_neg (by omega)]
  exact last_none hlt hsW
 ·have hsn := hfs n e
  rw [e, if_pos (by omega), Int.toNat_natCast, last_is (by rw [Nat.testBit_and, hsn, hw]; rfl) hnd hlt (hs n hsn) hsW]
  generalize s &&& wrtN h x.1 = T at *
  constructor
  ·intro q
   unfold lackN
   apply Nat.eq_of_testBit_eq
   intro j
   rw [Nat.testBit_xor, Nat.testBit_and, testBit_withS, Int.toNat_natCast, Nat.zero_testBit]
   cases hj : T.testBit j with
   | false => simp
   | true =>
    rcases q j hj with q | q
    ·subst q
     have : decide (0 ≤ (j : Int) ∧ (j : Int) < 64) = true := by simp; omega
     rw [this]; simp
    ·rw [q]; simp
  ·intro q j hj
   have := congrArg (fun z => z.testBit j) q
   simp only [lackN] at this
   rw [Nat.testBit_xor, Nat.testBit_and, testBit_withS, Int.toNat_natCast, Nat.zero_testBit, hj] at this
   cases ha : (aheadL r n).testBit j with
   | true => exact .inr rfl
   | false =>
    rw [ha] at this
    have h2 : (decide (0 ≤ (n : Int) ∧ (n : Int) < 64) && decide (n = j)) = true := by simpa using this
    rw [Bool.and_eq_true, decide_eq_true_eq, decide_eq_true_eq] at h2
    exact .inl h2.2.symm
end
end

section
open Go.RowKit
theorem ordis_rd {w : World} {B b : Nat} {h : List TxnV} (hO : OrdIs w B b h) (hc : checkI h = 0) {i : Nat} (hi : i < h.length) : ∃ bm g o rcap ao cap, w.cell? ⟨B, 193, none⟩ = some (.map (some bm)) ∧ w.cell? ⟨B, 195, none⟩ = some (.slice (some ⟨g, o, none⟩) h.length rcap) ∧
  w.cell? ⟨g, o + i, none⟩ = some (.slice ao (readsOf h i).length cap) ∧ Frs w (.slice ao (readsOf h i).length cap) (readsOf h i) ∧ bm < w.heap.size ∧
  ∀ wx, Below w.heap.size w wx → ∀ y, InI y → Sem.run Tryz.prog (Instr.lookup 109 (.map (some bm)) (.int .i64 y) false) wx = .ok (.int .u64 ((wrtN h y : Nat) : Int)) wx := by
 obtain ⟨bm, m, c, vk, vr, K, R, h1, h2, h3, h4, h5, h6⟩ := hO
 have hl : R.length = h.length := by have := congrArg List.length h6; simpa [readsTo] using this
 have hF := h4.frws
 obtain ⟨⟨hlen, ro, rcap, rfl, hm, hno, hcc⟩, hE⟩ := hF
 obtain ⟨g, o, rfl, hcell⟩ := hcc (by omega)
 have hiR : i < R.length := by omega
 have he : R[i].2 = readsOf h i := by
  have := congrArg (·[i]?) h6
  simp only [List.getElem?_map, List.getElem?_eq_getElem hiR, readsTo, List.getElem?_range hi, Option.map_some] at this
  exact Option.some.inj this
 have hfr := hE _ (List.getElem_mem hiR)
 rw [he] at hfr
 obtain ⟨ao, cap, e, _⟩ := hfr.form
 have hcR := h1.cR
 rw [hl] at hcR
 refine ⟨bm, g, o, rcap, ao, cap, h1.cM, hcR, ?_, by rw [← e]; exact hfr, h2.lt, fun wx hx y hy => ?_⟩
 ·rw [hcell i (by omega), List.getElem?_map, List.getElem?_eq_getElem hiR, ← e]; rfl
 ·have hK := lookI_run (t := 109) (el := 106) (w := wx) false keyI mapIS 0 (zeroS _) (h2.below hx) hy
  rw [wrt_eq hc h5 h3 y] at hK
  simpa only [Bool.false_eq_true, if_false, eS] using hK
theorem all_take {α : Type} {l : List α} {f : α → Bool} {k : Nat} (hk : k < l.length) (hp : (l.take k).all f = true) (hy : f l[k] = true) : (l.take (k + 1)).all f = true := by
 rw [List.take_succ_eq_append_getElem hk, List.all_append, hp]; simp [hy]
theorem all_no {α : Type} {l : List α} {f : α → Bool} {k : Nat} (hk : k < l.length) (hn : f l[k] = false) : l.all f = false := by
 rw [List.all_eq_false]
 exact ⟨_, List.getElem_mem hk, by rw [hn]; simp⟩
theorem preads_any {W : World} {S B b : Nat} {h : List TxnV} {C : Nat} {r : List Nat} {vb vr : Value} {aF sF : Nat → Nat} {w : World} (p : PlIs W S B b h C r vb vr aF sF w) (hc : checkI h = 0) (i : Nat) (hi : i < h.length) (s : Nat) (hs : IsSet s) :
  Calls Tryz.prog 232 #[.pointer (some ⟨S, 0, none⟩), .int .i64 i, .int .u64 (s : Int)] w fun e w' => e = .returned (.bool (readsP h aF s i)) ∧ Below w.heap.size w w' := by
 have HR : Hid (readsP h aF s i = (readsOf h i).all (readP h aF s)) := hid rfl
 have h64 := (check_zero hc).1
 have hii : (i : Int) < (h.length : Int) := by omega
 obtain ⟨bm, g, o, rcap, ao, cap, n1, n2, n3, hfr, _, hlook⟩ := ordis_rd p.ord hc hi
 have n0 := p.a.cO
 have HF := hid (fun wx (hx : Below w.heap.size w wx) => hfr.below hx)
 have HP := hid (fun wx (hx : Below w.heap.size w wx) => And.intro (p.below hx).a.cO ((hx.cell (p := ⟨B, 193, none⟩) (block_lt n1)).trans n1))
 have HLK := hid hlook
 have HA := hid (fun wx (hx : Below w.heap.size w wx) k (hk : k < 64) => (p.below hx).a.cA hk)
 have HAS := hid (fun k (hk : k < 64) => (p.set k hk).1)
 have HKEY := hid (fun r (hr : r ∈ readsOf h i) => reads_key hc hi hr)
 have HFR : Hid (∀ r ∈ readsOf h i, r.2 < 64) := hid (fun r hr => by
  rcases read_from hc hi hr with e | ⟨n, hn, e, _⟩
  ·omega
  ·omega)
 have HW := hid (fun y => wrtN_set h y)
 have hb0 := Below.refl w.heap.size w
 obtain ⟨_, _, _, hri⟩ := hfr.form
 clear p hfr hlook hc n1 hi h64
 go_enter Tryz.func232, Tryz.ntmps232
 go_wp2_with fail
 clear n0 n2 n3
 go_loopw [21] (fun j wx => ∃ k : Nat, k ≤ (readsOf h i).length ∧ j = .int .i64 k ∧ Hid (((readsOf h i).take k).all (readP h aF s) = true) ∧ Below w.heap.size w wx) (fun j _ => (readsOf h i).length - (intOf j).toNat)
 case atStart => exact ⟨0, by omega, rfl, hid rfl, hb0⟩
 case round =>
  clear hb0
  obtain ⟨k, hk, rfl, HRO, hbk⟩ := hrel
  by_cases hlk : k < (readsOf h i).length
  ·have hkk : (k : Int) < ((readsOf h i).length : Int) := by omega
   obtain ⟨gk, ok, hao, e0, e1⟩ := (HF.out _ hbk).at hlk
   cases hao
   have hkey := HKEY.out _ (List.getElem_mem hlk)
   have hrf := HFR.out _ (List.getElem_mem hlk)
   have HYE := hid (fun hy => all_take (f := readP h aF s) hlk HRO.out hy)
   have HNO := hid (fun hn => all_no (f := readP h aF s) hlk hn)
   have HRD : Hid (readP h aF s (readsOf h i)[k] = decide (readW h aF s (readsOf h i)[k] = 0)) := hid rfl
   generalize readP h aF s (readsOf h i)[k] = rb at *
   generalize (readsOf h i)[k] = rr at *
   obtain ⟨rk, rf⟩ := rr
   simp only at e0 e1 hkey HRD hrf
   have hkI : InI rk := inI_of (by unfold IntOk; omega)
   have hset := HW.out rk
   have HWE : Hid (readW h aF s (rk, rf) = if 0 ≤ rf then lackN (s &&& wrtN h rk) (withS (aF rf.toNat) rf) else s &&& wrtN h rk) := hid rfl
   have HLK2 := hid (fun wx (hx : Below w.heap.size w wx) => HLK.out wx hx rk hkI)
   generalize readW h aF s (rk, rf) = z at *
   generalize wrtN h rk = x at *
   have hand := Go.bits_and_u64_nat _ _ hs hset
   have hsx : IsSet (s &&& x) := isSet_and hs
   generalize s &&& x = sx at *
   have hbq := hbk.alloc hbk.size (.cells #[.int .i64 rk, .int .i64 rf] 121)
   obtain ⟨d0, d1⟩ : (wr.alloc (.cells #[.int .i64 rk, .int .i64 rf] 121)).cell? ⟨wr.heap.size, 0, none⟩ = some (.int .i64 rk) ∧ (wr.alloc (.cells #[.int .i64 rk, .int .i64 rf] 121)).cell? ⟨wr.heap.size, 1, none⟩ = some (.int .i64 rf) := by
    constructor <;> (rw [cell_of_row _ _ _ _ _ _ (heap_alloc_new wr _)]; rfl)
   go_upto_region 4 with fail
   clear e0 e1 hbk hkI hset
   generalize wr.alloc (.cells #[.int .i64 rk, .int .i64 rf] 121) = w5 at *
   generalize wr.heap.size = q at *
   have HBQ := hid (fun wx (hx : Below w5.heap.size w5 wx) => hbq.trans (hx.mono hbq.size))
   have HS := hid (fun wx (hx : Below w5.heap.size w5 wx) => And.intro (HP.out wx (hbq.trans (hx.mono hbq.size))) (And.intro ((hx.cell (p := ⟨q, 0, none⟩) (block_lt d0)).trans d0) (And.intro ((hx.cell (p := ⟨q, 1, none⟩) (block_lt d1)).trans d1) (HLK2.out wx (hbq.trans (hx.mono hbq.size))))))
   have kd := (Below.refl w5.heap.size w5).drew
   clear d0 d1 hbq
   refine wp_region_held_drew (S := Below w5.heap.size w5) (by kernel_rfl) kd (fun hS0 => ?_)
   refine tG (some 25) 0 ?vra0 rfl rfl (Or.inl ⟨by rfl, ?hra0⟩) hS0 ?rra0
   case hra0 => (intro w hw; obtain ⟨⟨m0, m1⟩, m2, m3, m4⟩ := HS.out _ hw; go_simp; try (with_reducible rfl))
   try simp only [Act.put, zA, zB, zC]
   refine tG (some 26) 1 ?vra1 rfl rfl (Or.inl ⟨by rfl, ?hra1⟩) hS0 ?rra1
   case hra1 => (intro w hw; obtain ⟨⟨m0, m1⟩, m2, m3, m4⟩ := HS.out _ hw; go_simp; try (with_reducible rfl))
   try simp only [Act.put, zA, zB, zC]
   refine tG (some 27) 2 ?vra2 rfl rfl (Or.inl ⟨by rfl, ?hra2⟩) hS0 ?rra2
   case hra2 => (intro w hw; obtain ⟨⟨m0, m1⟩, m2, m3, m4⟩ := HS.out _ hw; go_simp; try (with_reducible rfl))
   try simp only [Act.put, zA, zB, zC]
   refine tG (some 28) 3 ?vra3 rfl rfl (Or.inl ⟨by rfl, ?hra3⟩) hS0 ?rra3
   case hra3 => (intro w hw; obtain ⟨⟨m0, m1⟩, m2, m3, m4⟩ := HS.out _ hw; go_simp; try (with_reducible rfl))
   try simp only [Act.put, zA, zB, zC]
   refine tG (some 29) 4 ?vra4 rfl rfl (Or.inl ⟨by rfl, ?hra4⟩) hS0 ?rra4
   case hra4 => (intro w hw; obtain ⟨⟨m0, m1⟩, m2, m3, m4⟩ := HS.out _ hw; go_simp; try (with_reducible rfl))
   try simp only [Act.put, zA, zB, zC]
   refine tG (some 30) 5 ?vra5 rfl rfl (Or.inl ⟨by rfl, ?hra5⟩) hS0 ?rra5
   case hra5 => (intro w hw; obtain ⟨⟨m0, m1⟩, m2, m3, m4⟩ := HS.out _ hw; go_simp; try (with_reducible rfl))
   try simp only [Act.put, zA, zB, zC]
   refine tG (some 31) 6 ?vra6 rfl rfl (Or.inl ⟨by rfl, ?hra6⟩) hS0 ?rra6
   case hra6 => (intro w hw; obtain ⟨⟨m0, m1⟩, m2, m3, m4⟩ := HS.out _ hw; go_simp; try (with_reducible rfl))
   try simp only [Act.put, zA, zB, zC]
   refine tG (some 32) 7 ?vra7 rfl rfl (Or.inl ⟨by rfl, ?hra7⟩) hS0 ?rra7
   case hra7 => (intro w hw; obtain ⟨⟨m0, m1⟩, m2, m3, m4⟩ := HS.out _ hw; go_simp; try (with_reducible rfl))
   try simp only [Act.put, zA, zB, zC]
   refine tG (some 33) 8 ?vra8 rfl rfl (Or.inl ⟨by rfl, ?hra8⟩) hS0 ?rra8
   case hra8 => (intro w hw; obtain ⟨⟨m0, m1⟩, m2, m3, m4⟩ := HS.out _ hw; go_simp; try (with_reducible rfl))
   try simp only [Act.put, zA, zB, zC]
   refine tG (some 34) 9 ?vra9 rfl rfl (Or.inl ⟨by rfl, ?hra9⟩) hS0 ?rra9
   case hra9 => (intro w hw; obtain ⟨⟨m0, m1⟩, m2, m3, m4⟩ := HS.out _ hw; go_simp; try (with_reducible rfl))
   try simp only [Act.put, zA, zB, zC]
   refine tG (some 35) 10 ?vra10 rfl rfl (Or.inl ⟨by rfl, ?hra10⟩) hS0 ?rra10
   case hra10 => (intro w hw; obtain ⟨⟨m0, m1⟩, m2, m3, m4⟩ := HS.out _ hw; go_simp; try (with_reducible rfl))
   try simp only [Act.put, zA, zB, zC]
   refine tG (some 36) 11 ?vra11 rfl rfl (Or.inl ⟨by rfl, ?hra11⟩) hS0 ?rra11
   case hra11 => (intro w hw; obtain ⟨⟨m0, m1⟩, m2, m3, m4⟩ := HS.out _ hw; go_simp; try (with_reducible rfl))
   try simp only [Act.put, zA, zB, zC]
   refine tG (some 9) 12 ?vra12 rfl rfl (Or.inl ⟨by rfl, ?hra12⟩) hS0 ?rra12
   case hra12 => (intro w hw; obtain ⟨⟨m0, m1⟩, m2, m3, m4⟩ := HS.out _ hw; go_simp; try (with_reducible rfl))
   try simp only [Act.put, zA, zB, zC]
   refine wpAnyH_done (by kernel_rfl) ?_ _
   clear hand
   obtain ⟨⟨m0, m1⟩, m2, m3, m4⟩ := HS.out _ kd
   clear m4 m1
   go_upto_if 39 with fail
   go_cut [9] from 37 to 51 (fun v wx => v = .int .u64 (z : Int) ∧ Below w5.heap.size w5 wx)
   case first =>
    by_cases h0 : 0 ≤ rf
    ·obtain ⟨n, rfl⟩ := Int.eq_ofNat_of_zero_le h0
     have hn64 : n < 64 := by omega
     have hni : (n : Int) < 64 := by omega
     have hAn := HAS.out n hn64
     have CW := hid (fun wx => with_any (aF n) (n : Int) wx hAn)
     have HE : Hid (bits .andNot .u64 (sx : Int) ((withS (aF n) (n : Int) : Nat) : Int) = (z : Int)) := hid (by
      rw [bits_andNot_u64_nat _ _ hsx (isSet_withS hAn), HWE.out, if_pos h0, Int.toNat_natCast]; rfl)
     have HS3 := hid (fun wx (hx : Below w5.heap.size w5 wx) => And.intro (HS.out wx hx) (HA.out wx (HBQ.out wx hx) n hn64))
     generalize withS (aF n) (n : Int) = y at *
     generalize aF n = an at *
     clear m0 m2 hAn HWE HRD HYE HNO HS HA HAS
     go_upto_region 6 with fail
     refine wp_region_held_drew (S := Below w5.heap.size w5) (by kernel_rfl) kd.drew (fun hS0 => ?_)
     refine tG (some 40) 0 ?vrb0 rfl rfl (Or.inl ⟨by rfl, ?hrb0⟩) hS0 ?rrb0
     case hrb0 => (intro w hw; obtain ⟨⟨⟨m0, m1⟩, m2, m3, _⟩, m5⟩ := HS3.out _ hw; go_simp; try (with_reducible rfl))
     try simp only [Act.put, zA, zB, zC]
     refine tG (some 41) 1 ?vrb1 rfl rfl (Or.inl ⟨by rfl, ?hrb1⟩) hS0 ?rrb1
     case hrb1 => (intro w hw; obtain ⟨⟨⟨m0, m1⟩, m2, m3, _⟩, m5⟩ := HS3.out _ hw; go_simp; try (with_reducible rfl))
     try simp only [Act.put, zA, zB, zC]
     refine tG (some 42) 2 ?vrb2 rfl rfl (Or.inl ⟨by rfl, ?hrb2⟩) hS0 ?rrb2
     case hrb2 => (intro w hw; obtain ⟨⟨⟨m0, m1⟩, m2, m3, _⟩, m5⟩ := HS3.out _ hw; go_simp; try (with_reducible rfl))
     try simp only [Act.put, zA, zB, zC]
     refine tG (some 43) 3 ?vrb3 rfl rfl (Or.inl ⟨by rfl, ?hrb3⟩) hS0 ?rrb3
     case hrb3 => (intro w hw; obtain ⟨⟨⟨m0, m1⟩, m2, m3, _⟩, m5⟩ := HS3.out _ hw; go_simp; try (with_reducible rfl))
     try simp only [Act.put, zA, zB, zC]
     refine tG (some 44) 4 ?vrb4 rfl rfl (Or.inl ⟨by rfl, ?hrb4⟩) hS0 ?rrb4
     case hrb4 => (intro w hw; obtain ⟨⟨⟨m0, m1⟩, m2, m3, _⟩, m5⟩ := HS3.out _ hw; go_simp; try (with_reducible rfl))
     try simp only [Act.put, zA, zB, zC]
     refine tG (some 45) 5 ?vrb5 rfl rfl (Or.inl ⟨by rfl, ?hrb5⟩) hS0 ?rrb5
     case hrb5 => (intro w hw; obtain ⟨⟨⟨m0, m1⟩, m2, m3, _⟩, m5⟩ := HS3.out _ hw; go_simp; try (with_reducible rfl))
     try simp only [Act.put, zA, zB, zC]
     refine tG (some 46) 6 ?vrb6 rfl rfl (Or.inl ⟨by rfl, ?hrb6⟩) hS0 ?rrb6
     case hrb6 => (intro w hw; obtain ⟨⟨⟨m0, m1⟩, m2, m3, _⟩, m5⟩ := HS3.out _ hw; go_simp; try (with_reducible rfl))
     try simp only [Act.put, zA, zB, zC]
     refine tG (some 47) 7 ?vrb7 rfl rfl (Or.inl ⟨by rfl, ?hrb7⟩) hS0 ?rrb7
     case hrb7 => (intro w hw; obtain ⟨⟨⟨m0, m1⟩, m2, m3, _⟩, m5⟩ := HS3.out _ hw; go_simp; try (with_reducible rfl))
     try simp only [Act.put, zA, zB, zC]
     refine tG (some 48) 8 ?vrb8 rfl rfl (Or.inl ⟨by rfl, ?hrb8⟩) hS0 ?rrb8
     case hrb8 => (intro w hw; obtain ⟨⟨⟨m0, m1⟩, m2, m3, _⟩, m5⟩ := HS3.out _ hw; go_simp; try (with_reducible rfl))
     try simp only [Act.put, zA, zB, zC]
     refine tG (some 49) 9 ?vrb9 rfl rfl (Or.inl ⟨by rfl, ?hrb9⟩) hS0 ?rrb9
     case hrb9 => (intro w hw; obtain ⟨⟨⟨m0, m1⟩, m2, m3, _⟩, m5⟩ := HS3.out _ hw; go_simp; try (with_reducible rfl))
     try simp only [Act.put, zA, zB, zC]
     refine rD 10 rfl (fun K hK => ?_)
     go_simp
     refine (CW.out _).mono ?_
     rintro e y1 ⟨rfl, rfl⟩
     show K _ _
     refine hK.out _ _ hS0 (fun _ => ?_)
     clear hK K
     refine tG (some 51) 11 ?vrb11 rfl rfl (Or.inl ⟨by rfl, ?hrb11⟩) hS0 ?rrb11
     case hrb11 => (intro w hw; obtain ⟨⟨⟨m0, m1⟩, m2, m3, _⟩, m5⟩ := HS3.out _ hw; go_simp; try (with_reducible rfl))
     try simp only [Act.put, zA, zB, zC]
     refine tG (some 9) 12 ?vrb12 rfl rfl (Or.inl ⟨by rfl, ?hrb12⟩) hS0 ?rrb12
     case hrb12 => (intro w hw; obtain ⟨⟨⟨m0, m1⟩, m2, m3, _⟩, m5⟩ := HS3.out _ hw; go_simp; try (with_reducible rfl))
     try simp only [Act.put, zA, zB, zC]
     refine wpAnyH_done (by kernel_rfl) ?_ _
     rw [HE.out]
     go_wp2_with fail
     go_meet
     exact ⟨rfl, hS0⟩
    ·have HE : Hid (sx = z) := hid (by rw [HWE.out, if_neg h0])
     have h0 : ¬ (0 : Int) ≤ rf := h0
     go_wp2_with fail
     go_meet
     exact ⟨by rw [HE.out], kd⟩
   obtain ⟨rfl, hb6⟩ := hcut
   generalize wc = w6 at *
   have hbz := HBQ.out _ hb6
   clear m0 m2 m3 HS HBQ kd HWE HLK2
   by_cases hz : z = 0
   ·have HY := hid (HYE.out (by rw [HRD.out, decide_eq_true hz]))
    have hzi : (z : Int) = 0 := by omega
    clear HYE HNO HRD hz
    go_wp2_with fail
    go_roundw
    case rel => exact ⟨k + 1, by omega, by go_num, HY, hbz⟩
    case measure => simp [intOf]; omega
   ·have HY : Hid (false = readsP h aF s i) := hid (by rw [HR.out, HNO.out (by rw [HRD.out, decide_eq_false hz])])
    have hzi : ¬ (z : Int) = 0 := by omega
    clear HYE HNO HRD hz
    go_wp2_with fail
    go_ret
    exact ⟨ret_b HY.out, hbz⟩
  ·have hk2 : k = (readsOf h i).length := by omega
   subst hk2
   have HY : Hid (true = readsP h aF s i) := hid (by rw [HR.out]; have := HRO.out; rw [List.take_length] at this; exact this.symm)
   go_wp2_with fail
   go_ret
   exact ⟨ret_b HY.out, hbk⟩
end

section
open Go.RowKit
section
variable {W : World} {S B b : Nat} {h : List TxnV} {C : Nat} {r : List Nat} {vb vr : Value} {aF sF : Nat → Nat} {w : World}
theorem tryI_nat (h : List TxnV) (C : Nat) (r : List Nat) (i : Nat) : tryI h C r (i : Int) = tryP h C r i := by unfold tryI; rw [Int.toNat_natCast, decide_eq_true (Int.natCast_nonneg i), Bool.true_and]
theorem PlIs.actual (p : PlIs W S B b h C r vb vr aF sF w) (h64 : h.length ≤ 64) {i : Nat} (hb : ∀ j, (baseN h C i).testBit j = true → (plS r).testBit j = true) : wld4 (baseN h C i) (plS r) (rivN h i) C sF aF = nextN h C r i := by
 have hlt : ∀ k ∈ r, k < 64 := fun k hk => by have := p.lt k hk; omega
 refine wld4_congr hb (fun k hk hp => ?_) (fun k j hp hj => ?_)
 ·have := p.eq k (plS_mem hlt hp)
  exact ⟨this.2, this.1⟩
 ·rw [(p.eq k (plS_mem hlt hp)).2] at hj
  exact ahead_in hlt (sees_ahead hlt p.nd p.base hj)
theorem PlIs.readsEq (p : PlIs W S B b h C r vb vr aF sF w) (hc : checkI h = 0) (hC : C < 9223372036854775808) {i : Nat} (hi : i < h.length) (hb : ∀ j, (baseN h C i).testBit j = true → (plS r).testBit j = true) (s : Nat) : readsP h aF s i = readsP h (aheadL r) s i := by
 have h64 := (check_zero hc).1
 refine readsP_congr fun x hx h0 => ?_
 rcases read_from hc hi hx with e | ⟨n, hn, e, _, _⟩
 ·omega
 ·have := plS_mem (fun a ha => by have := p.lt a ha; omega) (hb n (from_base hC h64 hi hn hx e))
  rw [e, Int.toNat_natCast]
  exact (p.eq n this).1
theorem PlIs.bcell (p : PlIs W S B b h C r vb vr aF sF w) {i : Nat} (hi : i < h.length) : ∃ gb ob cb, vb = .slice (some ⟨gb, ob, none⟩) h.length cb ∧ w.cell? ⟨gb, ob + i, none⟩ = some (.int .u64 ((baseN h C i : Nat) : Int)) := by
 obtain ⟨hl, ao, cap, e, hm, hno, hcl⟩ := Row.of_owns p.ba
 obtain ⟨g, off, e2, hcell⟩ := hcl (by omega)
 refine ⟨g, off, cap, by rw [e, e2], ?_⟩
 rw [hcell i (by omega), List.getElem?_map, List.getElem?_range hi]; rfl
theorem ptry_no (p : PlIs W S B b h C r vb vr aF sF w) (hc : checkI h = 0) (hC : C < 9223372036854775808) (i : Int) (hn : tryI h C r i = false) : Calls Tryz.prog 174 #[.pointer (some ⟨S, 0, none⟩), .int .i64 i] w fun e w' => e = .returned (.bool false) ∧ Below w.heap.size w w' := by
 have h64 := (check_zero hc).1
 have n0 := p.a.cO
 have n2 := p.a.cB
 have n4 := p.a.cP
 have nB := p.ord.blk.cN
 by_cases h0 : 0 ≤ i
 rotate_left
 ·have h0' : i < 0 := by omega
  have hd : decide (i < 0) = true := decide_eq_true h0'
  clear p hn hc
  go_enter Tryz.func174, Tryz.ntmps174
  go_wp2_with fail
  go_quiet (fail)
  go_wp2_with fail
  go_ret
  exact ⟨rfl, below_drewN (Below.refl _ _) _⟩
 obtain ⟨i, rfl⟩ := Int.eq_ofNat_of_zero_le h0
 rw [tryI_nat] at hn
 have hd0 : decide ((i : Int) < 0) = false := decide_eq_false (by omega)
 by_cases h1 : i < h.length
 rotate_left
 ·have h1' : (h.length : Int) ≤ (i : Int) := by omega
  have hd1 : decide ((h.length : Int) ≤ (i : Int)) = true := decide_eq_true h1'
  have hd1n : decide (h.length ≤ i) = true := decide_eq_true (by omega)
  clear p hn hc h0
  go_enter Tryz.func174, Tryz.ntmps174
  go_wp2_with fail
  go_quiet (fail)
  go_wp2_with fail
  go_ret
  exact ⟨rfl, below_drewN (Below.refl _ _) _⟩
 have h1' : ¬ (h.length : Int) ≤ (i : Int) := by omega
 have hd1 : decide ((h.length : Int) ≤ (i : Int)) = false := decide_eq_false h1'
 have hd1n : decide (h.length ≤ i) = false := decide_eq_false (by omega)
 have hi64 : i < 64 := by omega
 have hlt : ∀ k ∈ r, k < 64 := fun k hk => by have := p.lt k hk; omega
 have hps := plS_set r
 have hbs := baseN_set h C i
 have CH := hid (fun wx => (has_any (plS r) (i : Int) wx hps).mono fun _ _ h => And.intro h.1 h.2.symm)
 have CI := hid (fun wx => (within_any (baseN h C i) (plS r) wx hbs hps).mono fun _ _ h => And.intro h.1 h.2.symm)
 have hhas : hasB (plS r) (i : Int) = decide (i ∈ r) := by
  unfold hasB
  have : decide (0 ≤ (i : Int) ∧ (i : Int) < 64) = true := by simp; omega
  rw [this, Int.toNat_natCast, plS_bit i r hlt, Bool.true_and]
 rw [hhas] at CH
 obtain ⟨gb, ob, cb, hvb, hcb⟩ := p.bcell h1
 have h1i : (i : Int) < (h.length : Int) := by omega
 have CW := hid (fun wx (hx : Below w.heap.size w wx) => pwould_any (p.below hx) hc hC i h1)
 have CR := hid (fun wx (hx : Below w.heap.size w wx) s hs => preads_any (p.below hx) hc i h1 s hs)
 by_cases h2 : i ∈ r
 ·rw [decide_eq_true h2] at CH
  clear p hn hc h0 CI CW CR hvb h2 hlt hhas
  generalize plS r = pl at *
  go_enter Tryz.func174, Tryz.ntmps174
  go_wp2_with fail
  go_quiet ((go_at_call 173; exact Calls.quiet_of_same (CH.out _)))
  go_wp2_with fail
  go_ret
  exact ⟨rfl, below_drewN (Below.refl _ _) _⟩
 rw [decide_eq_false h2] at CH
 have hn2 : (inB (baseN h C i) (plS r) && readsP h (aheadL r) (nextN h C r i) i) = false := by
  unfold tryP at hn
  rw [decide_eq_true h1, decide_eq_false h2] at hn
  simpa using hn
 rw [hvb] at n2
 cases h3 : inB (baseN h C i) (plS r) with
 | false =>
  rw [h3] at CI
  clear p hn hc h0 CW CR hvb h3 hn2 h2 hlt hhas
  generalize plS r = pl at *
  generalize baseN h C i = bn at *
  go_enter Tryz.func174, Tryz.ntmps174
  go_wp2_with fail
  go_quiet ((first
   | (go_at_call 173; exact Calls.quiet_of_same (CH.out _))
   | (go_at_call 230; exact Calls.quiet_of_same (CI.out _))))
  go_wp2_with fail
  go_ret
  exact ⟨rfl, below_drewN (Below.refl _ _) _⟩
 | true =>
  rw [h3] at CI hn2
  rw [Bool.true_and] at hn2
  have hb3 := (inB_bits hbs).1 h3
  have e1 := p.actual h64 hb3
  have e2 := p.readsEq hc hC h1 hb3
  rw [e1] at CW
  have hns : IsSet (nextN h C r i) := wld4_set hbs hps (rivN_set h i) (fun k _ => plSee_set h C r k) (fun k _ => aheadL_set r k)
  have CR := hid (fun wx (hx : Below w.heap.size w wx) => CR.out wx hx _ hns)
  rw [e2, hn2] at CR
  have hb0 := Below.refl w.heap.size w
  clear p hn hc h0 hvb h3 hn2 e1 e2 hb3 hns hps hbs h2 hlt hhas
  generalize plS r = pl at *
  generalize baseN h C i = bn at *
  generalize nextN h C r i = sn at *
  go_enter Tryz.func174, Tryz.ntmps174
  go_wp2_with fail
  go_quiet ((first
   | (go_at_call 173; exact Calls.quiet_of_same (CH.out _))
   | (go_at_call 230; exact Calls.quiet_of_same (CI.out _))))
  have hb1 := below_drewN hb0 nq
  generalize w.drewN nq = w1 at *
  go_wp2_with fail
  refine (CW.out _ hb1).mono ?_
  rintro e w2 ⟨rfl, h2⟩
  have hb2 := below_then hb1 h2
  go_wp2_with fail
  refine (CR.out _ hb2).mono ?_
  rintro e w3 ⟨rfl, h3⟩
  have hb3 := below_then hb2 h3
  go_wp2_with fail
  go_ret
  exact ⟨rfl, hb3⟩
end
end

end Go.Proofs.YtnhkjehfmbfmmaaGreatDoor
