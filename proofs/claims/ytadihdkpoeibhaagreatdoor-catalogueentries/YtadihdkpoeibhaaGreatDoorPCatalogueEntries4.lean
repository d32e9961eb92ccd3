/- Walks and plain facts that the proof of the statement CatalogueEntries uses, joined: PlaI PlaF AxiH OrdP LesA LesB AxhA. Conditions: each theorem's own. -/
import Derived.BigQuiet
import Derived.Deep.QuietTactic
import Derived.Test.YtadihdkpoeibhaaGreatDoorPCatalogueEntries0
import Derived.Test.YtadihdkpoeibhaaGreatDoorPCatalogueEntries1
import Derived.Test.YtadihdkpoeibhaaGreatDoorPCatalogueEntries2
import Derived.Test.YtadihdkpoeibhaaGreatDoorPCatalogueEntries3
namespace Go.Proofs.YtadihdkpoeibhaaGreatDoor
set_option maxHeartbeats 32000000
set_option maxRecDepth 100000
open Lib (hid)
section
open Go.RowKit
section
variable {W : World} {S B b : Nat} {h : List TxnV} {C : Nat} {r : List Nat} {vb vr : Value} {aF sF : Nat → Nat} {w : World}
theorem pundo_cons {i : Nat} (p : PlIs W S B b h C (i :: r) vb vr aF sF w) (h64 : h.length ≤ 64) : Calls Tryz.prog 129 #[.pointer (some ⟨S, 0, none⟩)] w fun e w' => e = .returned (.bool true) ∧ ∃ vr', PlIs W S B b h C r vb vr' aF sF w' ∧ PlStep S vr vr' w w' := by
 obtain ⟨ao, cap, rfl⟩ := p.form
 have hlen := p.len
 simp only [List.length_cons] at p hlen ⊢
 have HU := hid (fun wx (hx : Below w.heap.size w wx) => (p.below hx).undo)
 have HX := hid (fun wx (hx : Below w.heap.size w wx) => PlStep.of_below (S := S) (vr := .slice ao (r.length + 1) cap) hx)
 have hrow := p.row
 have hl1 : ((i :: r).reverse.map Int.ofNat).length = r.length + 1 := by simp
 obtain ⟨g, o, hao, hcell⟩ := Ints.at (ao := ao) (n := r.length + 1) (cap := cap) hrow (k := r.length) (by rw [hl1]; omega)
 subst hao
 have hval : ((i :: r).reverse.map Int.ofNat)[r.length]'(by rw [hl1]; omega) = (i : Int) := by simp
 rw [hval] at hcell
 have HS := hid (fun wx (hx : Below w.heap.size w wx) => And.intro (p.below hx).a.cR (And.intro (p.below hx).a.cP (And.intro ((hx.cell (p := ⟨g, o + r.length, none⟩) (block_lt hcell)).trans hcell) (And.intro ((p.below hx).a.free (i := 3) (by omega)) ((p.below hx).a.free (i := 4) (by omega))))))
 have hpop := plS_pop (i := i) (r := r) (List.nodup_cons.1 p.nd).1 (fun a ha => by have := p.lt a ha; omega)
 have CW := hid (fun wx => wo_any (plS (i :: r)) (i : Int) wx (plS_set _))
 rw [hpop] at CW
 have hr64 : (r.length : Int) < 64 := by omega
 have hr1 : (r.length : Int) + 1 - 1 = (r.length : Int) := by omega
 have hr2 : (r.length : Int) < (r.length : Int) + 1 := by omega
 have hc1 : r.length ≤ cap := by
  have := p.rw.2
  rcases this with ⟨e, _⟩ | ⟨_, _, _, e, _, _, hh, _⟩
  ·cases e
  ·simp only [Value.slice.injEq] at e
   simp only [List.length_cons] at hh
   omega
 have hc2 : (r.length : Int) ≤ (cap : Int) := by omega
 have kd0 := Below.refl w.heap.size w
 obtain ⟨n3, n4, _, _, _⟩ := HS.out _ kd0
 clear p hrow hl1 hval hcell hpop hlen
 generalize plS (i :: r) = s1 at *
 generalize plS r = s0 at *
 generalize r.length = n at *
 go_enter Tryz.func129, Tryz.ntmps129
 go_upto_region 4 with fail
 have kd := kd0.drew
 clear n3 n4 kd0
 refine wp_region_held_drew (S := fun _ => True) (by kernel_rfl) trivial (fun hS0 => ?_)
 generalize w.drew = wd at *
 obtain ⟨n3, n4, n5, f3, f4⟩ := HS.out _ kd
 refine tA (some 16) 0 rfl rfl hS0 ?_
 try simp only [Act.put, zA, zB, zC]
 refine tA (some 17) 1 rfl rfl hS0 ?_
 try simp only [Act.put, zA, zB, zC]
 refine tA (some 18) 2 rfl rfl hS0 ?_
 try simp only [Act.put, zA, zB, zC]
 refine tA (some 19) 3 rfl rfl hS0 ?_
 try simp only [Act.put, zA, zB, zC]
 refine tA (some 20) 4 rfl rfl hS0 ?_
 try simp only [Act.put, zA, zB, zC]
 refine tA (some 22) 6 rfl rfl hS0 ?_
 try simp only [Act.put, zA, zB, zC]
 refine tA (some 24) 8 rfl rfl hS0 ?_
 try simp only [Act.put, zA, zB, zC]
 refine tA (some 25) 9 rfl rfl hS0 ?_
 try simp only [Act.put, zA, zB, zC]
 refine tA (some 26) 10 rfl rfl hS0 ?_
 try simp only [Act.put, zA, zB, zC]
 refine tA (some 28) 12 rfl rfl hS0 ?_
 try simp only [Act.put, zA, zB, zC]
 refine tA (some 29) 13 rfl rfl hS0 ?_
 try simp only [Act.put, zA, zB, zC]
 refine tA (some 30) 14 rfl rfl hS0 ?_
 try simp only [Act.put, zA, zB, zC]
 refine tA (some 32) 16 rfl rfl hS0 ?_
 try simp only [Act.put, zA, zB, zC]
 refine wpAnyH_ready (rs := [5, 11, 15]) (by kernel_rfl) (by simp) ?_
 refine AllReadyH.cons rfl (fun K hK => ?_) (AllReadyH.cons rfl (fun K hK => ?_) (AllReadyH.cons rfl (fun K hK => ?_) AllReadyH.nil))
 ·
  go_simp
  refine hK.out _ _ trivial (fun _ => ?_)
  clear hK K
  refine tA (some 23) 7 rfl rfl hS0 ?_
  try simp only [Act.put, zA, zB, zC]
  refine wpAnyH_ready (rs := [11, 15]) (by kernel_rfl) (by simp) ?_
  refine AllReadyH.cons rfl (fun K hK => ?_) (AllReadyH.cons rfl (fun K hK => ?_) AllReadyH.nil)
  ·
   go_simp
   refine hK.out _ _ trivial (fun _ => ?_)
   clear hK K
   refine rD 15 rfl (fun K hK => ?_)
   go_simp
   refine hK.out _ _ trivial (fun _ => ?_)
   clear hK K
   refine tA (some 33) 17 rfl rfl hS0 ?_
   try simp only [Act.put, zA, zB, zC]
   refine rD 18 rfl (fun K hK => ?_)
   go_simp
   refine hK.out _ _ trivial (fun _ => ?_)
   clear hK K
   refine rD 19 rfl (fun K hK => ?_)
   go_simp
   refine (CW.out _).mono ?_
   rintro e y1 ⟨rfl, rfl⟩
   show K _ _
   refine hK.out _ _ trivial (fun _ => ?_)
   clear hK K
   refine tA (some 36) 20 rfl rfl hS0 ?_
   try simp only [Act.put, zA, zB, zC]
   refine tA (some 37) 21 rfl rfl hS0 ?_
   try simp only [Act.put, zA, zB, zC]
   refine rD 22 rfl (fun K hK => ?_)
   go_simp
   refine hK.out _ _ trivial (fun _ => ?_)
   clear hK K
   refine tA (some 38) 23 rfl rfl hS0 ?_
   try simp only [Act.put, zA, zB, zC]
   refine tA (some 39) 24 rfl rfl hS0 ?_
   try simp only [Act.put, zA, zB, zC]
   refine rD 25 rfl (fun K hK => ?_)
   have q4 : (World.setCell wd ⟨S, 3, none⟩ (.slice (some ⟨g, o, none⟩) n cap)).cell? ⟨S, 4, none⟩ = some (.int .u64 (s1 : Int)) := by rw [World.cell?_setCell_other _ _ _ _ (by simp)]; exact n4
   go_simp
   refine hK.out _ _ trivial (fun _ => ?_)
   clear hK K
   refine wpAnyH_done (by kernel_rfl) ?_ _
   have hu := HU.out _ kd
   have hx := HX.out _ kd
   go_wp2_with fail
   go_ret
   exact ⟨rfl, _, hu.1, hx.trans hu.2⟩
  ·
   go_simp
   refine hK.out _ _ trivial (fun _ => ?_)
   clear hK K
   refine tA (some 33) 17 rfl rfl hS0 ?_
   try simp only [Act.put, zA, zB, zC]
   refine wpAnyH_ready (rs := [11, 18]) (by kernel_rfl) (by simp) ?_
   refine AllReadyH.cons rfl (fun K hK => ?_) (AllReadyH.cons rfl (fun K hK => ?_) AllReadyH.nil)
   ·
    go_simp
    refine hK.out _ _ trivial (fun _ => ?_)
    clear hK K
    refine rD 18 rfl (fun K hK => ?_)
    go_simp
    refine hK.out _ _ trivial (fun _ => ?_)
    clear hK K
    refine rD 19 rfl (fun K hK => ?_)
    go_simp
    refine (CW.out _).mono ?_
    rintro e y1 ⟨rfl, rfl⟩
    show K _ _
    refine hK.out _ _ trivial (fun _ => ?_)
    clear hK K
    refine tA (some 36) 20 rfl rfl hS0 ?_
    try simp only [Act.put, zA, zB, zC]
    refine tA (some 37) 21 rfl rfl hS0 ?_
    try simp only [Act.put, zA, zB, zC]
    refine rD 22 rfl (fun K hK => ?_)
    go_simp
    refine hK.out _ _ trivial (fun _ => ?_)
    clear hK K
    refine tA (some 38) 23 rfl rfl hS0 ?_
    try simp only [Act.put, zA, zB, zC]
    refine tA (some 39) 24 rfl rfl hS0 ?_
    try simp only [Act.put, zA, zB, zC]
    refine rD 25 rfl (fun K hK => ?_)
    have q4 : (World.setCell wd ⟨S, 3, none⟩ (.slice (some ⟨g, o, none⟩) n cap)).cell? ⟨S, 4, none⟩ = some (.int .u64 (s1 : Int)) := by rw [World.cell?_setCell_other _ _ _ _ (by simp)]; exact n4
    go_simp
    refine hK.out _ _ trivial (fun _ => ?_)
    clear hK K
    refine wpAnyH_done (by kernel_rfl) ?_ _
    have hu := HU.out _ kd
    have hx := HX.out _ kd
    go_wp2_with fail
    go_ret
    exact ⟨rfl, _, hu.1, hx.trans hu.2⟩
   ·
    go_simp
    refine hK.out _ _ trivial (fun _ => ?_)
    clear hK K
    refine rD 11 rfl (fun K hK => ?_)
    go_simp
    refine hK.out _ _ trivial (fun _ => ?_)
    clear hK K
    refine rD 19 rfl (fun K hK => ?_)
    go_simp
    refine (CW.out _).mono ?_
    rintro e y1 ⟨rfl, rfl⟩
    show K _ _
    refine hK.out _ _ trivial (fun _ => ?_)
    clear hK K
    refine tA (some 36) 20 rfl rfl hS0 ?_
    try simp only [Act.put, zA, zB, zC]
    refine tA (some 37) 21 rfl rfl hS0 ?_
    try simp only [Act.put, zA, zB, zC]
    refine rD 22 rfl (fun K hK => ?_)
    go_simp
    refine hK.out _ _ trivial (fun _ => ?_)
    clear hK K
    refine tA (some 38) 23 rfl rfl hS0 ?_
    try simp only [Act.put, zA, zB, zC]
    refine tA (some 39) 24 rfl rfl hS0 ?_
    try simp only [Act.put, zA, zB, zC]
    refine rD 25 rfl (fun K hK => ?_)
    have q4 : (World.setCell wd ⟨S, 3, none⟩ (.slice (some ⟨g, o, none⟩) n cap)).cell? ⟨S, 4, none⟩ = some (.int .u64 (s1 : Int)) := by rw [World.cell?_setCell_other _ _ _ _ (by simp)]; exact n4
    go_simp
    refine hK.out _ _ trivial (fun _ => ?_)
    clear hK K
    refine wpAnyH_done (by kernel_rfl) ?_ _
    have hu := HU.out _ kd
    have hx := HX.out _ kd
    go_wp2_with fail
    go_ret
    exact ⟨rfl, _, hu.1, hx.trans hu.2⟩
 ·
  go_simp
  refine hK.out _ _ trivial (fun _ => ?_)
  clear hK K
  refine wpAnyH_ready (rs := [5, 15]) (by kernel_rfl) (by simp) ?_
  refine AllReadyH.cons rfl (fun K hK => ?_) (AllReadyH.cons rfl (fun K hK => ?_) AllReadyH.nil)
  ·
   go_simp
   refine hK.out _ _ trivial (fun _ => ?_)
   clear hK K
   refine tA (some 23) 7 rfl rfl hS0 ?_
   try simp only [Act.put, zA, zB, zC]
   refine rD 15 rfl (fun K hK => ?_)
   go_simp
   refine hK.out _ _ trivial (fun _ => ?_)
   clear hK K
   refine tA (some 33) 17 rfl rfl hS0 ?_
   try simp only [Act.put, zA, zB, zC]
   refine rD 18 rfl (fun K hK => ?_)
   go_simp
   refine hK.out _ _ trivial (fun _ => ?_)
   clear hK K
   refine rD 19 rfl (fun K hK => ?_)
   go_simp
   refine (CW.out _).mono ?_
   rintro e y1 ⟨rfl, rfl⟩
   show K _ _
   refine hK.out _ _ trivial (fun _ => ?_)
   clear hK K
   refine tA (some 36) 20 rfl rfl hS0 ?_
   try simp only [Act.put, zA, zB, zC]
   refine tA (some 37) 21 rfl rfl hS0 ?_
   try simp only [Act.put, zA, zB, zC]
   refine rD 22 rfl (fun K hK => ?_)
   go_simp
   refine hK.out _ _ trivial (fun _ => ?_)
   clear hK K
   refine tA (some 38) 23 rfl rfl hS0 ?_
   try simp only [Act.put, zA, zB, zC]
   refine tA (some 39) 24 rfl rfl hS0 ?_
   try simp only [Act.put, zA, zB, zC]
   refine rD 25 rfl (fun K hK => ?_)
   have q4 : (World.setCell wd ⟨S, 3, none⟩ (.slice (some ⟨g, o, none⟩) n cap)).cell? ⟨S, 4, none⟩ = some (.int .u64 (s1 : Int)) := by rw [World.cell?_setCell_other _ _ _ _ (by simp)]; exact n4
   go_simp
   refine hK.out _ _ trivial (fun _ => ?_)
   clear hK K
   refine wpAnyH_done (by kernel_rfl) ?_ _
   have hu := HU.out _ kd
   have hx := HX.out _ kd
   go_wp2_with fail
   go_ret
   exact ⟨rfl, _, hu.1, hx.trans hu.2⟩
  ·
   go_simp
   refine hK.out _ _ trivial (fun _ => ?_)
   clear hK K
   refine tA (some 33) 17 rfl rfl hS0 ?_
   try simp only [Act.put, zA, zB, zC]
   refine wpAnyH_ready (rs := [5, 18]) (by kernel_rfl) (by simp) ?_
   refine AllReadyH.cons rfl (fun K hK => ?_) (AllReadyH.cons rfl (fun K hK => ?_) AllReadyH.nil)
   ·
    go_simp
    refine hK.out _ _ trivial (fun _ => ?_)
    clear hK K
    refine tA (some 23) 7 rfl rfl hS0 ?_
    try simp only [Act.put, zA, zB, zC]
    refine rD 18 rfl (fun K hK => ?_)
    go_simp
    refine hK.out _ _ trivial (fun _ => ?_)
    clear hK K
    refine rD 19 rfl (fun K hK => ?_)
    go_simp
    refine (CW.out _).mono ?_
    rintro e y1 ⟨rfl, rfl⟩
    show K _ _
    refine hK.out _ _ trivial (fun _ => ?_)
    clear hK K
    refine tA (some 36) 20 rfl rfl hS0 ?_
    try simp only [Act.put, zA, zB, zC]
    refine tA (some 37) 21 rfl rfl hS0 ?_
    try simp only [Act.put, zA, zB, zC]
    refine rD 22 rfl (fun K hK => ?_)
    go_simp
    refine hK.out _ _ trivial (fun _ => ?_)
    clear hK K
    refine tA (some 38) 23 rfl rfl hS0 ?_
    try simp only [Act.put, zA, zB, zC]
    refine tA (some 39) 24 rfl rfl hS0 ?_
    try simp only [Act.put, zA, zB, zC]
    refine rD 25 rfl (fun K hK => ?_)
    have q4 : (World.setCell wd ⟨S, 3, none⟩ (.slice (some ⟨g, o, none⟩) n cap)).cell? ⟨S, 4, none⟩ = some (.int .u64 (s1 : Int)) := by rw [World.cell?_setCell_other _ _ _ _ (by simp)]; exact n4
    go_simp
    refine hK.out _ _ trivial (fun _ => ?_)
    clear hK K
    refine wpAnyH_done (by kernel_rfl) ?_ _
    have hu := HU.out _ kd
    have hx := HX.out _ kd
    go_wp2_with fail
    go_ret
    exact ⟨rfl, _, hu.1, hx.trans hu.2⟩
   ·
    go_simp
    refine hK.out _ _ trivial (fun _ => ?_)
    clear hK K
    refine wpAnyH_ready (rs := [5, 19]) (by kernel_rfl) (by simp) ?_
    refine AllReadyH.cons rfl (fun K hK => ?_) (AllReadyH.cons rfl (fun K hK => ?_) AllReadyH.nil)
    ·
     go_simp
     refine hK.out _ _ trivial (fun _ => ?_)
     clear hK K
     refine tA (some 23) 7 rfl rfl hS0 ?_
     try simp only [Act.put, zA, zB, zC]
     refine rD 19 rfl (fun K hK => ?_)
     go_simp
     refine (CW.out _).mono ?_
     rintro e y1 ⟨rfl, rfl⟩
     show K _ _
     refine hK.out _ _ trivial (fun _ => ?_)
     clear hK K
     refine tA (some 36) 20 rfl rfl hS0 ?_
     try simp only [Act.put, zA, zB, zC]
     refine tA (some 37) 21 rfl rfl hS0 ?_
     try simp only [Act.put, zA, zB, zC]
     refine rD 22 rfl (fun K hK => ?_)
     go_simp
     refine hK.out _ _ trivial (fun _ => ?_)
     clear hK K
     refine tA (some 38) 23 rfl rfl hS0 ?_
     try simp only [Act.put, zA, zB, zC]
     refine tA (some 39) 24 rfl rfl hS0 ?_
     try simp only [Act.put, zA, zB, zC]
     refine rD 25 rfl (fun K hK => ?_)
     have q4 : (World.setCell wd ⟨S, 3, none⟩ (.slice (some ⟨g, o, none⟩) n cap)).cell? ⟨S, 4, none⟩ = some (.int .u64 (s1 : Int)) := by rw [World.cell?_setCell_other _ _ _ _ (by simp)]; exact n4
     go_simp
     refine hK.out _ _ trivial (fun _ => ?_)
     clear hK K
     refine wpAnyH_done (by kernel_rfl) ?_ _
     have hu := HU.out _ kd
     have hx := HX.out _ kd
     go_wp2_with fail
     go_ret
     exact ⟨rfl, _, hu.1, hx.trans hu.2⟩
    ·
     go_simp
     refine (CW.out _).mono ?_
     rintro e y1 ⟨rfl, rfl⟩
     show K _ _
     refine hK.out _ _ trivial (fun _ => ?_)
     clear hK K
     refine rD 5 rfl (fun K hK => ?_)
     go_simp
     refine hK.out _ _ trivial (fun _ => ?_)
     clear hK K
     refine tA (some 23) 7 rfl rfl hS0 ?_
     try simp only [Act.put, zA, zB, zC]
     refine tA (some 36) 20 rfl rfl hS0 ?_
     try simp only [Act.put, zA, zB, zC]
     refine tA (some 37) 21 rfl rfl hS0 ?_
     try simp only [Act.put, zA, zB, zC]
     refine rD 22 rfl (fun K hK => ?_)
     go_simp
     refine hK.out _ _ trivial (fun _ => ?_)
     clear hK K
     refine tA (some 38) 23 rfl rfl hS0 ?_
     try simp only [Act.put, zA, zB, zC]
     refine tA (some 39) 24 rfl rfl hS0 ?_
     try simp only [Act.put, zA, zB, zC]
     refine rD 25 rfl (fun K hK => ?_)
     have q4 : (World.setCell wd ⟨S, 3, none⟩ (.slice (some ⟨g, o, none⟩) n cap)).cell? ⟨S, 4, none⟩ = some (.int .u64 (s1 : Int)) := by rw [World.cell?_setCell_other _ _ _ _ (by simp)]; exact n4
     go_simp
     refine hK.out _ _ trivial (fun _ => ?_)
     clear hK K
     refine wpAnyH_done (by kernel_rfl) ?_ _
     have hu := HU.out _ kd
     have hx := HX.out _ kd
     go_wp2_with fail
     go_ret
     exact ⟨rfl, _, hu.1, hx.trans hu.2⟩
 ·
  go_simp
  refine hK.out _ _ trivial (fun _ => ?_)
  clear hK K
  refine tA (some 33) 17 rfl rfl hS0 ?_
  try simp only [Act.put, zA, zB, zC]
  refine wpAnyH_ready (rs := [5, 11, 18]) (by kernel_rfl) (by simp) ?_
  refine AllReadyH.cons rfl (fun K hK => ?_) (AllReadyH.cons rfl (fun K hK => ?_) (AllReadyH.cons rfl (fun K hK => ?_) AllReadyH.nil))
  ·
   go_simp
   refine hK.out _ _ trivial (fun _ => ?_)
   clear hK K
   refine tA (some 23) 7 rfl rfl hS0 ?_
   try simp only [Act.put, zA, zB, zC]
   refine wpAnyH_ready (rs := [11, 18]) (by kernel_rfl) (by simp) ?_
   refine AllReadyH.cons rfl (fun K hK => ?_) (AllReadyH.cons rfl (fun K hK => ?_) AllReadyH.nil)
   ·
    go_simp
    refine hK.out _ _ trivial (fun _ => ?_)
    clear hK K
    refine rD 18 rfl (fun K hK => ?_)
    go_simp
    refine hK.out _ _ trivial (fun _ => ?_)
    clear hK K
    refine rD 19 rfl (fun K hK => ?_)
    go_simp
    refine (CW.out _).mono ?_
    rintro e y1 ⟨rfl, rfl⟩
    show K _ _
    refine hK.out _ _ trivial (fun _ => ?_)
    clear hK K
    refine tA (some 36) 20 rfl rfl hS0 ?_
    try simp only [Act.put, zA, zB, zC]
    refine tA (some 37) 21 rfl rfl hS0 ?_
    try simp only [Act.put, zA, zB, zC]
    refine rD 22 rfl (fun K hK => ?_)
    go_simp
    refine hK.out _ _ trivial (fun _ => ?_)
    clear hK K
    refine tA (some 38) 23 rfl rfl hS0 ?_
    try simp only [Act.put, zA, zB, zC]
    refine tA (some 39) 24 rfl rfl hS0 ?_
    try simp only [Act.put, zA, zB, zC]
    refine rD 25 rfl (fun K hK => ?_)
    have q4 : (World.setCell wd ⟨S, 3, none⟩ (.slice (some ⟨g, o, none⟩) n cap)).cell? ⟨S, 4, none⟩ = some (.int .u64 (s1 : Int)) := by rw [World.cell?_setCell_other _ _ _ _ (by simp)]; exact n4
    go_simp
    refine hK.out _ _ trivial (fun _ => ?_)
    clear hK K
    refine wpAnyH_done (by kernel_rfl) ?_ _
    have hu := HU.out _ kd
    have hx := HX.out _ kd
    go_wp2_with fail
    go_ret
    exact ⟨rfl, _, hu.1, hx.trans hu.2⟩
   ·
    go_simp
    refine hK.out _ _ trivial (fun _ => ?_)
    clear hK K
    refine rD 11 rfl (fun K hK => ?_)
    go_simp
    refine hK.out _ _ trivial (fun _ => ?_)
    clear hK K
    refine rD 19 rfl (fun K hK => ?_)
    go_simp
    refine (CW.out _).mono ?_
    rintro e y1 ⟨rfl, rfl⟩
    show K _ _
    refine hK.out _ _ trivial (fun _ => ?_)
    clear hK K
    refine tA (some 36) 20 rfl rfl hS0 ?_
    try simp only [Act.put, zA, zB, zC]
    refine tA (some 37) 21 rfl rfl hS0 ?_
    try simp only [Act.put, zA, zB, zC]
    refine rD 22 rfl (fun K hK => ?_)
    go_simp
    refine hK.out _ _ trivial (fun _ => ?_)
    clear hK K
    refine tA (some 38) 23 rfl rfl hS0 ?_
    try simp only [Act.put, zA, zB, zC]
    refine tA (some 39) 24 rfl rfl hS0 ?_
    try simp only [Act.put, zA, zB, zC]
    refine rD 25 rfl (fun K hK => ?_)
    have q4 : (World.setCell wd ⟨S, 3, none⟩ (.slice (some ⟨g, o, none⟩) n cap)).cell? ⟨S, 4, none⟩ = some (.int .u64 (s1 : Int)) := by rw [World.cell?_setCell_other _ _ _ _ (by simp)]; exact n4
    go_simp
    refine hK.out _ _ trivial (fun _ => ?_)
    clear hK K
    refine wpAnyH_done (by kernel_rfl) ?_ _
    have hu := HU.out _ kd
    have hx := HX.out _ kd
    go_wp2_with fail
    go_ret
    exact ⟨rfl, _, hu.1, hx.trans hu.2⟩
  ·
   go_simp
   refine hK.out _ _ trivial (fun _ => ?_)
   clear hK K
   refine wpAnyH_ready (rs := [5, 18]) (by kernel_rfl) (by simp) ?_
   refine AllReadyH.cons rfl (fun K hK => ?_) (AllReadyH.cons rfl (fun K hK => ?_) AllReadyH.nil)
   ·
    go_simp
    refine hK.out _ _ trivial (fun _ => ?_)
    clear hK K
    refine tA (some 23) 7 rfl rfl hS0 ?_
    try simp only [Act.put, zA, zB, zC]
    refine rD 18 rfl (fun K hK => ?_)
    go_simp
    refine hK.out _ _ trivial (fun _ => ?_)
    clear hK K
    refine rD 19 rfl (fun K hK => ?_)
    go_simp
    refine (CW.out _).mono ?_
    rintro e y1 ⟨rfl, rfl⟩
    show K _ _
    refine hK.out _ _ trivial (fun _ => ?_)
    clear hK K
    refine tA (some 36) 20 rfl rfl hS0 ?_
    try simp only [Act.put, zA, zB, zC]
    refine tA (some 37) 21 rfl rfl hS0 ?_
    try simp only [Act.put, zA, zB, zC]
    refine rD 22 rfl (fun K hK => ?_)
    go_simp
    refine hK.out _ _ trivial (fun _ => ?_)
    clear hK K
    refine tA (some 38) 23 rfl rfl hS0 ?_
    try simp only [Act.put, zA, zB, zC]
    refine tA (some 39) 24 rfl rfl hS0 ?_
    try simp only [Act.put, zA, zB, zC]
    refine rD 25 rfl (fun K hK => ?_)
    have q4 : (World.setCell wd ⟨S, 3, none⟩ (.slice (some ⟨g, o, none⟩) n cap)).cell? ⟨S, 4, none⟩ = some (.int .u64 (s1 : Int)) := by rw [World.cell?_setCell_other _ _ _ _ (by simp)]; exact n4
    go_simp
    refine hK.out _ _ trivial (fun _ => ?_)
    clear hK K
    refine wpAnyH_done (by kernel_rfl) ?_ _
    have hu := HU.out _ kd
    have hx := HX.out _ kd
    go_wp2_with fail
    go_ret
    exact ⟨rfl, _, hu.1, hx.trans hu.2⟩
   ·
    go_simp
    refine hK.out _ _ trivial (fun _ => ?_)
    clear hK K
    refine wpAnyH_ready (rs := [5, 19]) (by kernel_rfl) (by simp) ?_
    refine AllReadyH.cons rfl (fun K hK => ?_) (AllReadyH.cons rfl (fun K hK => ?_) AllReadyH.nil)
    ·
     go_simp
     refine hK.out _ _ trivial (fun _ => ?_)
     clear hK K
     refine tA (some 23) 7 rfl rfl hS0 ?_
     try simp only [Act.put, zA, zB, zC]
     refine rD 19 rfl (fun K hK => ?_)
     go_simp
     refine (CW.out _).mono ?_
     rintro e y1 ⟨rfl, rfl⟩
     show K _ _
     refine hK.out _ _ trivial (fun _ => ?_)
     clear hK K
     refine tA (some 36) 20 rfl rfl hS0 ?_
     try simp only [Act.put, zA, zB, zC]
     refine tA (some 37) 21 rfl rfl hS0 ?_
     try simp only [Act.put, zA, zB, zC]
     refine rD 22 rfl (fun K hK => ?_)
     go_simp
     refine hK.out _ _ trivial (fun _ => ?_)
     clear hK K
     refine tA (some 38) 23 rfl rfl hS0 ?_
     try simp only [Act.put, zA, zB, zC]
     refine tA (some 39) 24 rfl rfl hS0 ?_
     try simp only [Act.put, zA, zB, zC]
     refine rD 25 rfl (fun K hK => ?_)
     have q4 : (World.setCell wd ⟨S, 3, none⟩ (.slice (some ⟨g, o, none⟩) n cap)).cell? ⟨S, 4, none⟩ = some (.int .u64 (s1 : Int)) := by rw [World.cell?_setCell_other _ _ _ _ (by simp)]; exact n4
     go_simp
     refine hK.out _ _ trivial (fun _ => ?_)
     clear hK K
     refine wpAnyH_done (by kernel_rfl) ?_ _
     have hu := HU.out _ kd
     have hx := HX.out _ kd
     go_wp2_with fail
     go_ret
     exact ⟨rfl, _, hu.1, hx.trans hu.2⟩
    ·
     go_simp
     refine (CW.out _).mono ?_
     rintro e y1 ⟨rfl, rfl⟩
     show K _ _
     refine hK.out _ _ trivial (fun _ => ?_)
     clear hK K
     refine rD 5 rfl (fun K hK => ?_)
     go_simp
     refine hK.out _ _ trivial (fun _ => ?_)
     clear hK K
     refine tA (some 23) 7 rfl rfl hS0 ?_
     try simp only [Act.put, zA, zB, zC]
     refine tA (some 36) 20 rfl rfl hS0 ?_
     try simp only [Act.put, zA, zB, zC]
     refine tA (some 37) 21 rfl rfl hS0 ?_
     try simp only [Act.put, zA, zB, zC]
     refine rD 22 rfl (fun K hK => ?_)
     go_simp
     refine hK.out _ _ trivial (fun _ => ?_)
     clear hK K
     refine tA (some 38) 23 rfl rfl hS0 ?_
     try simp only [Act.put, zA, zB, zC]
     refine tA (some 39) 24 rfl rfl hS0 ?_
     try simp only [Act.put, zA, zB, zC]
     refine rD 25 rfl (fun K hK => ?_)
     have q4 : (World.setCell wd ⟨S, 3, none⟩ (.slice (some ⟨g, o, none⟩) n cap)).cell? ⟨S, 4, none⟩ = some (.int .u64 (s1 : Int)) := by rw [World.cell?_setCell_other _ _ _ _ (by simp)]; exact n4
     go_simp
     refine hK.out _ _ trivial (fun _ => ?_)
     clear hK K
     refine wpAnyH_done (by kernel_rfl) ?_ _
     have hu := HU.out _ kd
     have hx := HX.out _ kd
     go_wp2_with fail
     go_ret
     exact ⟨rfl, _, hu.1, hx.trans hu.2⟩
  ·
   go_simp
   refine hK.out _ _ trivial (fun _ => ?_)
   clear hK K
   refine wpAnyH_ready (rs := [5, 11]) (by kernel_rfl) (by simp) ?_
   refine AllReadyH.cons rfl (fun K hK => ?_) (AllReadyH.cons rfl (fun K hK => ?_) AllReadyH.nil)
   ·
    go_simp
    refine hK.out _ _ trivial (fun _ => ?_)
    clear hK K
    refine tA (some 23) 7 rfl rfl hS0 ?_
    try simp only [Act.put, zA, zB, zC]
    refine rD 11 rfl (fun K hK => ?_)
    go_simp
    refine hK.out _ _ trivial (fun _ => ?_)
    clear hK K
    refine rD 19 rfl (fun K hK => ?_)
    go_simp
    refine (CW.out _).mono ?_
    rintro e y1 ⟨rfl, rfl⟩
    show K _ _
    refine hK.out _ _ trivial (fun _ => ?_)
    clear hK K
    refine tA (some 36) 20 rfl rfl hS0 ?_
    try simp only [Act.put, zA, zB, zC]
    refine tA (some 37) 21 rfl rfl hS0 ?_
    try simp only [Act.put, zA, zB, zC]
    refine rD 22 rfl (fun K hK => ?_)
    go_simp
    refine hK.out _ _ trivial (fun _ => ?_)
    clear hK K
    refine tA (some 38) 23 rfl rfl hS0 ?_
    try simp only [Act.put, zA, zB, zC]
    refine tA (some 39) 24 rfl rfl hS0 ?_
    try simp only [Act.put, zA, zB, zC]
    refine rD 25 rfl (fun K hK => ?_)
    have q4 : (World.setCell wd ⟨S, 3, none⟩ (.slice (some ⟨g, o, none⟩) n cap)).cell? ⟨S, 4, none⟩ = some (.int .u64 (s1 : Int)) := by rw [World.cell?_setCell_other _ _ _ _ (by simp)]; exact n4
    go_simp
    refine hK.out _ _ trivial (fun _ => ?_)
    clear hK K
    refine wpAnyH_done (by kernel_rfl) ?_ _
    have hu := HU.out _ kd
    have hx := HX.out _ kd
    go_wp2_with fail
    go_ret
    exact ⟨rfl, _, hu.1, hx.trans hu.2⟩
   ·
    go_simp
    refine hK.out _ _ trivial (fun _ => ?_)
    clear hK K
    refine wpAnyH_ready (rs := [5, 19]) (by kernel_rfl) (by simp) ?_
    refine AllReadyH.cons rfl (fun K hK => ?_) (AllReadyH.cons rfl (fun K hK => ?_) AllReadyH.nil)
    ·
     go_simp
     refine hK.out _ _ trivial (fun _ => ?_)
     clear hK K
     refine tA (some 23) 7 rfl rfl hS0 ?_
     try simp only [Act.put, zA, zB, zC]
     refine rD 19 rfl (fun K hK => ?_)
     go_simp
     refine (CW.out _).mono ?_
     rintro e y1 ⟨rfl, rfl⟩
     show K _ _
     refine hK.out _ _ trivial (fun _ => ?_)
     clear hK K
     refine tA (some 36) 20 rfl rfl hS0 ?_
     try simp only [Act.put, zA, zB, zC]
     refine tA (some 37) 21 rfl rfl hS0 ?_
     try simp only [Act.put, zA, zB, zC]
     refine rD 22 rfl (fun K hK => ?_)
     go_simp
     refine hK.out _ _ trivial (fun _ => ?_)
     clear hK K
     refine tA (some 38) 23 rfl rfl hS0 ?_
     try simp only [Act.put, zA, zB, zC]
     refine tA (some 39) 24 rfl rfl hS0 ?_
     try simp only [Act.put, zA, zB, zC]
     refine rD 25 rfl (fun K hK => ?_)
     have q4 : (World.setCell wd ⟨S, 3, none⟩ (.slice (some ⟨g, o, none⟩) n cap)).cell? ⟨S, 4, none⟩ = some (.int .u64 (s1 : Int)) := by rw [World.cell?_setCell_other _ _ _ _ (by simp)]; exact n4
     go_simp
     refine hK.out _ _ trivial (fun _ => ?_)
     clear hK K
     refine wpAnyH_done (by kernel_rfl) ?_ _
     have hu := HU.out _ kd
     have hx := HX.out _ kd
     go_wp2_with fail
     go_ret
     exact ⟨rfl, _, hu.1, hx.trans hu.2⟩
    ·
     go_simp
     refine (CW.out _).mono ?_
     rintro e y1 ⟨rfl, rfl⟩
     show K _ _
     refine hK.out _ _ trivial (fun _ => ?_)
     clear hK K
     refine rD 5 rfl (fun K hK => ?_)
     go_simp
     refine hK.out _ _ trivial (fun _ => ?_)
     clear hK K
     refine tA (some 23) 7 rfl rfl hS0 ?_
     try simp only [Act.put, zA, zB, zC]
     refine tA (some 36) 20 rfl rfl hS0 ?_
     try simp only [Act.put, zA, zB, zC]
     refine tA (some 37) 21 rfl rfl hS0 ?_
     try simp only [Act.put, zA, zB, zC]
     refine rD 22 rfl (fun K hK => ?_)
     go_simp
     refine hK.out _ _ trivial (fun _ => ?_)
     clear hK K
     refine tA (some 38) 23 rfl rfl hS0 ?_
     try simp only [Act.put, zA, zB, zC]
     refine tA (some 39) 24 rfl rfl hS0 ?_
     try simp only [Act.put, zA, zB, zC]
     refine rD 25 rfl (fun K hK => ?_)
     have q4 : (World.setCell wd ⟨S, 3, none⟩ (.slice (some ⟨g, o, none⟩) n cap)).cell? ⟨S, 4, none⟩ = some (.int .u64 (s1 : Int)) := by rw [World.cell?_setCell_other _ _ _ _ (by simp)]; exact n4
     go_simp
     refine hK.out _ _ trivial (fun _ => ?_)
     clear hK K
     refine wpAnyH_done (by kernel_rfl) ?_ _
     have hu := HU.out _ kd
     have hx := HX.out _ kd
     go_wp2_with fail
     go_ret
     exact ⟨rfl, _, hu.1, hx.trans hu.2⟩
end
end

section
open Go.RowKit
theorem bit_ne (x k : Nat) (hx : x < 9223372036854775808) (hk : 2 ^ k < 9223372036854775808) {q : Int} (hq : bits .and .i64 (x : Int) ((2 ^ k : Nat) : Int) = q) : x.testBit k = !decide (q = 0) := by
 have := bit_zero x k hx hk
 rw [hq] at this
 cases hb : x.testBit k
 ·rw [decide_eq_true (this.2 hb)]; rfl
 ·rw [decide_eq_false (fun e => by rw [this.1 e] at hb; cases hb)]; rfl
theorem pwould_any {W : World} {S B b : Nat} {h : List TxnV} {C : Nat} {r : List Nat} {vb vr : Value} {aF sF : Nat → Nat} {w : World} (p : PlIs W S B b h C r vb vr aF sF w) (hc : checkI h = 0) (hC : C < 9223372036854775808) (i : Nat) (hi : i < h.length) :
  Calls Tryz.prog 169 #[.pointer (some ⟨S, 0, none⟩), .int .i64 i] w fun e w' => e = .returned (.int .u64 ((wld4 (baseN h C i) (plS r) (rivN h i) C sF aF : Nat) : Int)) ∧ Below w.heap.size w w' := by
 obtain ⟨q16, h16⟩ : ∃ q, bits .and .i64 (C : Int) 16 = q := ⟨_, rfl⟩
 obtain ⟨q8, h8⟩ : ∃ q, bits .and .i64 (C : Int) 8 = q := ⟨_, rfl⟩
 obtain ⟨q2, h2⟩ : ∃ q, bits .and .i64 (C : Int) 2 = q := ⟨_, rfl⟩
 obtain ⟨q4, h4⟩ : ∃ q, bits .and .i64 (C : Int) 4 = q := ⟨_, rfl⟩
 have H16 := hid (bit_ne C 4 hC (by omega) h16)
 have H8 := hid (bit_ne C 3 hC (by omega) h8)
 have H2 := hid (bit_ne C 1 hC (by omega) h2)
 have H4 := hid (bit_ne C 2 hC (by omega) h4)
 have hbs := baseN_set h C i
 have hps := plS_set r
 have hrs := rivN_set h i
 have E1 : Hid (wld1 (baseN h C i) (plS r) C = if q16 = 0 then baseN h C i else baseN h C i ||| plS r) := hid (by unfold wld1; rw [H16.out]; by_cases e : q16 = 0 <;> simp [e])
 have E2 : Hid (wld2 (baseN h C i) (plS r) (rivN h i) C = if q8 = 0 then wld1 (baseN h C i) (plS r) C else wld1 (baseN h C i) (plS r) C ||| (rivN h i &&& plS r)) := hid (by unfold wld2; rw [H8.out]; by_cases e : q8 = 0 <;> simp [e])
 have E3 : Hid (wld3 (baseN h C i) (plS r) (rivN h i) C sF = if q2 = 0 then wld2 (baseN h C i) (plS r) (rivN h i) C else wld2 (baseN h C i) (plS r) (rivN h i) C ||| joinN sF (wld2 (baseN h C i) (plS r) (rivN h i) C)) := hid (by unfold wld3; rw [H2.out]; by_cases e : q2 = 0 <;> simp [e])
 have E4 : Hid (wld4 (baseN h C i) (plS r) (rivN h i) C sF aF = if q4 = 0 then wld3 (baseN h C i) (plS r) (rivN h i) C sF else wld3 (baseN h C i) (plS r) (rivN h i) C sF ||| joinN aF (wld3 (baseN h C i) (plS r) (rivN h i) C sF)) := hid (by unfold wld4; rw [H4.out]; by_cases e : q4 = 0 <;> simp [e])
 have hsF : ∀ k, k < 64 → IsSet (sF k) := fun k hk => (p.set k hk).2
 have haF : ∀ k, k < 64 → IsSet (aF k) := fun k hk => (p.set k hk).1
 have s1 := wld1_set (C := C) hbs hps
 have s2 := wld2_set (C := C) hbs hps hrs
 have s3 := wld3_set (C := C) hbs hps hrs hsF
 have CJ1 := hid (fun s wx (hs : IsSet s) (hx : Below w.heap.size w wx) => joined_any S 69 sF s wx hs hsF (fun k hk => (p.below hx).a.cS hk) (p.below hx).tab)
 have CJ2 := hid (fun s wx (hs : IsSet s) (hx : Below w.heap.size w wx) => joined_any S 5 aF s wx hs haF (fun k hk => (p.below hx).a.cA hk) (p.below hx).tab)
 have CRV := hid (fun wx (hx : Below w.heap.size w wx) => ordis_rivals (p.below hx).ord hc i)
 have HS := hid (fun wx (hx : Below w.heap.size w wx) => And.intro (p.below hx).a.cO (And.intro (p.below hx).a.cC (p.below hx).a.cP))
 obtain ⟨gb, ob, cb, hvb, hcb⟩ : ∃ gb ob cb, vb = .slice (some ⟨gb, ob, none⟩) h.length cb ∧ w.cell? ⟨gb, ob + i, none⟩ = some (.int .u64 ((baseN h C i : Nat) : Int)) := by
  obtain ⟨hl, ao, cap, e, hm, hno, hcl⟩ := Row.of_owns p.ba
  obtain ⟨g, off, e2, hcell⟩ := hcl (by omega)
  refine ⟨g, off, cap, by rw [e, e2], ?_⟩
  rw [hcell i (by omega), List.getElem?_map, List.getElem?_range hi]; rfl
 have cB := p.a.cB
 rw [hvb] at cB
 obtain ⟨n0, n1, n2⟩ := HS.out w (Below.refl _ _)
 have hii : (i : Int) < (h.length : Int) := by omega
 have hb0 := Below.refl w.heap.size w
 have hr0 : IsSet (joinN sF (wld2 (baseN h C i) (plS r) (rivN h i) C)) := joinN_set hsF
 have hr1 : IsSet (joinN aF (wld3 (baseN h C i) (plS r) (rivN h i) C sF)) := joinN_set haF
 clear p H16 H8 H2 H4 hsF haF hvb hc hi
 generalize wld4 (baseN h C i) (plS r) (rivN h i) C sF aF = x4 at *
 generalize wld3 (baseN h C i) (plS r) (rivN h i) C sF = x3 at *
 generalize wld2 (baseN h C i) (plS r) (rivN h i) C = x2 at *
 generalize wld1 (baseN h C i) (plS r) C = x1 at *
 generalize baseN h C i = x0 at *
 generalize plS r = pl at *
 generalize rivN h i = rv at *
 have CJ1 := hid (fun wx (hx : Below w.heap.size w wx) => CJ1.out x2 wx s2 hx)
 have CJ2 := hid (fun wx (hx : Below w.heap.size w wx) => CJ2.out x3 wx s3 hx)
 generalize joinN sF x2 = j1 at *
 generalize joinN aF x3 = j2 at *
 have O1 := Go.bits_or_u64_nat _ _ hbs hps
 have O2 := Go.bits_and_u64_nat _ _ hrs hps
 have O3 := Go.bits_or_u64_nat _ _ s1 (isSet_and (t := pl) hrs)
 have O4 := Go.bits_or_u64_nat _ _ s2 hr0
 have O5 := Go.bits_or_u64_nat _ _ s3 hr1
 clear hbs hps hrs s1 s2 s3 hr0 hr1
 go_enter Tryz.func169, Tryz.ntmps169
 go_upto_if 18 with fail
 go_cut [5] from 13 to 24 (fun v wx => v = .int .u64 (x1 : Int) ∧ Below w.heap.size w wx)
 case first =>
  by_cases e : q16 = 0
  ·have HE : Hid (x0 = x1) := hid (by rw [E1.out, if_pos e])
   go_wp2_with fail
   go_meet
   exact ⟨by rw [HE.out], hb0⟩
  ·have HE : Hid (x0 ||| pl = x1) := hid (by rw [E1.out, if_neg e])
   have e2 := bne_iff_ne.2 e
   go_wp2_with fail
   go_meet
   exact ⟨by rw [← HE.out], hb0⟩
 obtain ⟨rfl, hb1⟩ := hcut
 generalize wc = w1 at *
 clear hb0 cB hcb n0 n1 n2
 obtain ⟨n0, n1, n2⟩ := HS.out _ hb1
 go_upto_if 30 with fail
 go_cut [5] from 25 to 43 (fun v wx => v = .int .u64 (x2 : Int) ∧ Below w.heap.size w wx)
 case first =>
  by_cases e : q8 = 0
  ·have HE : Hid (x1 = x2) := hid (by rw [E2.out, if_pos e])
   go_wp2_with fail
   go_meet
   exact ⟨by rw [HE.out], hb1⟩
  ·have HE : Hid (x1 ||| (rv &&& pl) = x2) := hid (by rw [E2.out, if_neg e])
   have e2 := bne_iff_ne.2 e
   go_upto_region 5 with fail
   refine wp_region_held_drew (S := Below w.heap.size w) (by kernel_rfl) hb1.drew (fun hS0 => ?_)
   refine tG (some 31) 0 ?vua0 rfl rfl (Or.inl ⟨by rfl, ?hua0⟩) hS0 ?rua0
   case hua0 => (intro w hw; obtain ⟨n0, n1, n2⟩ := HS.out _ hw; go_simp; try (with_reducible rfl))
   try simp only [Act.put, zA, zB, zC]
   refine tG (some 32) 1 ?vua1 rfl rfl (Or.inl ⟨by rfl, ?hua1⟩) hS0 ?rua1
   case hua1 => (intro w hw; obtain ⟨n0, n1, n2⟩ := HS.out _ hw; go_simp; try (with_reducible rfl))
   try simp only [Act.put, zA, zB, zC]
   refine tG (some 33) 2 ?vua2 rfl rfl (Or.inl ⟨by rfl, ?hua2⟩) hS0 ?rua2
   case hua2 => (intro w hw; obtain ⟨n0, n1, n2⟩ := HS.out _ hw; go_simp; try (with_reducible rfl))
   try simp only [Act.put, zA, zB, zC]
   refine tG (some 34) 3 ?vua3 rfl rfl (Or.inl ⟨by rfl, ?hua3⟩) hS0 ?rua3
   case hua3 => (intro w hw; obtain ⟨n0, n1, n2⟩ := HS.out _ hw; go_simp; try (with_reducible rfl))
   try simp only [Act.put, zA, zB, zC]
   refine tG (some 35) 4 ?vua4 rfl rfl (Or.inl ⟨by rfl, ?hua4⟩) hS0 ?rua4
   case hua4 => (intro w hw; obtain ⟨n0, n1, n2⟩ := HS.out _ hw; go_simp; try (with_reducible rfl))
   try simp only [Act.put, zA, zB, zC]
   refine tG (some 36) 5 ?vua5 rfl rfl (Or.inl ⟨by rfl, ?hua5⟩) hS0 ?rua5
   case hua5 => (intro w hw; obtain ⟨n0, n1, n2⟩ := HS.out _ hw; go_simp; try (with_reducible rfl))
   try simp only [Act.put, zA, zB, zC]
   refine tG (some 38) 7 ?vua7 rfl rfl (Or.inl ⟨by rfl, ?hua7⟩) hS0 ?rua7
   case hua7 => (intro w hw; obtain ⟨n0, n1, n2⟩ := HS.out _ hw; go_simp; try (with_reducible rfl))
   try simp only [Act.put, zA, zB, zC]
   refine tG (some 39) 8 ?vua8 rfl rfl (Or.inl ⟨by rfl, ?hua8⟩) hS0 ?rua8
   case hua8 => (intro w hw; obtain ⟨n0, n1, n2⟩ := HS.out _ hw; go_simp; try (with_reducible rfl))
   try simp only [Act.put, zA, zB, zC]
   refine tG (some 40) 9 ?vua9 rfl rfl (Or.inl ⟨by rfl, ?hua9⟩) hS0 ?rua9
   case hua9 => (intro w hw; obtain ⟨n0, n1, n2⟩ := HS.out _ hw; go_simp; try (with_reducible rfl))
   try simp only [Act.put, zA, zB, zC]
   refine tG (some 41) 10 ?vua10 rfl rfl (Or.inl ⟨by rfl, ?hua10⟩) hS0 ?rua10
   case hua10 => (intro w hw; obtain ⟨n0, n1, n2⟩ := HS.out _ hw; go_simp; try (with_reducible rfl))
   try simp only [Act.put, zA, zB, zC]
   refine rD 6 rfl (fun K hK => ?_)
   go_simp
   refine (CRV.out _ hS0).mono ?_
   rintro e y1 ⟨rfl, j1⟩
   show K _ _
   have s1 := below_then hS0 j1
   refine hK.out _ _ s1 (fun _ => ?_)
   clear hK K
   refine tG (some 42) 11 ?vua11 rfl rfl (Or.inl ⟨by rfl, ?hua11⟩) s1 ?rua11
   case hua11 => (intro w hw; obtain ⟨n0, n1, n2⟩ := HS.out _ hw; go_simp; try (with_reducible rfl))
   try simp only [Act.put, zA, zB, zC]
   refine tG (some 43) 12 ?vua12 rfl rfl (Or.inl ⟨by rfl, ?hua12⟩) s1 ?rua12
   case hua12 => (intro w hw; obtain ⟨n0, n1, n2⟩ := HS.out _ hw; go_simp; try (with_reducible rfl))
   try simp only [Act.put, zA, zB, zC]
   refine tG (some 5) 13 ?vua13 rfl rfl (Or.inl ⟨by rfl, ?hua13⟩) s1 ?rua13
   case hua13 => (intro w hw; obtain ⟨n0, n1, n2⟩ := HS.out _ hw; go_simp; try (with_reducible rfl))
   try simp only [Act.put, zA, zB, zC]
   refine wpAnyH_done (by kernel_rfl) ?_ _
   rw [HE.out]
   go_wp2_with fail
   go_meet
   exact ⟨rfl, s1⟩
 obtain ⟨rfl, hb2⟩ := hcut
 generalize wc = w2 at *
 clear hb1 n0 n1 n2
 obtain ⟨n0, n1, n2⟩ := HS.out _ hb2
 go_upto_if 49 with fail
 go_cut [5] from 44 to 56 (fun v wx => v = .int .u64 (x3 : Int) ∧ Below w.heap.size w wx)
 case first =>
  by_cases e : q2 = 0
  ·have HE : Hid (x2 = x3) := hid (by rw [E3.out, if_pos e])
   go_wp2_with fail
   go_meet
   exact ⟨by rw [HE.out], hb2⟩
  ·have HE : Hid (x2 ||| j1 = x3) := hid (by rw [E3.out, if_neg e])
   have e2 := bne_iff_ne.2 e
   go_wp2_with fail
   refine (CJ1.out _ hb2).mono ?_
   rintro e w3 ⟨rfl, h3⟩
   have hb3 := below_then hb2 h3
   go_wp2_with fail
   go_meet
   exact ⟨by rw [← HE.out], hb3⟩
 obtain ⟨rfl, hb3⟩ := hcut
 generalize wc = w3 at *
 clear hb2 n0 n1 n2
 obtain ⟨n0, n1, n2⟩ := HS.out _ hb3
 go_upto_region 8 with fail
 by_cases e : q4 = 0
 ·have HE : Hid ((x3 : Int) = ((x4 : Nat) : Int)) := hid (by rw [E4.out, if_pos e])
  go_wp2_with fail
  go_ret
  exact ⟨ret_i HE.out, hb3⟩
 ·have HE : Hid (((x3 ||| j2 : Nat) : Int) = ((x4 : Nat) : Int)) := hid (by rw [E4.out, if_neg e])
  have e2 := bne_iff_ne.2 e
  go_wp2_with fail
  refine (CJ2.out _ hb3).mono ?_
  rintro e w4 ⟨rfl, h4⟩
  have hb4 := below_then hb3 h4
  go_wp2_with fail
  go_ret
  exact ⟨ret_i HE.out, hb4⟩
end

section
open Go.RowKit
def placeF : List Int → Int → Nat → Int
 | [], _, _ => -1
 | a :: r, i, k => if a = i then (k : Int) else placeF r i (k + 1)
def placeI (l : List Int) (i : Int) : Int := placeF l i 0
theorem placeF_neg (i : Int) : ∀ (l : List Int) (k : Nat), placeF l i k < 0 ↔ i ∉ l
 | [], k => by simp [placeF]
 | a :: r, k => by
  unfold placeF
  by_cases h : a = i
  ·rw [if_pos h]
   constructor
   ·intro h2; omega
   ·intro h2; exact absurd (by rw [h]; exact List.mem_cons_self) h2
  ·rw [if_neg h, placeF_neg i r (k + 1), List.mem_cons]
   constructor
   ·intro h2 h3
    rcases h3 with h3 | h3
    ·exact h h3.symm
    ·exact h2 h3
   ·intro h2 h3; exact h2 (.inr h3)
theorem placeF_step {l : List Int} {i : Int} {k : Nat} (h : k < l.length) : placeF (l.drop k) i k = if l[k] = i then (k : Int) else placeF (l.drop (k + 1)) i (k + 1) := by
 rw [List.drop_eq_getElem_cons h]; rfl
theorem rplace_any (va : Value) (l : List Int) (i : Int) (w : World) (hl : Ints w va l) :
  Calls Tryz.prog 184 #[va, .int .i64 i] w fun e w' => e = .returned (.int .i64 (placeI l i)) ∧ w = w' := by
 have HL := hid hl
 obtain ⟨ao, cap, rfl, hal⟩ := hl.form
 have HR : Hid (placeI l i = placeF (l.drop 0) i 0) := hid (by rw [List.drop_zero]; rfl)
 generalize placeI l i = z at *
 clear hl
 go_enter Tryz.func184, Tryz.ntmps184
 go_wp2_with fail
 go_loopw [5] (fun v wr => ∃ k : Nat, k ≤ l.length ∧ v = .int .i64 k ∧ Hid (z = placeF (l.drop k) i k) ∧ w = wr) (fun v _ => l.length - (intOf v).toNat)
 case atStart => exact ⟨0, by omega, rfl, HR, rfl⟩
 case round =>
  clear HR
  obtain ⟨k, hk, rfl, HP, rfl⟩ := hrel
  by_cases hlt : k < l.length
  ·have hki : (k : Int) < (l.length : Int) := by omega
   obtain ⟨g, o, hao, e0⟩ := HL.out.at hlt
   cases hao
   have HN := hid (HP.out.trans (placeF_step hlt))
   clear HP
   generalize l[k] = x at *
   by_cases hx : x = i
   ·have HV : Hid ((k : Int) = z) := hid (by rw [HN.out, if_pos hx])
    subst hx
    clear HN
    go_wp2_with fail
    go_ret
    exact ⟨congrArg (fun q => Ending.returned (Value.int .i64 q)) HV.out, rfl⟩
   ·have HV : Hid (z = placeF (l.drop (k + 1)) i (k + 1)) := hid (by rw [HN.out, if_neg hx])
    clear HN
    go_wp2_with fail
    go_roundw
    case rel => exact ⟨k + 1, by omega, by go_num, HV, by first | rfl | trivial⟩
    case measure => simp [intOf]; omega
  ·have hk2 : k = l.length := by omega
   subst hk2
   have HV : Hid (z = -1) := hid (by rw [HP.out, List.drop_length]; rfl)
   clear HP
   go_wp2_with fail
   go_ret
   exact ⟨congrArg (fun q => Ending.returned (Value.int .i64 q)) HV.out.symm, rfl⟩
def rowTo (l : List Int) (k : Nat) : Bool := (List.range k).all fun i => decide ((i : Int) ∈ l)
theorem rowTo_succ (l : List Int) (k : Nat) : rowTo l (k + 1) = (rowTo l k && decide ((k : Int) ∈ l)) := by
 unfold rowTo; rw [List.range_succ, List.all_append]; simp
theorem rowTo_no {l : List Int} {k n : Nat} (h : k < n) (hn : ¬ (k : Int) ∈ l) : rowTo l n = false := by
 unfold rowTo
 rw [List.all_eq_false]
 exact ⟨k, List.mem_range.2 h, by simpa using hn⟩
def rowRef12 (n : Nat) (l : List Int) : Bool := rowTo l n && decide ((l.length : Int) = n)
theorem rrow12_any (n : Nat) (va : Value) (l : List Int) (w : World) (hn : n ≤ 1000) (hl : Ints w va l) :
  Calls Tryz.prog 146 #[.int .i64 n, va] w fun e w' => e = .returned (.bool (rowRef12 n l)) ∧ w = w' := by
 have CP := hid (fun i => rplace_any va l i w hl)
 obtain ⟨ao, cap, rfl, hal⟩ := hl.form
 have HR : Hid (rowRef12 n l = (rowTo l n && decide ((l.length : Int) = n))) := hid rfl
 generalize rowRef12 n l = z at *
 clear hl
 go_enter Tryz.func146, Tryz.ntmps146
 go_wp2_with fail
 go_loopw [5] (fun v wr => ∃ k : Nat, k ≤ n ∧ v = .int .i64 k ∧ Hid (rowTo l k = true) ∧ w = wr) (fun v _ => n - (intOf v).toNat)
 case atStart => exact ⟨0, by omega, rfl, hid rfl, rfl⟩
 case round =>
  obtain ⟨k, hk, rfl, HP, rfl⟩ := hrel
  by_cases hlt : k < n
  ·have hki : (k : Int) < (n : Int) := by omega
   have CK := hid (CP.out (k : Int))
   by_cases hm : (k : Int) ∈ l
   ·have hz : ¬ placeI l (k : Int) < 0 := fun h => (placeF_neg _ l 0).1 h hm
    have HV : Hid (rowTo l (k + 1) = true) := hid (by rw [rowTo_succ, HP.out, decide_eq_true hm]; rfl)
    clear HP HR CP hm
    generalize placeI l (k : Int) = p at *
    go_wp2_with fail
    refine (CK.out).mono ?_
    rintro e w1 ⟨rfl, rfl⟩
    go_wp2_with fail
    go_roundw
    case rel => exact ⟨k + 1, by omega, by go_num, HV, by first | rfl | trivial⟩
    case measure => simp [intOf]; omega
   ·have hz : placeI l (k : Int) < 0 := (placeF_neg _ l 0).2 hm
    have HV : Hid (false = z) := hid (by rw [HR.out, rowTo_no hlt hm]; rfl)
    clear HP HR CP hm
    generalize placeI l (k : Int) = p at *
    go_wp2_with fail
    refine (CK.out).mono ?_
    rintro e w1 ⟨rfl, rfl⟩
    go_wp2_with fail
    go_ret
    exact ⟨ret_b HV.out, rfl⟩
  ·have hk2 : k = n := by omega
   subst hk2
   by_cases hq : (l.length : Int) = (k : Int)
   ·have HV : Hid (true = z) := hid (by rw [HR.out, HP.out, decide_eq_true hq]; rfl)
    clear HP HR CP
    go_wp2_with fail
    go_ret
    exact ⟨ret_b HV.out, rfl⟩
   ·have HV : Hid (false = z) := hid (by rw [HR.out, HP.out, decide_eq_false hq]; rfl)
    clear HP HR CP
    go_wp2_with fail
    go_ret
    exact ⟨ret_b ((beq_eq_false_iff_ne.2 hq).trans HV.out), rfl⟩
theorem count_full : ∀ (n : Nat) (l : List Int), l.length = n → rowTo l n = true → ∀ a ∈ l, 0 ≤ a ∧ a < (n : Int)
 | 0, [], _, _, a, h => by cases h
 | n + 1, l, hl, hr, a, ha => by
  rw [rowTo_succ, Bool.and_eq_true, decide_eq_true_eq] at hr
  obtain ⟨h1, h2⟩ := hr
  have hle : (l.erase (n : Int)).length = n := by rw [List.length_erase_of_mem h2, hl]; rfl
  have hr2 : rowTo (l.erase (n : Int)) n = true := by
   unfold rowTo at h1 ⊢
   rw [List.all_eq_true] at h1 ⊢
   intro i hi
   have hin := List.mem_range.1 hi
   have h3 := h1 i hi
   rw [decide_eq_true_eq] at h3 ⊢
   exact (List.mem_erase_of_ne (by omega)).2 h3
  have ih := count_full n (l.erase (n : Int)) hle hr2
  by_cases hn : a = (n : Int)
  ·omega
  ·have := ih a ((List.mem_erase_of_ne hn).2 ha)
   omega
theorem row_same (n : Nat) (hn : n ≤ 64) (l : List Int) : rowOkA (n : Int) l = rowRef12 n l := by
 unfold rowOkA rowRef12
 rw [Bool.and_comm]
 by_cases hl : (l.length : Int) = n
 ·rw [decide_eq_true hl, Bool.and_true, Bool.and_true, Bool.eq_iff_iff, decide_eq_true_eq, setL_eq, ← below_eq]
  have hm : min 64 ((n : Int)).toNat = n := by omega
  rw [hm]
  have hb : ∀ (m : List Int) (i : Nat), i < 64 → ((ofL m).testBit i = true ↔ (i : Int) ∈ m) := fun m i hi => by
   rw [testBit_ofL, decide_eq_true hi, Bool.true_and]
   unfold hasL
   rw [List.any_eq_true]
   constructor
   ·rintro ⟨x, hx, he⟩
    have : x = (i : Int) := by simpa using he
    rw [← this]; exact hx
   ·intro h; exact ⟨_, h, by simp⟩
  have hr : ∀ i : Nat, ((i : Int) ∈ (List.range n).map Int.ofNat) ↔ i < n := fun i => by
   rw [List.mem_map]
   constructor
   ·rintro ⟨q, hq, e⟩
    have := List.mem_range.1 hq
    have e2 : (q : Int) = (i : Int) := e
    omega
   ·intro h; exact ⟨i, List.mem_range.2 h, rfl⟩
  constructor
  ·intro e
   unfold rowTo
   rw [List.all_eq_true]
   intro i hi
   have hin := List.mem_range.1 hi
   rw [decide_eq_true_eq]
   refine (hb l i (by omega)).1 ?_
   rw [e]
   exact (hb _ i (by omega)).2 ((hr i).2 hin)
  ·intro h
   refine set_ext (isSet_ofL l) (isSet_ofL _) fun i hi => ?_
   rw [Bool.eq_iff_iff, hb l i hi, hb _ i hi, hr i]
   constructor
   ·intro hm
    have := count_full n l (by omega) h _ hm
    omega
   ·intro hin
    unfold rowTo at h
    have := List.all_eq_true.1 h i (List.mem_range.2 hin)
    simpa using this
 ·rw [decide_eq_false hl, Bool.and_false, Bool.and_false]
end

section
open Go.RowKit
theorem rtime_any (va : Value) (h : List TxnV) (a b : Nat) (w : World) (hT : Txns w va h) (ha : a < h.length) (hb : b < h.length) :
  Calls Tryz.prog 225 #[va, .int .i64 a, .int .i64 b] w fun e w' => e = .returned (.bool (decide (h[a].c < h[b].b))) ∧ Below w.heap.size w w' := by
 obtain ⟨ao, cap, rfl, hal⟩ := hT.form
 obtain ⟨g, o, hao, c0, c1, c2, c3⟩ := hT.at ha
 cases hao
 obtain ⟨g', o', hao, d0, d1, d2, d3⟩ := hT.at hb
 cases hao
 have hai : (a : Int) < (h.length : Int) := by omega
 have hbi : (b : Int) < (h.length : Int) := by omega
 generalize h[a].c = x at *
 generalize h[b].b = y at *
 clear c0 c1 c3 d0 d2 d3 hT
 go_enter Tryz.func225, Tryz.ntmps225
 go_wp2_with fail
 go_quiet (fail)
 go_wp2_with fail
 go_ret
 exact ⟨rfl, below_drewN (Below.refl _ _) _⟩
theorem rsession_any (va : Value) (h : List TxnV) (a b : Nat) (w : World) (hT : Txns w va h) (ha : a < h.length) (hb : b < h.length) :
  Calls Tryz.prog 224 #[va, .int .i64 a, .int .i64 b] w fun e w' => e = .returned (.bool (decide (a < b) && decide (h[a].s = h[b].s))) ∧ Below w.heap.size w w' := by
 obtain ⟨ao, cap, rfl, hal⟩ := hT.form
 obtain ⟨g, o, hao, c0, c1, c2, c3⟩ := hT.at ha
 cases hao
 obtain ⟨g', o', hao, d0, d1, d2, d3⟩ := hT.at hb
 cases hao
 have hai : (a : Int) < (h.length : Int) := by omega
 have hbi : (b : Int) < (h.length : Int) := by omega
 generalize h[a].s = x at *
 generalize h[b].s = y at *
 clear c1 c2 c3 d1 d2 d3 hT
 by_cases hab : a < b
 ·have H : Hid ((decide (a < b) && decide (x = y)) = decide (x = y)) := hid (by rw [decide_eq_true hab]; rfl)
  have habi : (a : Int) < (b : Int) := by omega
  rw [H.out]
  clear hab H
  go_enter Tryz.func224, Tryz.ntmps224
  go_wp2_with fail
  go_quiet (fail)
  go_wp2_with fail
  go_ret
  exact ⟨rfl, below_drewN (Below.refl _ _) _⟩
 ·have H : Hid ((decide (a < b) && decide (x = y)) = false) := hid (by rw [decide_eq_false hab]; rfl)
  have habi : ¬ (a : Int) < (b : Int) := by omega
  have hd : decide ((a : Int) < (b : Int)) = false := decide_eq_false habi
  have hle : (b : Int) ≤ (a : Int) := by omega
  have hdn : decide (a < b) = false := decide_eq_false hab
  rw [H.out]
  clear H
  go_enter Tryz.func224, Tryz.ntmps224
  go_wp2_with fail
  go_quiet (fail)
  go_wp2_with fail
  go_ret
  exact ⟨rfl, below_drewN (Below.refl _ _) _⟩
end

section
open Go.RowKit
def ahR (l : List Int) (i k : Int) : Bool := decide (placeI l i < placeI l k)
theorem rahead_any (va : Value) (l : List Int) (i k : Int) (w : World) (hl : Ints w va l) :
  Calls Tryz.prog 226 #[va, .int .i64 i, .int .i64 k] w fun e w' => e = .returned (.bool (ahR l i k)) ∧ w = w' := by
 have C := hid (fun j => rplace_any va l j w hl)
 have HR : Hid (ahR l i k = decide (placeI l i < placeI l k)) := hid rfl
 obtain ⟨ao, cap, rfl, hal⟩ := hl.form
 have CI := hid (C.out i)
 have CK := hid (C.out k)
 generalize ahR l i k = z at *
 generalize placeI l i = x at *
 generalize placeI l k = y at *
 clear hl C
 go_enter Tryz.func226, Tryz.ntmps226
 go_wp2_with fail
 refine (CI.out).mono ?_
 rintro e w1 ⟨rfl, rfl⟩
 go_wp2_with fail
 refine (CK.out).mono ?_
 rintro e w1 ⟨rfl, rfl⟩
 go_wp2_with fail
 go_ret
 exact ⟨ret_b HR.out.symm, rfl⟩
def mustR (h : List TxnV) (x : Nat) (l : List Int) (i k : Nat) : Bool := ((froR h i k || (hasT x 1 && sesP h i k)) || (hasT x 32 && timP h i k)) || (ahR l (i : Int) (k : Int) && (hasT x 16 || (hasT x 8 && rivR h i k)))
theorem rmust_any (va vr : Value) (h : List TxnV) (x : Nat) (hx : x < 64) (l : List Int) (i k : Nat) (hi : i < h.length) (hk : k < h.length) (hne : i ≠ k) (w : World) (hT : Txns w va h) (hl : Ints w vr l) :
  Calls Tryz.prog 188 #[va, .int .i64 x, vr, .int .i64 i, .int .i64 k] w fun e w' => e = .returned (.bool (mustR h x l i k)) ∧ Below w.heap.size w w' := by
 have CF := hid (rfrom8_any va h i k hk w hT)
 have CS := hid (fun wx (hx : Below w.heap.size w wx) => rsession_any va h i k wx (hT.below hx) hi hk)
 have CT := hid (fun wx (hx : Below w.heap.size w wx) => rtime_any va h i k wx (hT.below hx) hi hk)
 have CR := hid (fun wx (hx : Below w.heap.size w wx) => rrivals_any va h i k hi hk hne wx (hT.below hx))
 have CA := hid (fun wx (hx : Below w.heap.size w wx) => rahead_any vr l (i : Int) (k : Int) wx (hl.below hx))
 have C1 := hid (fun wx => rl_has x 1 hx (by omega) (by omega) wx)
 have C32 := hid (fun wx => rl_has x 32 hx (by omega) (by omega) wx)
 have C16 := hid (fun wx => rl_has x 16 hx (by omega) (by omega) wx)
 have C8 := hid (fun wx => rl_has x 8 hx (by omega) (by omega) wx)
 have HR : Hid (mustR h x l i k = (((froR h i k || (hasT x 1 && sesP h i k)) || (hasT x 32 && timP h i k)) || (ahR l (i : Int) (k : Int) && (hasT x 16 || (hasT x 8 && rivR h i k))))) := hid rfl
 rw [show sesP h i k = (decide (i < k) && decide (h[i].s = h[k].s)) by unfold sesP; rw [sAt_eq hi, sAt_eq hk], show timP h i k = decide (h[i].c < h[k].b) by unfold timP; rw [cAt_eq hi, bAt_eq hk]] at HR
 obtain ⟨ao, cap, rfl, hal⟩ := hT.form
 obtain ⟨ro, rcap, rfl, hrl⟩ := hl.form
 clear hT hl
 generalize mustR h x l i k = z at *
 generalize froR h i k = p1 at *
 generalize (decide (i < k) && decide (h[i].s = h[k].s)) = p2 at *
 generalize decide (h[i].c < h[k].b) = p3 at *
 generalize rivR h i k = p4 at *
 generalize ahR l (i : Int) (k : Int) = p5 at *
 generalize hasT x 1 = b1 at *
 generalize hasT x 32 = b2 at *
 generalize hasT x 16 = b3 at *
 generalize hasT x 8 = b4 at *
 go_enter Tryz.func188, Tryz.ntmps188
 go_wp2_with fail
 refine (CF.out).mono ?_
 rintro e w1 ⟨rfl, hb⟩
 cases p1 with
 | true =>
  go_wp2_with fail
  go_ret
  exact ⟨ret_b (by rw [HR.out]; rfl), hb⟩
 | false =>
  go_wp2_with fail
  refine (C1.out _).mono ?_
  rintro e w2 ⟨rfl, rfl⟩
  cases b1 with
  | true =>
   go_wp2_with fail
   refine (CS.out _ hb).mono ?_
   rintro e w2 ⟨rfl, hn⟩
   have hb := below_then hb hn
   clear hn
   cases p2 with
   | true =>
    go_wp2_with fail
    go_ret
    exact ⟨ret_b (by rw [HR.out]; rfl), hb⟩
   | false =>
    go_wp2_with fail
    refine (C32.out _).mono ?_
    rintro e w2 ⟨rfl, rfl⟩
    cases b2 with
    | true =>
     go_wp2_with fail
     refine (CT.out _ hb).mono ?_
     rintro e w2 ⟨rfl, hn⟩
     have hb := below_then hb hn
     clear hn
     cases p3 with
     | true =>
      go_wp2_with fail
      go_ret
      exact ⟨ret_b (by rw [HR.out]; rfl), hb⟩
     | false =>
      go_wp2_with fail
      refine (CA.out _ hb).mono ?_
      rintro e w2 ⟨rfl, rfl⟩
      cases p5 with
      | true =>
       go_wp2_with fail
       refine (C16.out _).mono ?_
       rintro e w2 ⟨rfl, rfl⟩
       cases b3 with
       | true =>
        go_wp2_with fail
        go_ret
        exact ⟨ret_b (by rw [HR.out]; rfl), hb⟩
       | false =>
        go_wp2_with fail
        refine (C8.out _).mono ?_
        rintro e w2 ⟨rfl, rfl⟩
        cases b4 with
        | true =>
         go_wp2_with fail
         refine (CR.out _ hb).mono ?_
         rintro e w2 ⟨rfl, hn⟩
         have hb := below_then hb hn
         clear hn
         cases p4 with
         | true =>
          go_wp2_with fail
          go_ret
          exact ⟨ret_b (by rw [HR.out]; rfl), hb⟩
         | false =>
          go_wp2_with fail
          go_ret
          exact ⟨ret_b (by rw [HR.out]; rfl), hb⟩
        | false =>
         go_wp2_with fail
         go_ret
         exact ⟨ret_b (by rw [HR.out]; rfl), hb⟩
      | false =>
       go_wp2_with fail
       go_ret
       exact ⟨ret_b (by rw [HR.out]; rfl), hb⟩
    | false =>
     go_wp2_with fail
     refine (CA.out _ hb).mono ?_
     rintro e w2 ⟨rfl, rfl⟩
     cases p5 with
     | true =>
      go_wp2_with fail
      refine (C16.out _).mono ?_
      rintro e w2 ⟨rfl, rfl⟩
      cases b3 with
      | true =>
       go_wp2_with fail
       go_ret
       exact ⟨ret_b (by rw [HR.out]; rfl), hb⟩
      | false =>
       go_wp2_with fail
       refine (C8.out _).mono ?_
       rintro e w2 ⟨rfl, rfl⟩
       cases b4 with
       | true =>
        go_wp2_with fail
        refine (CR.out _ hb).mono ?_
        rintro e w2 ⟨rfl, hn⟩
        have hb := below_then hb hn
        clear hn
        cases p4 with
        | true =>
         go_wp2_with fail
         go_ret
         exact ⟨ret_b (by rw [HR.out]; rfl), hb⟩
        | false =>
         go_wp2_with fail
         go_ret
         exact ⟨ret_b (by rw [HR.out]; rfl), hb⟩
       | false =>
        go_wp2_with fail
        go_ret
        exact ⟨ret_b (by rw [HR.out]; rfl), hb⟩
     | false =>
      go_wp2_with fail
      go_ret
      exact ⟨ret_b (by rw [HR.out]; rfl), hb⟩
  | false =>
   go_wp2_with fail
   refine (C32.out _).mono ?_
   rintro e w2 ⟨rfl, rfl⟩
   cases b2 with
   | true =>
    go_wp2_with fail
    refine (CT.out _ hb).mono ?_
    rintro e w2 ⟨rfl, hn⟩
    have hb := below_then hb hn
    clear hn
    cases p3 with
    | true =>
     go_wp2_with fail
     go_ret
     exact ⟨ret_b (by rw [HR.out]; rfl), hb⟩
    | false =>
     go_wp2_with fail
     refine (CA.out _ hb).mono ?_
     rintro e w2 ⟨rfl, rfl⟩
     cases p5 with
     | true =>
      go_wp2_with fail
      refine (C16.out _).mono ?_
      rintro e w2 ⟨rfl, rfl⟩
      cases b3 with
      | true =>
       go_wp2_with fail
       go_ret
       exact ⟨ret_b (by rw [HR.out]; rfl), hb⟩
      | false =>
       go_wp2_with fail
       refine (C8.out _).mono ?_
       rintro e w2 ⟨rfl, rfl⟩
       cases b4 with
       | true =>
        go_wp2_with fail
        refine (CR.out _ hb).mono ?_
        rintro e w2 ⟨rfl, hn⟩
        have hb := below_then hb hn
        clear hn
        cases p4 with
        | true =>
         go_wp2_with fail
         go_ret
         exact ⟨ret_b (by rw [HR.out]; rfl), hb⟩
        | false =>
         go_wp2_with fail
         go_ret
         exact ⟨ret_b (by rw [HR.out]; rfl), hb⟩
       | false =>
        go_wp2_with fail
        go_ret
        exact ⟨ret_b (by rw [HR.out]; rfl), hb⟩
     | false =>
      go_wp2_with fail
      go_ret
      exact ⟨ret_b (by rw [HR.out]; rfl), hb⟩
   | false =>
    go_wp2_with fail
    refine (CA.out _ hb).mono ?_
    rintro e w2 ⟨rfl, rfl⟩
    cases p5 with
    | true =>
     go_wp2_with fail
     refine (C16.out _).mono ?_
     rintro e w2 ⟨rfl, rfl⟩
     cases b3 with
     | true =>
      go_wp2_with fail
      go_ret
      exact ⟨ret_b (by rw [HR.out]; rfl), hb⟩
     | false =>
      go_wp2_with fail
      refine (C8.out _).mono ?_
      rintro e w2 ⟨rfl, rfl⟩
      cases b4 with
      | true =>
       go_wp2_with fail
       refine (CR.out _ hb).mono ?_
       rintro e w2 ⟨rfl, hn⟩
       have hb := below_then hb hn
       clear hn
       cases p4 with
       | true =>
        go_wp2_with fail
        go_ret
        exact ⟨ret_b (by rw [HR.out]; rfl), hb⟩
       | false =>
        go_wp2_with fail
        go_ret
        exact ⟨ret_b (by rw [HR.out]; rfl), hb⟩
      | false =>
       go_wp2_with fail
       go_ret
       exact ⟨ret_b (by rw [HR.out]; rfl), hb⟩
    | false =>
     go_wp2_with fail
     go_ret
     exact ⟨ret_b (by rw [HR.out]; rfl), hb⟩
def folJ (m : List Pr) (x : Nat) (l : List Int) (i k j : Int) : Bool := hasP m j k && ((hasT x 2 && hasP m i j) || (hasT x 4 && ahR l i j))
def folR (m : List Pr) (x : Nat) (l : List Int) (i k : Int) (n : Nat) : Bool := (List.range n).any fun j => folJ m x l i k (j : Int)
theorem rfollows_any (vm vr : Value) (m : List Pr) (n x : Nat) (hx : x < 64) (hn : n ≤ 1000) (l : List Int) (i k : Int) (w : World) (hm : Prs w vm m) (hl : Ints w vr l) :
  Calls Tryz.prog 191 #[vm, .int .i64 n, .int .i64 x, vr, .int .i64 i, .int .i64 k] w fun e w' => e = .returned (.bool (folR m x l i k n)) ∧ w = w' := by
 have CH := hid (fun a b => phas_any vm m a b w hm)
 have CA := hid (fun j => rahead_any vr l i j w hl)
 have C2 := hid (rl_has x 2 hx (by omega) (by omega) w)
 have C4 := hid (rl_has x 4 hx (by omega) (by omega) w)
 have HJ := hid (fun j : Int => show folJ m x l i k j = (hasP m j k && ((hasT x 2 && hasP m i j) || (hasT x 4 && ahR l i j))) from rfl)
 have HR : Hid (folR m x l i k n = (List.range n).any fun j => folJ m x l i k (j : Int)) := hid rfl
 obtain ⟨ao, cap, rfl, hal⟩ := hm.form
 obtain ⟨ro, rcap, rfl, hrl⟩ := hl.form
 clear hm hl
 generalize folR m x l i k n = z at *
 generalize folJ m x l i k = F at *
 generalize hasT x 2 = b1 at *
 generalize hasT x 4 = b2 at *
 go_enter Tryz.func191, Tryz.ntmps191
 go_wp2_with fail
 go_loopw [13] (fun v wr => ∃ j : Nat, j ≤ n ∧ v = .int .i64 j ∧ Hid (((List.range j).any fun j => F (j : Int)) = false) ∧ w = wr) (fun v _ => n - (intOf v).toNat)
 case atStart => exact ⟨0, by omega, rfl, hid rfl, rfl⟩
 case round =>
  obtain ⟨j, hj, rfl, HP, rfl⟩ := hrel
  by_cases hlt : j < n
  ·have hji : (j : Int) < (n : Int) := by omega
   have HS := hid (show ((List.range (j + 1)).any fun j => F (j : Int)) = F (j : Int) by rw [List.range_succ, List.any_append, HP.out]; simp)
   have HY := hid (show F (j : Int) = true → z = true from fun h => by rw [HR.out]; exact List.any_eq_true.2 ⟨j, List.mem_range.2 hlt, h⟩)
   have HQ := hid (HJ.out (j : Int))
   have D1 := hid (CH.out (j : Int) k)
   have D2 := hid (CH.out i (j : Int))
   have D3 := hid (CA.out (j : Int))
   generalize hasP m (j : Int) k = p1 at *
   generalize hasP m i (j : Int) = p2 at *
   generalize ahR l i (j : Int) = p3 at *
   generalize F (j : Int) = q at *
   clear CH CA HJ HP HR
   go_wp2_with fail
   refine (D1.out).mono ?_
   rintro e w1 ⟨rfl, rfl⟩
   cases p1 with
   | true =>
    go_wp2_with fail
    refine (C2.out).mono ?_
    rintro e w1 ⟨rfl, rfl⟩
    cases b1 with
    | true =>
     go_wp2_with fail
     refine (D2.out).mono ?_
     rintro e w1 ⟨rfl, rfl⟩
     cases p2 with
     | true =>
      have HT : Hid (true = z) := hid (HY.out (by rw [HQ.out]; rfl)).symm
      clear HS HQ HY D1 D2 D3
      go_wp2_with fail
      go_ret
      exact ⟨ret_b HT.out, rfl⟩
     | false =>
      go_wp2_with fail
      refine (C4.out).mono ?_
      rintro e w1 ⟨rfl, rfl⟩
      cases b2 with
      | true =>
       go_wp2_with fail
       refine (D3.out).mono ?_
       rintro e w1 ⟨rfl, rfl⟩
       cases p3 with
       | true =>
        have HT : Hid (true = z) := hid (HY.out (by rw [HQ.out]; rfl)).symm
        clear HS HQ HY D1 D2 D3
        go_wp2_with fail
        go_ret
        exact ⟨ret_b HT.out, rfl⟩
       | false =>
        have HN : Hid (((List.range (j + 1)).any fun j => F (j : Int)) = false) := hid (by rw [HS.out, HQ.out]; rfl)
        clear HS HQ HY D1 D2 D3
        go_wp2_with fail
        go_roundw
        case rel => exact ⟨j + 1, by omega, by go_num, HN, by first | rfl | trivial⟩
        case measure => simp [intOf]; omega
      | false =>
       have HN : Hid (((List.range (j + 1)).any fun j => F (j : Int)) = false) := hid (by rw [HS.out, HQ.out]; rfl)
       clear HS HQ HY D1 D2 D3
       go_wp2_with fail
       go_roundw
       case rel => exact ⟨j + 1, by omega, by go_num, HN, by first | rfl | trivial⟩
       case measure => simp [intOf]; omega
    | false =>
     go_wp2_with fail
     refine (C4.out).mono ?_
     rintro e w1 ⟨rfl, rfl⟩
     cases b2 with
     | true =>
      go_wp2_with fail
      refine (D3.out).mono ?_
      rintro e w1 ⟨rfl, rfl⟩
      cases p3 with
      | true =>
       have HT : Hid (true = z) := hid (HY.out (by rw [HQ.out]; rfl)).symm
       clear HS HQ HY D1 D2 D3
       go_wp2_with fail
       go_ret
       exact ⟨ret_b HT.out, rfl⟩
      | false =>
       have HN : Hid (((List.range (j + 1)).any fun j => F (j : Int)) = false) := hid (by rw [HS.out, HQ.out]; rfl)
       clear HS HQ HY D1 D2 D3
       go_wp2_with fail
       go_roundw
       case rel => exact ⟨j + 1, by omega, by go_num, HN, by first | rfl | trivial⟩
       case measure => simp [intOf]; omega
     | false =>
      have HN : Hid (((List.range (j + 1)).any fun j => F (j : Int)) = false) := hid (by rw [HS.out, HQ.out]; rfl)
      clear HS HQ HY D1 D2 D3
      go_wp2_with fail
      go_roundw
      case rel => exact ⟨j + 1, by omega, by go_num, HN, by first | rfl | trivial⟩
      case measure => simp [intOf]; omega
   | false =>
    have HN : Hid (((List.range (j + 1)).any fun j => F (j : Int)) = false) := hid (by rw [HS.out, HQ.out]; rfl)
    clear HS HQ HY D1 D2 D3
    go_wp2_with fail
    go_roundw
    case rel => exact ⟨j + 1, by omega, by go_num, HN, by first | rfl | trivial⟩
    case measure => simp [intOf]; omega
  ·have hj2 : j = n := by omega
   subst hj2
   have HV : Hid (false = z) := hid (by rw [HR.out]; exact HP.out.symm)
   clear HP HR
   go_wp2_with fail
   go_ret
   exact ⟨ret_b HV.out, rfl⟩
end

section
open Go.RowKit
def gridP (n : Nat) : List Pr := (List.range n).flatMap fun i => (List.range n).map fun k => (((i : Nat) : Int), ((k : Nat) : Int))
theorem gridP_len (n : Nat) : (gridP n).length = n * n := by
 unfold gridP
 rw [List.length_flatMap]
 have : ((List.range n).map fun i => ((List.range n).map fun k => ((((i : Nat) : Int), ((k : Nat) : Int)) : Pr)).length) = (List.range n).map fun _ => n := by simp
 rw [this, List.map_const']
 have hr : ∀ n k : Nat, (List.replicate n k).sum = n * k := by
  intro n k; induction n with
  | zero => simp
  | succ n ih => rw [List.replicate_succ, List.sum_cons, ih, Nat.succ_mul]; omega
 rw [hr, List.length_range]
theorem mem_gridP {n : Nat} {p : Pr} : p ∈ gridP n ↔ ∃ i k : Nat, i < n ∧ k < n ∧ p = ((i : Int), (k : Int)) := by
 unfold gridP
 rw [List.mem_flatMap]
 constructor
 ·rintro ⟨i, hi, h⟩
  obtain ⟨k, hk, e⟩ := List.mem_map.1 h
  exact ⟨i, k, List.mem_range.1 hi, List.mem_range.1 hk, e.symm⟩
 ·rintro ⟨i, k, hi, hk, rfl⟩
  exact ⟨i, List.mem_range.2 hi, List.mem_map.2 ⟨k, List.mem_range.2 hk, rfl⟩⟩
def InM (n : Nat) (M : Nat → Nat → Prop) (m : List Pr) : Prop := m.Nodup ∧ ∀ p ∈ m, ∃ i k : Nat, i < n ∧ k < n ∧ p = ((i : Int), (k : Int)) ∧ M i k
theorem InM.len {n : Nat} {M : Nat → Nat → Prop} {m : List Pr} (h : InM n M m) : m.length ≤ n * n := by
 rw [← gridP_len]
 refine nodup_le m (gridP n) h.1 fun p hp => ?_
 obtain ⟨i, k, hi, hk, e, _⟩ := h.2 p hp
 exact mem_gridP.2 ⟨i, k, hi, hk, e⟩
theorem InM.put {n : Nat} {M : Nat → Nat → Prop} {m : List Pr} (h : InM n M m) {i k : Nat} (hi : i < n) (hk : k < n) (hM : M i k) : InM n M (putP m (i : Int) (k : Int)) := by
 refine ⟨putP_nodup h.1, fun p hp => ?_⟩
 rcases mem_putP.1 hp with hp | rfl
 ·exact h.2 p hp
 ·exact ⟨i, k, hi, hk, rfl, hM⟩
def staR (h : List TxnV) (x : Nat) (l : List Int) (n : Nat) : Mat := fun i k => decide (i < n) && decide (k < n) && decide (i ≠ k) && mustR h x l i k
def ahdR (l : List Int) (n : Nat) : Mat := fun i k => decide (i < n) && decide (k < n) && ahR l (i : Int) (k : Int)
def LeaR (h : List TxnV) (x : Nat) (l : List Int) (n i k : Nat) : Prop := Must (staR h x l n) (ahdR l n) (hasT x 2) (hasT x 4) i k
theorem staR_iff {h : List TxnV} {x : Nat} {l : List Int} {n i k : Nat} : staR h x l n i k = true ↔ i < n ∧ k < n ∧ i ≠ k ∧ mustR h x l i k = true := by
 unfold staR; simp [and_assoc]
theorem ahdR_iff {l : List Int} {n i k : Nat} : ahdR l n i k = true ↔ i < n ∧ k < n ∧ ahR l (i : Int) (k : Int) = true := by
 unfold ahdR; simp [and_assoc]
theorem leaR_lt {h : List TxnV} {x : Nat} {l : List Int} {n i k : Nat} (hm : LeaR h x l n i k) : i < n ∧ k < n := by
 induction hm with
 | base hs => have := staR_iff.1 hs; exact ⟨this.1, this.2.1⟩
 | trans _ _ _ _ ih1 ih2 => exact ⟨ih1.1, ih2.2⟩
 | pre _ _ ha _ ih => exact ⟨(ahdR_iff.1 ha).1, ih.2⟩
def DoneTo (n : Nat) (P : Nat → Nat → Prop) (i0 k0 : Nat) : Prop := ∀ i k : Nat, i < n → k < n → (i < i0 ∨ (i = i0 ∧ k < k0)) → P i k
theorem DoneTo.row {n : Nat} {P : Nat → Nat → Prop} {i0 : Nat} (h : DoneTo n P i0 n) : DoneTo n P (i0 + 1) 0 := fun i k hi hk hlt => h i k hi hk (by omega)
theorem DoneTo.next {n : Nat} {P : Nat → Nat → Prop} {i0 k0 : Nat} (h : DoneTo n P i0 k0) (hp : P i0 k0) : DoneTo n P i0 (k0 + 1) := fun i k hi hk hlt => by
 by_cases e : i = i0 ∧ k = k0
 ·rw [e.1, e.2]; exact hp
 ·exact h i k hi hk (by omega)
theorem DoneTo.none {n : Nat} {P : Nat → Nat → Prop} : DoneTo n P 0 0 := fun i k _ _ h => by omega
theorem DoneTo.mono {n : Nat} {P Q : Nat → Nat → Prop} {i0 k0 : Nat} (h : DoneTo n P i0 k0) (hp : ∀ i k, P i k → Q i k) : DoneTo n Q i0 k0 := fun i k hi hk hlt => hp i k (h i k hi hk hlt)
theorem DoneTo.all {n : Nat} {P : Nat → Nat → Prop} {k0 : Nat} (h : DoneTo n P n k0) (i k : Nat) (hi : i < n) (hk : k < n) : P i k := h i k hi hk (.inl hi)
def FirP (h : List TxnV) (x : Nat) (l : List Int) (n : Nat) (m : List Pr) (i k : Nat) : Prop := staR h x l n i k = true → ((i : Int), (k : Int)) ∈ m
def ClsP (x : Nat) (l : List Int) (n : Nat) (m : List Pr) (i k : Nat) : Prop := hasP m (i : Int) (k : Int) = true ∨ folR m x l (i : Int) (k : Int) n = false
theorem folR_iff {m : List Pr} {x : Nat} {l : List Int} {i k : Int} {n : Nat} : folR m x l i k n = true ↔ ∃ j : Nat, j < n ∧ ((j : Int), k) ∈ m ∧ ((hasT x 2 = true ∧ (i, (j : Int)) ∈ m) ∨ (hasT x 4 = true ∧ ahR l i (j : Int) = true)) := by
 unfold folR folJ
 rw [List.any_eq_true]
 constructor
 ·rintro ⟨j, hj, h⟩
  rw [Bool.and_eq_true, Bool.or_eq_true, Bool.and_eq_true, Bool.and_eq_true, hasP_iff, hasP_iff] at h
  exact ⟨j, List.mem_range.1 hj, h.1, h.2⟩
 ·rintro ⟨j, hj, h1, h2⟩
  refine ⟨j, List.mem_range.2 hj, ?_⟩
  rw [Bool.and_eq_true, Bool.or_eq_true, Bool.and_eq_true, Bool.and_eq_true, hasP_iff, hasP_iff]
  exact ⟨h1, h2⟩
theorem fol_lea {h : List TxnV} {x : Nat} {l : List Int} {n : Nat} {m : List Pr} (hn : n ≤ 64) (hm : InM n (LeaR h x l n) m) {i k : Nat} (hi : i < n) (hf : folR m x l (i : Int) (k : Int) n = true) : LeaR h x l n i k := by
 obtain ⟨j, hj, h1, h2⟩ := folR_iff.1 hf
 obtain ⟨a, b, ha, hb, e, hab⟩ := hm.2 _ h1
 have e1 := congrArg Prod.fst e
 have e2 := congrArg Prod.snd e
 simp at e1 e2
 obtain rfl : j = a := by omega
 obtain rfl : k = b := by omega
 rcases h2 with ⟨h2, h3⟩ | ⟨h2, h3⟩
 ·obtain ⟨a, c, _, _, e, hac⟩ := hm.2 _ h3
  have e1 := congrArg Prod.fst e
  have e2 := congrArg Prod.snd e
  simp at e1 e2
  obtain rfl : i = a := by omega
  obtain rfl : j = c := by omega
  exact .trans h2 (by omega) hac hab
 ·exact .pre h2 (by omega) (ahdR_iff.2 ⟨hi, hj, h3⟩) hab
def LeaL (h : List TxnV) (x : Nat) (l : List Int) (n : Nat) (m : List Pr) : Prop := m.Nodup ∧ ∀ a b : Int, (a, b) ∈ m ↔ ∃ i k : Nat, a = (i : Int) ∧ b = (k : Int) ∧ LeaR h x l n i k
theorem lea_done {h : List TxnV} {x : Nat} {l : List Int} {n : Nat} {m : List Pr} (hm : InM n (LeaR h x l n) m) (hf : ∀ i k : Nat, i < n → k < n → FirP h x l n m i k) (hc : ∀ i k : Nat, i < n → k < n → ClsP x l n m i k) : LeaL h x l n m := by
 refine ⟨hm.1, fun a b => ⟨fun hp => ?_, ?_⟩⟩
 ·obtain ⟨i, k, _, _, e, hM⟩ := hm.2 _ hp
  exact ⟨i, k, congrArg Prod.fst e, congrArg Prod.snd e, hM⟩
 ·rintro ⟨i, k, rfl, rfl, hM⟩
  have step : ∀ i k : Nat, i < n → k < n → folR m x l (i : Int) (k : Int) n = true → ((i : Int), (k : Int)) ∈ m := fun i k hi hk hfo => by
   rcases hc i k hi hk with h | h
   ·exact hasP_iff.1 h
   ·rw [h] at hfo; cases hfo
  unfold LeaR at hM
  induction hM with
  | base hs => have := staR_iff.1 hs; exact hf _ _ this.1 this.2.1 hs
  | @trans i j k ht _ h1 h2 ih1 ih2 =>
   have l1 := leaR_lt (h := h) (x := x) (l := l) h1
   have l2 := leaR_lt (h := h) (x := x) (l := l) h2
   exact step i k l1.1 l2.2 (folR_iff.2 ⟨j, l1.2, ih2, .inl ⟨ht, ih1⟩⟩)
  | @pre i j k ht _ ha h2 ih =>
   have l1 := ahdR_iff.1 ha
   have l2 := leaR_lt (h := h) (x := x) (l := l) h2
   exact step i k l1.1 l2.2 (folR_iff.2 ⟨j, l1.2.1, ih, .inr ⟨ht, l1.2.2⟩⟩)
theorem FirP.put {h : List TxnV} {x : Nat} {l : List Int} {n : Nat} {m : List Pr} {a b : Int} {i k : Nat} (hf : FirP h x l n m i k) : FirP h x l n (putP m a b) i k := fun hs => mem_putP.2 (.inl (hf hs))
def flagOf : Value → Nat
 | .bool true => 1
 | _ => 0
theorem rof11_any (va vr : Value) (h : List TxnV) (x : Nat) (hx : x < 64) (l : List Int) (w : World) (hn : h.length ≤ 64) (hT : Txns w va h) (hl : Ints w vr l) :
  Calls Tryz.prog 148 #[va, .int .i64 x, vr] w fun e w' => ∃ v m, e = .returned v ∧ Prs w' v m ∧ LeaL h x l h.length m ∧ Below w.heap.size w w' := by
 have CM := hid (fun (i k : Nat) (hi : i < h.length) (hk : k < h.length) (hne : i ≠ k) wx (hb : Below w.heap.size w wx) => rmust_any va vr h x hx l i k hi hk hne wx (hT.below hb) (hl.below hb))
 have CF := hid (fun (vm : Value) (m : List Pr) (i k : Int) wx (hb : Below w.heap.size w wx) (hm : Prs wx vm m) => rfollows_any vm vr m h.length x hx (by omega) l i k wx hm (hl.below hb))
 have b0 := box_below w (.cells #[] 260)
 have hm0 : Prs (w.alloc (.cells #[] 260)) (.slice (some ⟨w.heap.size, 0, none⟩) 0 0) [] := Prs.of_owns (base := 0) (World.ownsRow_lit (size := 2) _ _ _ (Nat.zero_le _) (by simp) (by simp))
 have HSQ : Hid (h.length * h.length ≤ 4096) := hid (by have := Nat.mul_le_mul hn hn; omega)
 obtain ⟨ao, cap, rfl, hal⟩ := hT.form
 obtain ⟨ro, rcap, rfl, hrl⟩ := hl.form
 have HN := hid hn
 clear hT hl hn
 go_enter Tryz.func148, Tryz.ntmps148
 go_wp2_with fail
 generalize w.alloc (.cells #[] 260) = w0 at *
 go_loopw [7, 8] (fun v iv wr => ∃ (i : Nat) (m : List Pr), i ≤ h.length ∧ iv = .int .i64 i ∧ Prs wr v m ∧ Hid (InM h.length (LeaR h x l h.length) m) ∧ Hid (DoneTo h.length (FirP h x l h.length m) i 0) ∧ Below w.heap.size w wr) (fun _ iv _ => h.length - (intOf iv).toNat)
 case atStart => exact ⟨0, [], by omega, rfl, hm0, hid ⟨List.nodup_nil, fun p hp => by cases hp⟩, hid DoneTo.none, b0⟩
 case round =>
  clear hm0 b0
  obtain ⟨i, m, hi, rfl, hm, HI, HD, hb⟩ := hrel
  by_cases hlt : i < h.length
  ·have hii : (i : Int) < (h.length : Int) := by omega
   obtain ⟨mo, mcap, rfl, hml⟩ := hm.form
   clear CF
   go_wp2_with fail
   go_loopw [7, 9] (fun v kv wx => ∃ (k : Nat) (m : List Pr), k ≤ h.length ∧ kv = .int .i64 k ∧ Prs wx v m ∧ Hid (InM h.length (LeaR h x l h.length) m) ∧ Hid (DoneTo h.length (FirP h x l h.length m) i k) ∧ Below w.heap.size w wx) (fun _ kv _ => h.length - (intOf kv).toNat)
   case atStart => exact ⟨0, m, by omega, rfl, hm, HI, HD, hb⟩
   case round =>
    clear hm HI HD hb hml
    obtain ⟨k, m, hk, rfl, hm, HI, HD, hb⟩ := hrel
    obtain ⟨mo, mcap, rfl, hml⟩ := hm.form
    by_cases hlk : k < h.length
    ·have hki : (k : Int) < (h.length : Int) := by omega
     by_cases e : i = k
     ·subst e
      have HD2 := hid (HD.out.next (fun hs => absurd rfl (staR_iff.1 hs).2.2.1))
      clear HD CM
      go_wp2_with fail
      go_roundw
      case rel => exact ⟨i + 1, m, by omega, by go_num, hm, HI, HD2, hb⟩
      case measure => simp [intOf]; omega
     ·have hne : ¬ (i : Int) = (k : Int) := by omega
      have hnb : ((i : Int) == (k : Int)) = false := beq_eq_false_iff_ne.2 hne
      have CQ := hid (CM.out i k hlt hlk e _ hb)
      have HE := hid e
      cases hmu : mustR h x l i k with
      | false =>
       rw [hmu] at CQ
       have HD2 := hid (HD.out.next (fun hs => by have := (staR_iff.1 hs).2.2.2; rw [hmu] at this; cases this))
       clear HD CM hmu e
       go_wp2_with fail
       refine (CQ.out).mono ?_
       rintro e w5 ⟨rfl, h5⟩
       have hm5 := hm.below h5
       have hb5 := below_then hb h5
       clear hm hb h5
       go_wp2_with fail
       go_roundw
       case rel => exact ⟨k + 1, m, by omega, by go_num, hm5, HI, HD2, hb5⟩
       case measure => simp [intOf]; omega
      | true =>
       rw [hmu] at CQ
       have HD2 : Hid (DoneTo h.length (FirP h x l h.length (putP m (i : Int) (k : Int))) i (k + 1)) := hid ((HD.out.mono (fun _ _ hf => hf.put)).next (fun _ => mem_putP.2 (.inr rfl)))
       have HI2 := hid (HI.out.put hlt hlk (.base (staR_iff.2 ⟨hlt, hlk, e, hmu⟩)))
       have hlen : m.length ≤ 1000000000 := by have := HI.out.len; have := HSQ.out; omega
       clear HD HI CM hmu e
       go_wp2_with fail
       refine (CQ.out).mono ?_
       rintro e w5 ⟨rfl, h5⟩
       have hm5 := hm.below h5
       have hb5 := below_then hb h5
       clear hm hb h5
       go_wp2_with fail
       refine (put_any _ m (i : Int) (k : Int) _ hm5 hlen).mono ?_
       rintro e w6 ⟨v6, rfl, hm6, h6⟩
       have hb6 := below_then hb5 h6
       clear hm5 hb5 h6 hml hlen
       obtain ⟨m2, hm2⟩ : ∃ m2, m2 = putP m (i : Int) (k : Int) := ⟨_, rfl⟩
       rw [← hm2] at hm6 HI2 HD2
       clear hm2
       go_wp2_with fail
       go_roundw
       case rel => exact ⟨k + 1, m2, by omega, by go_num, hm6, HI2, HD2, hb6⟩
       case measure => simp [intOf]; omega
    ·have hkn : k = h.length := by omega
     have HD2 : Hid (DoneTo h.length (FirP h x l h.length m) (i + 1) 0) := hid (by have := HD.out; rw [hkn] at this; exact this.row)
     have hnk : ¬ (k : Int) < (h.length : Int) := by omega
     clear HD hkn CM
     go_wp2_with fail
     go_roundw
     case rel => exact ⟨i + 1, m, by omega, by go_num, hm, HI, HD2, hb⟩
     case measure => simp [intOf]; omega
  ·have hin : i = h.length := by omega
   have HF : Hid (∀ a b : Nat, a < h.length → b < h.length → FirP h x l h.length m a b) := hid (by have := HD.out; rw [hin] at this; exact fun a b ha hb => this.all a b ha hb)
   have hni : ¬ (i : Int) < (h.length : Int) := by omega
   obtain ⟨mo, mcap, rfl, hml⟩ := hm.form
   clear HD CM hin hlt hi
   go_wp2_with fail
   go_loopw [7, 10] (fun v qv wr => ∃ (m : List Pr) (q : Bool), qv = .bool q ∧ Prs wr v m ∧ Hid (InM h.length (LeaR h x l h.length) m) ∧ Hid (∀ a b : Nat, a < h.length → b < h.length → FirP h x l h.length m a b) ∧ Hid (q = false → ∀ a b : Nat, a < h.length → b < h.length → ClsP x l h.length m a b) ∧ Below w.heap.size w wr) (fun v qv _ => 2 * (5000 - lenOf v) + flagOf qv)
   case atStart => exact ⟨m, true, rfl, hm, HI, HF, hid (fun h => by cases h), hb⟩
   case round =>
    clear hm HI HF hb hml
    obtain ⟨m, q, rfl, hm, HI, HF, HC, hb⟩ := hrel
    obtain ⟨mo, mcap, rfl, hml⟩ := hm.form
    have hl0 : m.length ≤ 4096 := by have := HI.out.len; have := HSQ.out; omega
    cases q with
    | false =>
     have HL := hid (lea_done HI.out HF.out (HC.out rfl))
     clear HI HF HC
     go_wp2_with fail
     go_ret
     exact ⟨_, m, rfl, hm, HL.out, hb⟩
    | true =>
     clear HC
     go_wp2_with fail
     obtain ⟨n0, hn0⟩ : ∃ n0, n0 = m.length := ⟨_, rfl⟩
     go_loopw [7, 10, 11] (fun v qv iv wr => ∃ (i : Nat) (m : List Pr) (q : Bool), i ≤ h.length ∧ iv = .int .i64 i ∧ qv = .bool q ∧ Prs wr v m ∧ Hid (InM h.length (LeaR h x l h.length) m) ∧ Hid (∀ a b : Nat, a < h.length → b < h.length → FirP h x l h.length m a b) ∧ Hid (q = false → DoneTo h.length (ClsP x l h.length m) i 0) ∧ Hid (n0 + flagOf (.bool q) ≤ m.length) ∧ Below w.heap.size w wr) (fun _ _ iv _ => h.length - (intOf iv).toNat)
     case atStart => exact ⟨0, m, false, by omega, rfl, rfl, hm, HI, HF, hid (fun _ => DoneTo.none), hid (by simp [flagOf]; omega), hb⟩
     case round =>
      clear hm HI HF hb hml
      obtain ⟨i, m1, q, hi, rfl, rfl, hm, HI, HF, HC, HG, hb⟩ := hrel
      obtain ⟨mo1, mcap1, rfl, hml⟩ := hm.form
      by_cases hlt : i < h.length
      ·have hii : (i : Int) < (h.length : Int) := by omega
       go_wp2_with fail
       go_loopw [7, 10, 12] (fun v qv kv wx => ∃ (k : Nat) (m : List Pr) (q : Bool), k ≤ h.length ∧ kv = .int .i64 k ∧ qv = .bool q ∧ Prs wx v m ∧ Hid (InM h.length (LeaR h x l h.length) m) ∧ Hid (∀ a b : Nat, a < h.length → b < h.length → FirP h x l h.length m a b) ∧ Hid (q = false → DoneTo h.length (ClsP x l h.length m) i k) ∧ Hid (n0 + flagOf (.bool q) ≤ m.length) ∧ Below w.heap.size w wx) (fun _ _ kv _ => h.length - (intOf kv).toNat)
       case atStart => exact ⟨0, m1, q, by omega, rfl, rfl, hm, HI, HF, HC, HG, hb⟩
       case round =>
        clear hm HI HF hb hml HC HG
        obtain ⟨k, m2, q, hk, rfl, rfl, hm, HI, HF, HC, HG, hb⟩ := hrel
        obtain ⟨mo2, mcap2, rfl, hml⟩ := hm.form
        by_cases hlk : k < h.length
        ·have hki : (k : Int) < (h.length : Int) := by omega
         have CH := hid (phas_any _ m2 (i : Int) (k : Int) _ hm)
         have CQ := hid (CF.out _ m2 (i : Int) (k : Int) _ hb hm)
         cases hh : hasP m2 (i : Int) (k : Int) with
         | true =>
          have HC2 : Hid (q = false → DoneTo h.length (ClsP x l h.length m2) i (k + 1)) := hid (fun hq => (HC.out hq).next (.inl hh))
          rw [hh] at CH
          clear CQ HC hh CF
          go_wp2_with fail
          refine (CH.out).mono ?_
          rintro e w5 ⟨rfl, rfl⟩
          go_wp2_with fail
          go_roundw
          case rel => exact ⟨k + 1, m2, q, by omega, by go_num, rfl, hm, HI, HF, HC2, HG, hb⟩
          case measure => simp [intOf]; omega
         | false =>
          rw [hh] at CH
          cases hfo : folR m2 x l (i : Int) (k : Int) h.length with
          | false =>
           have HC2 : Hid (q = false → DoneTo h.length (ClsP x l h.length m2) i (k + 1)) := hid (fun hq => (HC.out hq).next (.inr hfo))
           rw [hfo] at CQ
           clear HC hh CF hfo
           go_wp2_with fail
           refine (CH.out).mono ?_
           rintro e w5 ⟨rfl, rfl⟩
           go_wp2_with fail
           refine (CQ.out).mono ?_
           rintro e w5 ⟨rfl, rfl⟩
           go_wp2_with fail
           go_roundw
           case rel => exact ⟨k + 1, m2, q, by omega, by go_num, rfl, hm, HI, HF, HC2, HG, hb⟩
           case measure => simp [intOf]; omega
          | true =>
           have HI2 := hid (HI.out.put hlt hlk (fol_lea HN.out HI.out hlt hfo))
           have HF2 : Hid (∀ a b : Nat, a < h.length → b < h.length → FirP h x l h.length (putP m2 (i : Int) (k : Int)) a b) := hid (fun a b ha hb => (HF.out a b ha hb).put)
           have HG2 : Hid (n0 + flagOf (.bool true) ≤ (putP m2 (i : Int) (k : Int)).length) := hid (by
            have := HG.out
            unfold putP
            rw [hh, if_neg (by decide), List.length_append]
            simp only [flagOf, List.length_cons, List.length_nil]
            omega)
           have hlen : m2.length ≤ 1000000000 := by have := HI.out.len; have := HSQ.out; omega
           rw [hfo] at CQ
           clear HC hh CF hfo HI HF HG
           go_wp2_with fail
           refine (CH.out).mono ?_
           rintro e w5 ⟨rfl, rfl⟩
           go_wp2_with fail
           refine (CQ.out).mono ?_
           rintro e w5 ⟨rfl, rfl⟩
           go_wp2_with fail
           refine (put_any _ m2 (i : Int) (k : Int) _ hm hlen).mono ?_
           rintro e w6 ⟨v6, rfl, hm6, h6⟩
           have hb6 := below_then hb h6
           clear hm hb h6 hml hlen CH CQ
           obtain ⟨m3, hm3⟩ : ∃ m3, m3 = putP m2 (i : Int) (k : Int) := ⟨_, rfl⟩
           rw [← hm3] at hm6 HI2 HF2 HG2
           clear hm3
           go_wp2_with fail
           go_roundw
           case rel => exact ⟨k + 1, m3, true, by omega, by go_num, rfl, hm6, HI2, HF2, hid (fun h => by cases h), HG2, hb6⟩
           case measure => simp [intOf]; omega
        ·have hkn : k = h.length := by omega
         have HC2 : Hid (q = false → DoneTo h.length (ClsP x l h.length m2) (i + 1) 0) := hid (fun hq => by have := HC.out hq; rw [hkn] at this; exact this.row)
         have hnk : ¬ (k : Int) < (h.length : Int) := by omega
         clear HC hkn CF
         go_wp2_with fail
         go_roundw
         case rel => exact ⟨i + 1, m2, q, by omega, by go_num, rfl, hm, HI, HF, HC2, HG, hb⟩
         case measure => simp [intOf]; omega
      ·have hin : i = h.length := by omega
       have HC2 : Hid (q = false → ∀ a b : Nat, a < h.length → b < h.length → ClsP x l h.length m1 a b) := hid (fun hq => by have := HC.out hq; rw [hin] at this; exact fun a b ha hb => this.all a b ha hb)
       have hni : ¬ (i : Int) < (h.length : Int) := by omega
       have hlm : m1.length ≤ 4096 := by have := HI.out.len; have := HSQ.out; omega
       have HME : Hid (2 * (5000 - m1.length) + flagOf (.bool q) < 2 * (5000 - m.length) + flagOf (.bool true)) := hid (by
        have := HG.out
        rw [hn0] at this
        cases q <;> simp only [flagOf] at * <;> omega)
       clear HC hin CF
       go_wp2_with fail
       go_roundw
       case rel => exact ⟨m1, q, rfl, hm, HI, HF, HC2, hb⟩
       case measure => exact HME.out
end

section
open Go.RowKit
def FullRow (n : Nat) (l : List Int) : Prop := l.Nodup ∧ ∀ a : Int, a ∈ l ↔ 0 ≤ a ∧ a < (n : Int)
theorem full_nodup : ∀ (n : Nat) (l : List Int), l.length = n → rowTo l n = true → l.Nodup
 | 0, l, hl, _ => by
  cases l with
  | nil => exact List.nodup_nil
  | cons a l => simp at hl
 | n + 1, l, hl, hr => by
  rw [rowTo_succ, Bool.and_eq_true, decide_eq_true_eq] at hr
  obtain ⟨h1, h2⟩ := hr
  have hle : (l.erase (n : Int)).length = n := by rw [List.length_erase_of_mem h2, hl]; rfl
  have hr2 : rowTo (l.erase (n : Int)) n = true := by
   unfold rowTo at h1 ⊢
   rw [List.all_eq_true] at h1 ⊢
   intro i hi
   have hin := List.mem_range.1 hi
   have h3 := h1 i hi
   rw [decide_eq_true_eq] at h3 ⊢
   exact (List.mem_erase_of_ne (by omega)).2 h3
  have ih := full_nodup n (l.erase (n : Int)) hle hr2
  have hlt := count_full n (l.erase (n : Int)) hle hr2
  have hp := List.perm_cons_erase h2
  rw [hp.nodup_iff, List.nodup_cons]
  exact ⟨fun hm => by have := hlt _ hm; omega, ih⟩
theorem full_of_row {n : Nat} {l : List Int} (h : rowRef12 n l = true) : FullRow n l := by
 unfold rowRef12 at h
 rw [Bool.and_eq_true, decide_eq_true_eq] at h
 obtain ⟨h1, h2⟩ := h
 refine ⟨full_nodup n l (by omega) h1, fun a => ⟨fun ha => count_full n l (by omega) h1 a ha, fun ha => ?_⟩⟩
 unfold rowTo at h1
 have := List.all_eq_true.1 h1 a.toNat (List.mem_range.2 (by omega))
 rw [decide_eq_true_eq] at this
 have e : ((a.toNat : Nat) : Int) = a := by omega
 rw [e] at this
 exact this
theorem full_of_perm {n : Nat} {L : List Nat} (h : L.Perm (List.range n)) : FullRow n (L.map Int.ofNat) := by
 refine ⟨nodup_ofNat (h.nodup_iff.2 List.nodup_range), fun a => ?_⟩
 rw [List.mem_map]
 constructor
 ·rintro ⟨k, hk, rfl⟩
  have := List.mem_range.1 (h.mem_iff.1 hk)
  have e : Int.ofNat k = (k : Int) := rfl
  rw [e]; omega
 ·intro ha
  exact ⟨a.toNat, h.mem_iff.2 (List.mem_range.2 (by omega)), by have : Int.ofNat a.toNat = ((a.toNat : Nat) : Int) := rfl; rw [this]; omega⟩
theorem placeF_at : ∀ (l : List Int) (k0 k : Nat) (hk : k < l.length), l.Nodup → placeF l l[k] k0 = ((k0 + k : Nat) : Int)
 | [], _, k, hk, _ => by simp at hk
 | a :: l, k0, 0, _, _ => by unfold placeF; rw [if_pos (by rfl)]; rfl
 | a :: l, k0, k + 1, hk, hn => by
  rw [List.nodup_cons] at hn
  have hk2 : k < l.length := by simpa using hk
  have hne : ¬ a = (a :: l)[k + 1] := fun e => hn.1 (by rw [e]; exact List.getElem_mem hk2)
  unfold placeF
  rw [if_neg hne]
  have := placeF_at l (k0 + 1) k hk2 hn.2
  rw [show k0 + (k + 1) = k0 + 1 + k by omega]
  exact this
theorem placeI_at {l : List Int} (hn : l.Nodup) {k : Nat} (hk : k < l.length) : placeI l l[k] = (k : Int) := by
 unfold placeI
 rw [placeF_at l 0 k hk hn, Nat.zero_add]
theorem placeI_nn {l : List Int} {a : Int} : 0 ≤ placeI l a ↔ a ∈ l := by
 have h := placeF_neg a l 0
 have h2 : placeI l a < 0 ↔ a ∉ l := h
 constructor
 ·intro h3
  exact Decidable.byContradiction fun h4 => by have := h2.2 h4; omega
 ·intro h3
  exact Decidable.byContradiction fun h4 => h2.1 (by omega) h3
theorem ahR_iff {l : List Int} (hn : l.Nodup) {a b : Int} (ha : a ∈ l) (hb : b ∈ l) : ahR l a b = true ↔ Ahead l a b := by
 obtain ⟨i, hi, rfl⟩ := List.mem_iff_getElem.1 ha
 obtain ⟨j, hj, rfl⟩ := List.mem_iff_getElem.1 hb
 unfold ahR
 rw [placeI_at hn hi, placeI_at hn hj, decide_eq_true_eq, ahead_at]
 constructor
 ·intro hij
  refine ⟨i, hi, by rw [List.getD_eq_getElem?_getD, List.getElem?_eq_getElem hi]; rfl, ?_⟩
  refine List.mem_iff_getElem.2 ⟨j - (i + 1), by rw [List.length_drop]; omega, ?_⟩
  rw [List.getElem_drop]
  congr 1
  omega
 ·rintro ⟨p, hp, h1, h2⟩
  rw [List.getD_eq_getElem?_getD, List.getElem?_eq_getElem hp, Option.getD_some] at h1
  obtain ⟨q, hq, h3⟩ := List.mem_iff_getElem.1 h2
  rw [List.length_drop] at hq
  rw [List.getElem_drop] at h3
  have e1 : p = i := (List.getElem_inj hn).1 h1
  have e2 : p + 1 + q = j := (List.getElem_inj hn).1 h3
  omega
theorem chain_mem {l : List Int} {i j : Nat} (h : chainR l i j = true) : (i : Int) ∈ l ∧ (j : Int) ∈ l := (( chainR_iff i j l).1 h).mem
theorem chain_ahd {n : Nat} {l : List Int} (hf : FullRow n l) (i j : Nat) : chainR l i j = true ↔ ahdR l n i j = true := by
 rw [ahdR_iff]
 constructor
 ·intro h
  obtain ⟨h1, h2⟩ := chain_mem h
  have h3 := (hf.2 _).1 h1
  have h4 := (hf.2 _).1 h2
  exact ⟨by omega, by omega, (ahR_iff hf.1 h1 h2).2 ((chainR_iff i j l).1 h)⟩
 ·rintro ⟨h1, h2, h3⟩
  have m1 : (i : Int) ∈ l := (hf.2 _).2 (by omega)
  have m2 : (j : Int) ∈ l := (hf.2 _).2 (by omega)
  exact (chainR_iff i j l).2 ((ahR_iff hf.1 m1 m2).1 h3)
theorem chain_irr {n : Nat} {l : List Int} (hf : FullRow n l) (i : Nat) : chainR l i i = false := by
 cases h : chainR l i i with
 | false => rfl
 | true => exact absurd ((chainR_iff i i l).1 h) (ahead_irr hf.1 _)
theorem hasT_bits : ∀ k : Fin 64, hasT k.val 1 = k.val.testBit 0 ∧ hasT k.val 2 = k.val.testBit 1 ∧ hasT k.val 4 = k.val.testBit 2 ∧ hasT k.val 8 = k.val.testBit 3 ∧ hasT k.val 16 = k.val.testBit 4 ∧ hasT k.val 32 = k.val.testBit 5 := by decide +kernel
theorem hasP_rep {V : Mat} {m : List Pr} (h : Rep V m) {i j : Nat} (hi : i < 64) (hj : j < 64) : hasP m (i : Int) (j : Int) = V i j := by
 rw [Bool.eq_iff_iff, hasP_iff, ← hasR_rep h, hasR_nat V i j hi hj]
theorem wrt_bit {h : List TxnV} (hc : checkI h = 0) {j : Nat} (hj : j < h.length) (y : Int) : (wrtN h y).testBit j = wrsR h j y := by
 have h64 := (check_zero hc).1
 unfold wrtN
 rw [testBit_mkS, decide_eq_true (show j < 64 by omega), decide_eq_true hj, Bool.true_and, Bool.true_and, Bool.eq_iff_iff, decide_eq_true_eq, keysOf_iff hc hj]
def lstR (h : List TxnV) (m : List Pr) (i key : Int) (l : List Int) : Int := l.foldl (fun out a => if (hasP m a i && wrsR h a.toNat key) = true then a else out) (-1)
theorem lstR_snoc (h : List TxnV) (m : List Pr) (i key : Int) (l : List Int) (a : Int) : lstR h m i key (l ++ [a]) = if (hasP m a i && wrsR h a.toNat key) = true then a else lstR h m i key l := by
 unfold lstR; rw [List.foldl_append]; rfl
theorem lstR_take (h : List TxnV) (m : List Pr) (i key : Int) (l : List Int) (k : Nat) (hk : k < l.length) : lstR h m i key (l.take (k + 1)) = if (hasP m l[k] i && wrsR h l[k].toNat key) = true then l[k] else lstR h m i key (l.take k) := by
 rw [List.take_succ_eq_append_getElem hk, lstR_snoc]
theorem lstR_same {h : List TxnV} {V : Mat} {m : List Pr} (hc : checkI h = 0) (hR : Rep V m) {i : Nat} (hi : i < 64) (y : Int) : ∀ r : List Int, (∀ a ∈ r, 0 ≤ a ∧ a < (h.length : Int)) → lstR h m (i : Int) y r.reverse = lastI r.reverse (seeTo V (i : Int) 64 &&& wrtN h y)
 | [], _ => rfl
 | a :: r, ha => by
  have h64 := (check_zero hc).1
  have ih := lstR_same hc hR hi y r (fun b hb => ha b (List.mem_cons_of_mem _ hb))
  have h1 := ha a List.mem_cons_self
  obtain ⟨j, rfl⟩ := Int.eq_ofNat_of_zero_le h1.1
  have hj : j < h.length := by omega
  rw [List.reverse_cons, lastI_snoc, lstR_snoc, ih, hasB_nat (show j < 64 by omega), seen_bit hi (show j < 64 by omega), hasP_rep hR (show j < 64 by omega) hi, wrt_bit hc hj, Int.toNat_natCast]
def pairOkR (l : List Int) (p : Pr) : Bool := decide (0 ≤ placeI l p.1) && (decide (0 ≤ placeI l p.2) && decide (placeI l p.1 < placeI l p.2))
def rdOkR (h : List TxnV) (l : List Int) (m : List Pr) (i : Nat) (r : Int × Int) : Bool := decide (lstR h m (i : Int) r.1 l = r.2)
def rightR (h : List TxnV) (l : List Int) (m : List Pr) : Bool := rowRef12 h.length l && (m.all (pairOkR l) && (List.range h.length).all fun i => (rdR h (i : Int) (refReads (opsAt h i))).all (rdOkR h l m i))
theorem all_congr {α : Type} {p q : α → Bool} : ∀ (l : List α), (∀ a ∈ l, p a = q a) → l.all p = l.all q
 | [], _ => rfl
 | a :: l, h => by rw [List.all_cons, List.all_cons, h a List.mem_cons_self, all_congr l (fun b hb => h b (List.mem_cons_of_mem _ hb))]
theorem right_same {h : List TxnV} {V : Mat} {m : List Pr} (hc : checkI h = 0) (hR : Rep V m) (l : List Int) : rightM h l V = rightR h l m := by
 have h64 := (check_zero hc).1
 unfold rightM rightR
 rw [row_same h.length h64 l]
 cases hrow : rowRef12 h.length l with
 | false => rfl
 | true =>
  have hf := full_of_row hrow
  rw [Bool.true_and, Bool.true_and]
  have e1 : inM V (chainR l) = m.all (pairOkR l) := by
   rw [Bool.eq_iff_iff, inM_iff, List.all_eq_true]
   constructor
   ·rintro H ⟨a, b⟩ hp
    obtain ⟨i, j, hi, hj, rfl, rfl, hv⟩ := (hR.2 _ _).1 hp
    have hch := H i j hi hj hv
    obtain ⟨m1, m2⟩ := chain_mem hch
    have h3 := (ahR_iff hf.1 m1 m2).2 ((chainR_iff i j l).1 hch)
    unfold ahR at h3
    unfold pairOkR
    simp only
    rw [decide_eq_true (placeI_nn.2 m1), decide_eq_true (placeI_nn.2 m2), h3]; rfl
   ·intro H i j hi hj hv
    have := H _ ((hR.2 _ _).2 ⟨i, j, hi, hj, rfl, rfl, hv⟩)
    unfold pairOkR at this
    simp only [Bool.and_eq_true, decide_eq_true_eq] at this
    have m1 := placeI_nn.1 this.1
    have m2 := placeI_nn.1 this.2.1
    exact (chainR_iff i j l).2 ((ahR_iff hf.1 m1 m2).1 (by unfold ahR; exact decide_eq_true this.2.2))
  rw [e1]
  congr 1
  unfold rightTo
  refine all_congr _ fun i hi => ?_
  have hin := List.mem_range.1 hi
  rw [reads_same hc hin, opsAt_eq hin]
  refine all_congr _ fun r _ => ?_
  unfold readOk rdOkR
  have := lstR_same hc hR (show i < 64 by omega) r.1 l.reverse (fun a ha => (hf.2 a).1 (List.mem_reverse.1 ha))
  rw [List.reverse_reverse] at this
  rw [this]
theorem rivM_at {h : List TxnV} {l : List Int} {i k : Nat} (hi : i < h.length) (hk : k < h.length) (hne : i ≠ k) : rivM h (chainR l) i k = (chainR l i k && rivR h i k) := by
 unfold rivM rivB
 rw [decide_eq_true hi, decide_eq_true hk, decide_eq_true hne, Bool.true_and, Bool.true_and, Bool.true_and]
theorem lea_must {h : List TxnV} {x y : Nat} {l : List Int} (hc : checkI h = 0) (hf : FullRow h.length l) (hx : x < 64) (hy : y < 9223372036854775808) (hb : ∀ b, b < 6 → y.testBit b = x.testBit b) {i j : Nat} (hi : i < 64) (hj : j < 64) :
  Must (startM h (y : Int) (chainR l)) (chainR l) (trB y) (pfB y) i j ↔ LeaR h x l h.length i j := by
 have h64 := (check_zero hc).1
 obtain ⟨t1, t2, t4, t8, t16, t32⟩ := hasT_bits ⟨x, hx⟩
 simp only at t1 t2 t4 t8 t16 t32
 have ah : ∀ i j : Nat, i < h.length → j < h.length → (ahR l (i : Int) (j : Int) = true ↔ chainR l i j = true) := fun i j hi hj => by
  rw [chain_ahd hf, ahdR_iff]; exact ⟨fun h => ⟨hi, hj, h⟩, fun h => h.2.2⟩
 have hch : ∀ i j, chainR l i j = true → i < h.length ∧ j < h.length ∧ i ≠ j := fun i j hc2 => by
  obtain ⟨m1, m2⟩ := chain_mem hc2
  have h3 := (hf.2 _).1 m1
  have h4 := (hf.2 _).1 m2
  refine ⟨by omega, by omega, ?_⟩
  rintro rfl
  rw [chain_irr hf] at hc2; cases hc2
 constructor
 ·intro hm
  refine must_in (V := fun i j => LeaR h x l h.length i j) ?_ ?_ ?_ hm hi hj
  ·intro i j hi hj hs
   refine .base (staR_iff.2 ?_)
   rw [startM_iff h y hy, baseM_iff h y hy, hb 0 (by omega), hb 5 (by omega), hb 3 (by omega), hb 4 (by omega), ← t1, ← t32, ← t8, ← t16] at hs
   unfold mustR
   simp only [Bool.or_eq_true, Bool.and_eq_true]
   rcases hs with (hs | ⟨h1, h2⟩ | ⟨h1, h2⟩) | ⟨h1, h2⟩ | ⟨h1, h2⟩
   ·obtain ⟨a1, a2, a3⟩ := (prsTo_iff (froP h) h.length i j hi hj h.length).1 hs
    rw [fro_same hc i a2] at a3
    refine ⟨a1, a2, ?_, .inl (.inl (.inl a3))⟩
    rintro rfl
    rw [froR_irr] at a3; cases a3
   ·obtain ⟨a1, a2, a3⟩ := (prsTo_iff (sesP h) h.length i j hi hj h.length).1 h2
    refine ⟨a1, a2, ?_, .inl (.inl (.inr ⟨h1, a3⟩))⟩
    unfold sesP at a3
    rw [Bool.and_eq_true, decide_eq_true_eq] at a3
    omega
   ·obtain ⟨a1, a2, a3⟩ := (prsTo_iff (timP h) h.length i j hi hj h.length).1 h2
    refine ⟨a1, a2, ?_, .inl (.inr ⟨h1, a3⟩)⟩
    rintro rfl
    unfold timP at a3
    rw [decide_eq_true_eq, cAt_eq a1, bAt_eq a1] at a3
    have := bc_of hc a1
    omega
   ·have hA := rivM_in h _ i j h2
    obtain ⟨a1, a2, a3⟩ := hch i j hA
    rw [rivM_at a1 a2 a3, Bool.and_eq_true] at h2
    exact ⟨a1, a2, a3, .inr ⟨(ah i j a1 a2).2 hA, .inr ⟨h1, h2.2⟩⟩⟩
   ·obtain ⟨a1, a2, a3⟩ := hch i j h2
    exact ⟨a1, a2, a3, .inr ⟨(ah i j a1 a2).2 h2, .inl h1⟩⟩
  ·intro ht i q j _ hq _ h1 h2
   exact .trans (by rw [t2, ← hb 1 (by omega), ← trB_bit y hy]; exact ht) hq h1 h2
  ·intro ht i q j _ hq _ h1 h2
   exact .pre (by rw [t4, ← hb 2 (by omega), ← pfB_bit y hy]; exact ht) hq ((chain_ahd hf i q).1 h1) h2
 ·intro hm
  unfold LeaR at hm
  induction hm with
  | base hs =>
   obtain ⟨a1, a2, a3, a4⟩ := staR_iff.1 hs
   refine .base ?_
   rw [startM_iff h y hy, baseM_iff h y hy, hb 0 (by omega), hb 5 (by omega), hb 3 (by omega), hb 4 (by omega), ← t1, ← t32, ← t8, ← t16]
   unfold mustR at a4
   simp only [Bool.or_eq_true, Bool.and_eq_true] at a4
   rcases a4 with ((a4 | ⟨h1, h2⟩) | ⟨h1, h2⟩) | ⟨h1, h2⟩
   ·exact .inl (.inl ((prsTo_iff (froP h) h.length _ _ hi hj h.length).2 ⟨a1, a2, by rw [fro_same hc _ a2]; exact a4⟩))
   ·exact .inl (.inr (.inl ⟨h1, (prsTo_iff (sesP h) h.length _ _ hi hj h.length).2 ⟨a1, a2, h2⟩⟩))
   ·exact .inl (.inr (.inr ⟨h1, (prsTo_iff (timP h) h.length _ _ hi hj h.length).2 ⟨a1, a2, h2⟩⟩))
   ·have hA := (ah _ _ a1 a2).1 h1
    rcases h2 with h2 | ⟨h2, h3⟩
    ·exact .inr (.inr ⟨h2, hA⟩)
    ·exact .inr (.inl ⟨h2, by rw [rivM_at a1 a2 a3, hA, h3]; rfl⟩)
  | @trans i q j ht hq _ _ ih1 ih2 => exact .trans (by rw [trB_bit y hy, hb 1 (by omega), ← t2]; exact ht) hq (ih1 hi hq) (ih2 hq hj)
  | @pre i q j ht hq ha _ ih => exact .pre (by rw [pfB_bit y hy, hb 2 (by omega), ← t4]; exact ht) hq ((chain_ahd hf i q).2 ha) (ih hq hj)
theorem lea_rep {h : List TxnV} {x y : Nat} {l : List Int} {m : List Pr} {R : Mat} (hc : checkI h = 0) (hf : FullRow h.length l) (hx : x < 64) (hy : y < 9223372036854775808) (hb : ∀ b, b < 6 → y.testBit b = x.testBit b) (hL : LeaL h x l h.length m) (hR : LeastIs h y l R) : Rep R m := by
 have h64 := (check_zero hc).1
 refine ⟨hL.1, fun a b => ?_⟩
 rw [hL.2]
 constructor
 ·rintro ⟨i, k, rfl, rfl, hM⟩
  have := leaR_lt hM
  exact ⟨i, k, by omega, by omega, rfl, rfl, (hR i k (by omega) (by omega)).2 ((lea_must hc hf hx hy hb (by omega) (by omega)).2 hM)⟩
 ·rintro ⟨i, k, hi, hk, rfl, rfl, hr⟩
  exact ⟨i, k, rfl, rfl, (lea_must hc hf hx hy hb hi hk).1 ((hR i k hi hk).1 hr)⟩
end

end Go.Proofs.YtadihdkpoeibhaaGreatDoor
