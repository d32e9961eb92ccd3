/- Walks and plain facts that the proof of the statement WholeWays uses, joined: PlaI TopD. Conditions: each theorem's own. -/
import Derived.Test.YtfancjmhdbaoeaaGreatDoorPWholeWays4
import Derived.Test.YtfancjmhdbaoeaaGreatDoorPWholeWays8
import Derived.Test.YtfancjmhdbaoeaaGreatDoorPWholeWays9
namespace Go.Proofs.YtfancjmhdbaoeaaGreatDoor
set_option maxRecDepth 100000
open Go.RowKit

section
variable {W : World} {S B b : Nat} {h : List TxnV} {C : Nat} {r : List Nat} {vb vr : Value} {aF sF : Nat → Nat} {w : World}
set_option maxRecDepth 100000 in
set_option maxHeartbeats 16000000 in
theorem pundo_cons {i : Nat} (p : PlIs W S B b h C (i :: r) vb vr aF sF w) (h64 : h.length ≤ 64) : Calls Tryz.prog 28 #[.pointer (some ⟨S, 0, none⟩)] w fun e w' => e = .returned (.bool true) ∧ ∃ vr', PlIs W S B b h C r vb vr' aF sF w' ∧ PlStep S vr vr' w w' := by
  obtain ⟨ao, cap, rfl⟩ := p.form
  have hlen := p.len
  simp only [List.length_cons] at p hlen ⊢
  have HU := Lib.hid (fun wx (hx : Below w.heap.size w wx) => (p.below hx).undo)
  have HX := Lib.hid (fun wx (hx : Below w.heap.size w wx) => PlStep.of_below (S := S) (vr := .slice ao (r.length + 1) cap) hx)
  have hrow := p.row
  have hl1 : ((i :: r).reverse.map Int.ofNat).length = r.length + 1 := by simp
  obtain ⟨g, o, hao, hcell⟩ := Ints.at (ao := ao) (n := r.length + 1) (cap := cap) hrow (k := r.length) (by rw [hl1]; omega)
  subst hao
  have hval : ((i :: r).reverse.map Int.ofNat)[r.length]'(by rw [hl1]; omega) = (i : Int) := by simp
  rw [hval] at hcell
  have HS := Lib.hid (fun wx (hx : Below w.heap.size w wx) => And.intro (p.below hx).a.cR (And.intro (p.below hx).a.cP (And.intro ((hx.cell (p := ⟨g, o + r.length, none⟩) (block_lt hcell)).trans hcell) (And.intro ((p.below hx).a.free (i := 3) (by omega)) ((p.below hx).a.free (i := 4) (by omega))))))
  have hpop := plS_pop (i := i) (r := r) (List.nodup_cons.1 p.nd).1 (fun a ha => by have := p.lt a ha; omega)
  have CW := Lib.hid (fun wx => wo_any (plS (i :: r)) (i : Int) wx (plS_set _))
  rw [hpop] at CW
  have hr64 : (r.length : Int) < 64 := by omega
  have hr1 : (r.length : Int) + 1 - 1 = (r.length : Int) := by omega
  have hr2 : (r.length : Int) < (r.length : Int) + 1 := by omega
  have hc1 : r.length ≤ cap := by
    have := p.rw.2
    rcases this with ⟨e, _⟩ | ⟨_, _, _, e, _, _, hh, _⟩
    · cases e
    · simp only [Value.slice.injEq] at e
      simp only [List.length_cons] at hh
      omega
  have hc2 : (r.length : Int) ≤ (cap : Int) := by omega
  have kd0 := Below.refl w.heap.size w
  obtain ⟨n3, n4, _, _, _⟩ := HS.out _ kd0
  clear p hrow hl1 hval hcell hpop hlen
  generalize plS (i :: r) = s1 at *
  generalize plS r = s0 at *
  generalize r.length = n at *
  go_enter Tryz.func28, Tryz.ntmps28
  go_upto_region 4 with fail
  have kd := kd0.drew
  clear n3 n4 kd0
  refine wp_region_held_drew (S := fun _ => True) (by kernel_rfl) trivial (fun hS0 => ?_)
  generalize w.drew = wd at *
  obtain ⟨n3, n4, n5, f3, f4⟩ := HS.out _ kd
  refine takeG (some 16) (i := 0) (v := ?vu0x1) rfl rfl (by kernel_rfl) (by kernel_rfl) (by kernel_rfl) (fun _ _ _ h => h) (Or.inl ⟨by rfl, ?hu0x1⟩) hS0 ?ru0x1
  case hu0x1 => (intro w _; go_simp; try (with_reducible rfl))
  try simp only [Act.put, List.setIfInBounds_toArray, List.set_cons_zero, List.set_cons_succ]
  refine takeG (some 17) (i := 1) (v := ?vu1x2) rfl rfl (by kernel_rfl) (by kernel_rfl) (by kernel_rfl) (fun _ _ _ h => h) (Or.inl ⟨by rfl, ?hu1x2⟩) hS0 ?ru1x2
  case hu1x2 => (intro w _; go_simp; try (with_reducible rfl))
  try simp only [Act.put, List.setIfInBounds_toArray, List.set_cons_zero, List.set_cons_succ]
  refine takeG (some 18) (i := 2) (v := ?vu2x3) rfl rfl (by kernel_rfl) (by kernel_rfl) (by kernel_rfl) (fun _ _ _ h => h) (Or.inl ⟨by rfl, ?hu2x3⟩) hS0 ?ru2x3
  case hu2x3 => (intro w _; go_simp; try (with_reducible rfl))
  try simp only [Act.put, List.setIfInBounds_toArray, List.set_cons_zero, List.set_cons_succ]
  refine takeG (some 19) (i := 3) (v := ?vu3x4) rfl rfl (by kernel_rfl) (by kernel_rfl) (by kernel_rfl) (fun _ _ _ h => h) (Or.inl ⟨by rfl, ?hu3x4⟩) hS0 ?ru3x4
  case hu3x4 => (intro w _; go_simp; try (with_reducible rfl))
  try simp only [Act.put, List.setIfInBounds_toArray, List.set_cons_zero, List.set_cons_succ]
  refine takeG (some 20) (i := 4) (v := ?vu4x5) rfl rfl (by kernel_rfl) (by kernel_rfl) (by kernel_rfl) (fun _ _ _ h => h) (Or.inl ⟨by rfl, ?hu4x5⟩) hS0 ?ru4x5
  case hu4x5 => (intro w _; go_simp; try (with_reducible rfl))
  try simp only [Act.put, List.setIfInBounds_toArray, List.set_cons_zero, List.set_cons_succ]
  refine takeG (some 22) (i := 6) (v := ?vu6x6) rfl rfl (by kernel_rfl) (by kernel_rfl) (by kernel_rfl) (fun _ _ _ h => h) (Or.inl ⟨by rfl, ?hu6x6⟩) hS0 ?ru6x6
  case hu6x6 => (intro w _; go_simp; try (with_reducible rfl))
  try simp only [Act.put, List.setIfInBounds_toArray, List.set_cons_zero, List.set_cons_succ]
  refine takeG (some 24) (i := 8) (v := ?vu8x7) rfl rfl (by kernel_rfl) (by kernel_rfl) (by kernel_rfl) (fun _ _ _ h => h) (Or.inl ⟨by rfl, ?hu8x7⟩) hS0 ?ru8x7
  case hu8x7 => (intro w _; go_simp; try (with_reducible rfl))
  try simp only [Act.put, List.setIfInBounds_toArray, List.set_cons_zero, List.set_cons_succ]
  refine takeG (some 25) (i := 9) (v := ?vu9x8) rfl rfl (by kernel_rfl) (by kernel_rfl) (by kernel_rfl) (fun _ _ _ h => h) (Or.inl ⟨by rfl, ?hu9x8⟩) hS0 ?ru9x8
  case hu9x8 => (intro w _; go_simp; try (with_reducible rfl))
  try simp only [Act.put, List.setIfInBounds_toArray, List.set_cons_zero, List.set_cons_succ]
  refine takeG (some 26) (i := 10) (v := ?vu10x9) rfl rfl (by kernel_rfl) (by kernel_rfl) (by kernel_rfl) (fun _ _ _ h => h) (Or.inl ⟨by rfl, ?hu10x9⟩) hS0 ?ru10x9
  case hu10x9 => (intro w _; go_simp; try (with_reducible rfl))
  try simp only [Act.put, List.setIfInBounds_toArray, List.set_cons_zero, List.set_cons_succ]
  refine takeG (some 28) (i := 12) (v := ?vu12x10) rfl rfl (by kernel_rfl) (by kernel_rfl) (by kernel_rfl) (fun _ _ _ h => h) (Or.inl ⟨by rfl, ?hu12x10⟩) hS0 ?ru12x10
  case hu12x10 => (intro w _; go_simp; try (with_reducible rfl))
  try simp only [Act.put, List.setIfInBounds_toArray, List.set_cons_zero, List.set_cons_succ]
  refine takeG (some 29) (i := 13) (v := ?vu13x11) rfl rfl (by kernel_rfl) (by kernel_rfl) (by kernel_rfl) (fun _ _ _ h => h) (Or.inl ⟨by rfl, ?hu13x11⟩) hS0 ?ru13x11
  case hu13x11 => (intro w _; go_simp; try (with_reducible rfl))
  try simp only [Act.put, List.setIfInBounds_toArray, List.set_cons_zero, List.set_cons_succ]
  refine takeG (some 30) (i := 14) (v := ?vu14x12) rfl rfl (by kernel_rfl) (by kernel_rfl) (by kernel_rfl) (fun _ _ _ h => h) (Or.inl ⟨by rfl, ?hu14x12⟩) hS0 ?ru14x12
  case hu14x12 => (intro w _; go_simp; try (with_reducible rfl))
  try simp only [Act.put, List.setIfInBounds_toArray, List.set_cons_zero, List.set_cons_succ]
  refine takeG (some 32) (i := 16) (v := ?vu16x13) rfl rfl (by kernel_rfl) (by kernel_rfl) (by kernel_rfl) (fun _ _ _ h => h) (Or.inl ⟨by rfl, ?hu16x13⟩) hS0 ?ru16x13
  case hu16x13 => (intro w _; go_simp; try (with_reducible rfl))
  try simp only [Act.put, List.setIfInBounds_toArray, List.set_cons_zero, List.set_cons_succ]
  refine wpAnyH_ready (rs := [5, 11, 15]) (by kernel_rfl) (by simp) ?_
  refine AllReadyH.cons rfl (fun K hK => ?_) (AllReadyH.cons rfl (fun K hK => ?_) (AllReadyH.cons rfl (fun K hK => ?_) AllReadyH.nil))
  ·
    go_simp
    refine hK.out _ _ trivial (fun _ => ?_)
    clear hK K
    refine takeG (some 23) (i := 7) (v := ?vu7x15) rfl rfl (by kernel_rfl) (by kernel_rfl) (by kernel_rfl) (fun _ _ _ h => h) (Or.inl ⟨by rfl, ?hu7x15⟩) hS0 ?ru7x15
    case hu7x15 => (intro w _; go_simp; try (with_reducible rfl))
    try simp only [Act.put, List.setIfInBounds_toArray, List.set_cons_zero, List.set_cons_succ]
    refine wpAnyH_ready (rs := [11, 15]) (by kernel_rfl) (by simp) ?_
    refine AllReadyH.cons rfl (fun K hK => ?_) (AllReadyH.cons rfl (fun K hK => ?_) AllReadyH.nil)
    ·
      go_simp
      refine hK.out _ _ trivial (fun _ => ?_)
      clear hK K
      refine wpAnyH_ready (rs := [15]) (by kernel_rfl) (by simp) ?_
      refine AllReadyH.cons rfl (fun K hK => ?_) AllReadyH.nil
      go_simp
      refine hK.out _ _ trivial (fun _ => ?_)
      clear hK K
      refine takeG (some 33) (i := 17) (v := ?vu17x18) rfl rfl (by kernel_rfl) (by kernel_rfl) (by kernel_rfl) (fun _ _ _ h => h) (Or.inl ⟨by rfl, ?hu17x18⟩) hS0 ?ru17x18
      case hu17x18 => (intro w _; go_simp; try (with_reducible rfl))
      try simp only [Act.put, List.setIfInBounds_toArray, List.set_cons_zero, List.set_cons_succ]
      refine wpAnyH_ready (rs := [18]) (by kernel_rfl) (by simp) ?_
      refine AllReadyH.cons rfl (fun K hK => ?_) AllReadyH.nil
      go_simp
      refine hK.out _ _ trivial (fun _ => ?_)
      clear hK K
      refine wpAnyH_ready (rs := [19]) (by kernel_rfl) (by simp) ?_
      refine AllReadyH.cons rfl (fun K hK => ?_) AllReadyH.nil
      go_simp
      refine (CW.out _).mono ?_
      rintro e y1 ⟨rfl, rfl⟩
      show K _ _
      refine hK.out _ _ trivial (fun _ => ?_)
      clear hK K
      refine takeG (some 36) (i := 20) (v := ?vu20x21) rfl rfl (by kernel_rfl) (by kernel_rfl) (by kernel_rfl) (fun _ _ _ h => h) (Or.inl ⟨by rfl, ?hu20x21⟩) hS0 ?ru20x21
      case hu20x21 => (intro w _; go_simp; try (with_reducible rfl))
      try simp only [Act.put, List.setIfInBounds_toArray, List.set_cons_zero, List.set_cons_succ]
      refine takeG (some 37) (i := 21) (v := ?vu21x22) rfl rfl (by kernel_rfl) (by kernel_rfl) (by kernel_rfl) (fun _ _ _ h => h) (Or.inl ⟨by rfl, ?hu21x22⟩) hS0 ?ru21x22
      case hu21x22 => (intro w _; go_simp; try (with_reducible rfl))
      try simp only [Act.put, List.setIfInBounds_toArray, List.set_cons_zero, List.set_cons_succ]
      refine wpAnyH_ready (rs := [22]) (by kernel_rfl) (by simp) ?_
      refine AllReadyH.cons rfl (fun K hK => ?_) AllReadyH.nil
      go_simp
      refine hK.out _ _ trivial (fun _ => ?_)
      clear hK K
      refine takeG (some 38) (i := 23) (v := ?vu23x24) rfl rfl (by kernel_rfl) (by kernel_rfl) (by kernel_rfl) (fun _ _ _ h => h) (Or.inl ⟨by rfl, ?hu23x24⟩) hS0 ?ru23x24
      case hu23x24 => (intro w _; go_simp; try (with_reducible rfl))
      try simp only [Act.put, List.setIfInBounds_toArray, List.set_cons_zero, List.set_cons_succ]
      refine takeG (some 39) (i := 24) (v := ?vu24x25) rfl rfl (by kernel_rfl) (by kernel_rfl) (by kernel_rfl) (fun _ _ _ h => h) (Or.inl ⟨by rfl, ?hu24x25⟩) hS0 ?ru24x25
      case hu24x25 => (intro w _; go_simp; try (with_reducible rfl))
      try simp only [Act.put, List.setIfInBounds_toArray, List.set_cons_zero, List.set_cons_succ]
      refine wpAnyH_ready (rs := [25]) (by kernel_rfl) (by simp) ?_
      refine AllReadyH.cons rfl (fun K hK => ?_) AllReadyH.nil
      have q4 : (World.setCell wd ⟨S, 3, none⟩ (.slice (some ⟨g, o, none⟩) n cap)).cell? ⟨S, 4, none⟩ = some (.int .u64 (s1 : Int)) := by rw [World.cell?_setCell_other _ _ _ _ (by simp)]; exact n4
      go_simp
      refine hK.out _ _ trivial (fun _ => ?_)
      clear hK K
      refine wpAnyH_done (by kernel_rfl) ?_ _
      have hu := HU.out _ kd
      have hx := HX.out _ kd
      go_wp2_with fail
      go_ret
      exact ⟨rfl, _, hu.1, hx.trans hu.2⟩
    ·
      go_simp
      refine hK.out _ _ trivial (fun _ => ?_)
      clear hK K
      refine takeG (some 33) (i := 17) (v := ?vu17x28) rfl rfl (by kernel_rfl) (by kernel_rfl) (by kernel_rfl) (fun _ _ _ h => h) (Or.inl ⟨by rfl, ?hu17x28⟩) hS0 ?ru17x28
      case hu17x28 => (intro w _; go_simp; try (with_reducible rfl))
      try simp only [Act.put, List.setIfInBounds_toArray, List.set_cons_zero, List.set_cons_succ]
      refine wpAnyH_ready (rs := [11, 18]) (by kernel_rfl) (by simp) ?_
      refine AllReadyH.cons rfl (fun K hK => ?_) (AllReadyH.cons rfl (fun K hK => ?_) AllReadyH.nil)
      ·
        go_simp
        refine hK.out _ _ trivial (fun _ => ?_)
        clear hK K
        refine wpAnyH_ready (rs := [18]) (by kernel_rfl) (by simp) ?_
        refine AllReadyH.cons rfl (fun K hK => ?_) AllReadyH.nil
        go_simp
        refine hK.out _ _ trivial (fun _ => ?_)
        clear hK K
        refine wpAnyH_ready (rs := [19]) (by kernel_rfl) (by simp) ?_
        refine AllReadyH.cons rfl (fun K hK => ?_) AllReadyH.nil
        go_simp
        refine (CW.out _).mono ?_
        rintro e y1 ⟨rfl, rfl⟩
        show K _ _
        refine hK.out _ _ trivial (fun _ => ?_)
        clear hK K
        refine takeG (some 36) (i := 20) (v := ?vu20x32) rfl rfl (by kernel_rfl) (by kernel_rfl) (by kernel_rfl) (fun _ _ _ h => h) (Or.inl ⟨by rfl, ?hu20x32⟩) hS0 ?ru20x32
        case hu20x32 => (intro w _; go_simp; try (with_reducible rfl))
        try simp only [Act.put, List.setIfInBounds_toArray, List.set_cons_zero, List.set_cons_succ]
        refine takeG (some 37) (i := 21) (v := ?vu21x33) rfl rfl (by kernel_rfl) (by kernel_rfl) (by kernel_rfl) (fun _ _ _ h => h) (Or.inl ⟨by rfl, ?hu21x33⟩) hS0 ?ru21x33
        case hu21x33 => (intro w _; go_simp; try (with_reducible rfl))
        try simp only [Act.put, List.setIfInBounds_toArray, List.set_cons_zero, List.set_cons_succ]
        refine wpAnyH_ready (rs := [22]) (by kernel_rfl) (by simp) ?_
        refine AllReadyH.cons rfl (fun K hK => ?_) AllReadyH.nil
        go_simp
        refine hK.out _ _ trivial (fun _ => ?_)
        clear hK K
        refine takeG (some 38) (i := 23) (v := ?vu23x35) rfl rfl (by kernel_rfl) (by kernel_rfl) (by kernel_rfl) (fun _ _ _ h => h) (Or.inl ⟨by rfl, ?hu23x35⟩) hS0 ?ru23x35
        case hu23x35 => (intro w _; go_simp; try (with_reducible rfl))
        try simp only [Act.put, List.setIfInBounds_toArray, List.set_cons_zero, List.set_cons_succ]
        refine takeG (some 39) (i := 24) (v := ?vu24x36) rfl rfl (by kernel_rfl) (by kernel_rfl) (by kernel_rfl) (fun _ _ _ h => h) (Or.inl ⟨by rfl, ?hu24x36⟩) hS0 ?ru24x36
        case hu24x36 => (intro w _; go_simp; try (with_reducible rfl))
        try simp only [Act.put, List.setIfInBounds_toArray, List.set_cons_zero, List.set_cons_succ]
        refine wpAnyH_ready (rs := [25]) (by kernel_rfl) (by simp) ?_
        refine AllReadyH.cons rfl (fun K hK => ?_) AllReadyH.nil
        have q4 : (World.setCell wd ⟨S, 3, none⟩ (.slice (some ⟨g, o, none⟩) n cap)).cell? ⟨S, 4, none⟩ = some (.int .u64 (s1 : Int)) := by rw [World.cell?_setCell_other _ _ _ _ (by simp)]; exact n4
        go_simp
        refine hK.out _ _ trivial (fun _ => ?_)
        clear hK K
        refine wpAnyH_done (by kernel_rfl) ?_ _
        have hu := HU.out _ kd
        have hx := HX.out _ kd
        go_wp2_with fail
        go_ret
        exact ⟨rfl, _, hu.1, hx.trans hu.2⟩
      ·
        go_simp
        refine hK.out _ _ trivial (fun _ => ?_)
        clear hK K
        refine wpAnyH_ready (rs := [11]) (by kernel_rfl) (by simp) ?_
        refine AllReadyH.cons rfl (fun K hK => ?_) AllReadyH.nil
        go_simp
        refine hK.out _ _ trivial (fun _ => ?_)
        clear hK K
        refine wpAnyH_ready (rs := [19]) (by kernel_rfl) (by simp) ?_
        refine AllReadyH.cons rfl (fun K hK => ?_) AllReadyH.nil
        go_simp
        refine (CW.out _).mono ?_
        rintro e y1 ⟨rfl, rfl⟩
        show K _ _
        refine hK.out _ _ trivial (fun _ => ?_)
        clear hK K
        refine takeG (some 36) (i := 20) (v := ?vu20x41) rfl rfl (by kernel_rfl) (by kernel_rfl) (by kernel_rfl) (fun _ _ _ h => h) (Or.inl ⟨by rfl, ?hu20x41⟩) hS0 ?ru20x41
        case hu20x41 => (intro w _; go_simp; try (with_reducible rfl))
        try simp only [Act.put, List.setIfInBounds_toArray, List.set_cons_zero, List.set_cons_succ]
        refine takeG (some 37) (i := 21) (v := ?vu21x42) rfl rfl (by kernel_rfl) (by kernel_rfl) (by kernel_rfl) (fun _ _ _ h => h) (Or.inl ⟨by rfl, ?hu21x42⟩) hS0 ?ru21x42
        case hu21x42 => (intro w _; go_simp; try (with_reducible rfl))
        try simp only [Act.put, List.setIfInBounds_toArray, List.set_cons_zero, List.set_cons_succ]
        refine wpAnyH_ready (rs := [22]) (by kernel_rfl) (by simp) ?_
        refine AllReadyH.cons rfl (fun K hK => ?_) AllReadyH.nil
        go_simp
        refine hK.out _ _ trivial (fun _ => ?_)
        clear hK K
        refine takeG (some 38) (i := 23) (v := ?vu23x44) rfl rfl (by kernel_rfl) (by kernel_rfl) (by kernel_rfl) (fun _ _ _ h => h) (Or.inl ⟨by rfl, ?hu23x44⟩) hS0 ?ru23x44
        case hu23x44 => (intro w _; go_simp; try (with_reducible rfl))
        try simp only [Act.put, List.setIfInBounds_toArray, List.set_cons_zero, List.set_cons_succ]
        refine takeG (some 39) (i := 24) (v := ?vu24x45) rfl rfl (by kernel_rfl) (by kernel_rfl) (by kernel_rfl) (fun _ _ _ h => h) (Or.inl ⟨by rfl, ?hu24x45⟩) hS0 ?ru24x45
        case hu24x45 => (intro w _; go_simp; try (with_reducible rfl))
        try simp only [Act.put, List.setIfInBounds_toArray, List.set_cons_zero, List.set_cons_succ]
        refine wpAnyH_ready (rs := [25]) (by kernel_rfl) (by simp) ?_
        refine AllReadyH.cons rfl (fun K hK => ?_) AllReadyH.nil
        have q4 : (World.setCell wd ⟨S, 3, none⟩ (.slice (some ⟨g, o, none⟩) n cap)).cell? ⟨S, 4, none⟩ = some (.int .u64 (s1 : Int)) := by rw [World.cell?_setCell_other _ _ _ _ (by simp)]; exact n4
        go_simp
        refine hK.out _ _ trivial (fun _ => ?_)
        clear hK K
        refine wpAnyH_done (by kernel_rfl) ?_ _
        have hu := HU.out _ kd
        have hx := HX.out _ kd
        go_wp2_with fail
        go_ret
        exact ⟨rfl, _, hu.1, hx.trans hu.2⟩
  ·
    go_simp
    refine hK.out _ _ trivial (fun _ => ?_)
    clear hK K
    refine wpAnyH_ready (rs := [5, 15]) (by kernel_rfl) (by simp) ?_
    refine AllReadyH.cons rfl (fun K hK => ?_) (AllReadyH.cons rfl (fun K hK => ?_) AllReadyH.nil)
    ·
      go_simp
      refine hK.out _ _ trivial (fun _ => ?_)
      clear hK K
      refine takeG (some 23) (i := 7) (v := ?vu7x49) rfl rfl (by kernel_rfl) (by kernel_rfl) (by kernel_rfl) (fun _ _ _ h => h) (Or.inl ⟨by rfl, ?hu7x49⟩) hS0 ?ru7x49
      case hu7x49 => (intro w _; go_simp; try (with_reducible rfl))
      try simp only [Act.put, List.setIfInBounds_toArray, List.set_cons_zero, List.set_cons_succ]
      refine wpAnyH_ready (rs := [15]) (by kernel_rfl) (by simp) ?_
      refine AllReadyH.cons rfl (fun K hK => ?_) AllReadyH.nil
      go_simp
      refine hK.out _ _ trivial (fun _ => ?_)
      clear hK K
      refine takeG (some 33) (i := 17) (v := ?vu17x51) rfl rfl (by kernel_rfl) (by kernel_rfl) (by kernel_rfl) (fun _ _ _ h => h) (Or.inl ⟨by rfl, ?hu17x51⟩) hS0 ?ru17x51
      case hu17x51 => (intro w _; go_simp; try (with_reducible rfl))
      try simp only [Act.put, List.setIfInBounds_toArray, List.set_cons_zero, List.set_cons_succ]
      refine wpAnyH_ready (rs := [18]) (by kernel_rfl) (by simp) ?_
      refine AllReadyH.cons rfl (fun K hK => ?_) AllReadyH.nil
      go_simp
      refine hK.out _ _ trivial (fun _ => ?_)
      clear hK K
      refine wpAnyH_ready (rs := [19]) (by kernel_rfl) (by simp) ?_
      refine AllReadyH.cons rfl (fun K hK => ?_) AllReadyH.nil
      go_simp
      refine (CW.out _).mono ?_
      rintro e y1 ⟨rfl, rfl⟩
      show K _ _
      refine hK.out _ _ trivial (fun _ => ?_)
      clear hK K
      refine takeG (some 36) (i := 20) (v := ?vu20x54) rfl rfl (by kernel_rfl) (by kernel_rfl) (by kernel_rfl) (fun _ _ _ h => h) (Or.inl ⟨by rfl, ?hu20x54⟩) hS0 ?ru20x54
      case hu20x54 => (intro w _; go_simp; try (with_reducible rfl))
      try simp only [Act.put, List.setIfInBounds_toArray, List.set_cons_zero, List.set_cons_succ]
      refine takeG (some 37) (i := 21) (v := ?vu21x55) rfl rfl (by kernel_rfl) (by kernel_rfl) (by kernel_rfl) (fun _ _ _ h => h) (Or.inl ⟨by rfl, ?hu21x55⟩) hS0 ?ru21x55
      case hu21x55 => (intro w _; go_simp; try (with_reducible rfl))
      try simp only [Act.put, List.setIfInBounds_toArray, List.set_cons_zero, List.set_cons_succ]
      refine wpAnyH_ready (rs := [22]) (by kernel_rfl) (by simp) ?_
      refine AllReadyH.cons rfl (fun K hK => ?_) AllReadyH.nil
      go_simp
      refine hK.out _ _ trivial (fun _ => ?_)
      clear hK K
      refine takeG (some 38) (i := 23) (v := ?vu23x57) rfl rfl (by kernel_rfl) (by kernel_rfl) (by kernel_rfl) (fun _ _ _ h => h) (Or.inl ⟨by rfl, ?hu23x57⟩) hS0 ?ru23x57
      case hu23x57 => (intro w _; go_simp; try (with_reducible rfl))
      try simp only [Act.put, List.setIfInBounds_toArray, List.set_cons_zero, List.set_cons_succ]
      refine takeG (some 39) (i := 24) (v := ?vu24x58) rfl rfl (by kernel_rfl) (by kernel_rfl) (by kernel_rfl) (fun _ _ _ h => h) (Or.inl ⟨by rfl, ?hu24x58⟩) hS0 ?ru24x58
      case hu24x58 => (intro w _; go_simp; try (with_reducible rfl))
      try simp only [Act.put, List.setIfInBounds_toArray, List.set_cons_zero, List.set_cons_succ]
      refine wpAnyH_ready (rs := [25]) (by kernel_rfl) (by simp) ?_
      refine AllReadyH.cons rfl (fun K hK => ?_) AllReadyH.nil
      have q4 : (World.setCell wd ⟨S, 3, none⟩ (.slice (some ⟨g, o, none⟩) n cap)).cell? ⟨S, 4, none⟩ = some (.int .u64 (s1 : Int)) := by rw [World.cell?_setCell_other _ _ _ _ (by simp)]; exact n4
      go_simp
      refine hK.out _ _ trivial (fun _ => ?_)
      clear hK K
      refine wpAnyH_done (by kernel_rfl) ?_ _
      have hu := HU.out _ kd
      have hx := HX.out _ kd
      go_wp2_with fail
      go_ret
      exact ⟨rfl, _, hu.1, hx.trans hu.2⟩
    ·
      go_simp
      refine hK.out _ _ trivial (fun _ => ?_)
      clear hK K
      refine takeG (some 33) (i := 17) (v := ?vu17x61) rfl rfl (by kernel_rfl) (by kernel_rfl) (by kernel_rfl) (fun _ _ _ h => h) (Or.inl ⟨by rfl, ?hu17x61⟩) hS0 ?ru17x61
      case hu17x61 => (intro w _; go_simp; try (with_reducible rfl))
      try simp only [Act.put, List.setIfInBounds_toArray, List.set_cons_zero, List.set_cons_succ]
      refine wpAnyH_ready (rs := [5, 18]) (by kernel_rfl) (by simp) ?_
      refine AllReadyH.cons rfl (fun K hK => ?_) (AllReadyH.cons rfl (fun K hK => ?_) AllReadyH.nil)
      ·
        go_simp
        refine hK.out _ _ trivial (fun _ => ?_)
        clear hK K
        refine takeG (some 23) (i := 7) (v := ?vu7x63) rfl rfl (by kernel_rfl) (by kernel_rfl) (by kernel_rfl) (fun _ _ _ h => h) (Or.inl ⟨by rfl, ?hu7x63⟩) hS0 ?ru7x63
        case hu7x63 => (intro w _; go_simp; try (with_reducible rfl))
        try simp only [Act.put, List.setIfInBounds_toArray, List.set_cons_zero, List.set_cons_succ]
        refine wpAnyH_ready (rs := [18]) (by kernel_rfl) (by simp) ?_
        refine AllReadyH.cons rfl (fun K hK => ?_) AllReadyH.nil
        go_simp
        refine hK.out _ _ trivial (fun _ => ?_)
        clear hK K
        refine wpAnyH_ready (rs := [19]) (by kernel_rfl) (by simp) ?_
        refine AllReadyH.cons rfl (fun K hK => ?_) AllReadyH.nil
        go_simp
        refine (CW.out _).mono ?_
        rintro e y1 ⟨rfl, rfl⟩
        show K _ _
        refine hK.out _ _ trivial (fun _ => ?_)
        clear hK K
        refine takeG (some 36) (i := 20) (v := ?vu20x66) rfl rfl (by kernel_rfl) (by kernel_rfl) (by kernel_rfl) (fun _ _ _ h => h) (Or.inl ⟨by rfl, ?hu20x66⟩) hS0 ?ru20x66
        case hu20x66 => (intro w _; go_simp; try (with_reducible rfl))
        try simp only [Act.put, List.setIfInBounds_toArray, List.set_cons_zero, List.set_cons_succ]
        refine takeG (some 37) (i := 21) (v := ?vu21x67) rfl rfl (by kernel_rfl) (by kernel_rfl) (by kernel_rfl) (fun _ _ _ h => h) (Or.inl ⟨by rfl, ?hu21x67⟩) hS0 ?ru21x67
        case hu21x67 => (intro w _; go_simp; try (with_reducible rfl))
        try simp only [Act.put, List.setIfInBounds_toArray, List.set_cons_zero, List.set_cons_succ]
        refine wpAnyH_ready (rs := [22]) (by kernel_rfl) (by simp) ?_
        refine AllReadyH.cons rfl (fun K hK => ?_) AllReadyH.nil
        go_simp
        refine hK.out _ _ trivial (fun _ => ?_)
        clear hK K
        refine takeG (some 38) (i := 23) (v := ?vu23x69) rfl rfl (by kernel_rfl) (by kernel_rfl) (by kernel_rfl) (fun _ _ _ h => h) (Or.inl ⟨by rfl, ?hu23x69⟩) hS0 ?ru23x69
        case hu23x69 => (intro w _; go_simp; try (with_reducible rfl))
        try simp only [Act.put, List.setIfInBounds_toArray, List.set_cons_zero, List.set_cons_succ]
        refine takeG (some 39) (i := 24) (v := ?vu24x70) rfl rfl (by kernel_rfl) (by kernel_rfl) (by kernel_rfl) (fun _ _ _ h => h) (Or.inl ⟨by rfl, ?hu24x70⟩) hS0 ?ru24x70
        case hu24x70 => (intro w _; go_simp; try (with_reducible rfl))
        try simp only [Act.put, List.setIfInBounds_toArray, List.set_cons_zero, List.set_cons_succ]
        refine wpAnyH_ready (rs := [25]) (by kernel_rfl) (by simp) ?_
        refine AllReadyH.cons rfl (fun K hK => ?_) AllReadyH.nil
        have q4 : (World.setCell wd ⟨S, 3, none⟩ (.slice (some ⟨g, o, none⟩) n cap)).cell? ⟨S, 4, none⟩ = some (.int .u64 (s1 : Int)) := by rw [World.cell?_setCell_other _ _ _ _ (by simp)]; exact n4
        go_simp
        refine hK.out _ _ trivial (fun _ => ?_)
        clear hK K
        refine wpAnyH_done (by kernel_rfl) ?_ _
        have hu := HU.out _ kd
        have hx := HX.out _ kd
        go_wp2_with fail
        go_ret
        exact ⟨rfl, _, hu.1, hx.trans hu.2⟩
      ·
        go_simp
        refine hK.out _ _ trivial (fun _ => ?_)
        clear hK K
        refine wpAnyH_ready (rs := [5, 19]) (by kernel_rfl) (by simp) ?_
        refine AllReadyH.cons rfl (fun K hK => ?_) (AllReadyH.cons rfl (fun K hK => ?_) AllReadyH.nil)
        ·
          go_simp
          refine hK.out _ _ trivial (fun _ => ?_)
          clear hK K
          refine takeG (some 23) (i := 7) (v := ?vu7x74) rfl rfl (by kernel_rfl) (by kernel_rfl) (by kernel_rfl) (fun _ _ _ h => h) (Or.inl ⟨by rfl, ?hu7x74⟩) hS0 ?ru7x74
          case hu7x74 => (intro w _; go_simp; try (with_reducible rfl))
          try simp only [Act.put, List.setIfInBounds_toArray, List.set_cons_zero, List.set_cons_succ]
          refine wpAnyH_ready (rs := [19]) (by kernel_rfl) (by simp) ?_
          refine AllReadyH.cons rfl (fun K hK => ?_) AllReadyH.nil
          go_simp
          refine (CW.out _).mono ?_
          rintro e y1 ⟨rfl, rfl⟩
          show K _ _
          refine hK.out _ _ trivial (fun _ => ?_)
          clear hK K
          refine takeG (some 36) (i := 20) (v := ?vu20x76) rfl rfl (by kernel_rfl) (by kernel_rfl) (by kernel_rfl) (fun _ _ _ h => h) (Or.inl ⟨by rfl, ?hu20x76⟩) hS0 ?ru20x76
          case hu20x76 => (intro w _; go_simp; try (with_reducible rfl))
          try simp only [Act.put, List.setIfInBounds_toArray, List.set_cons_zero, List.set_cons_succ]
          refine takeG (some 37) (i := 21) (v := ?vu21x77) rfl rfl (by kernel_rfl) (by kernel_rfl) (by kernel_rfl) (fun _ _ _ h => h) (Or.inl ⟨by rfl, ?hu21x77⟩) hS0 ?ru21x77
          case hu21x77 => (intro w _; go_simp; try (with_reducible rfl))
          try simp only [Act.put, List.setIfInBounds_toArray, List.set_cons_zero, List.set_cons_succ]
          refine wpAnyH_ready (rs := [22]) (by kernel_rfl) (by simp) ?_
          refine AllReadyH.cons rfl (fun K hK => ?_) AllReadyH.nil
          go_simp
          refine hK.out _ _ trivial (fun _ => ?_)
          clear hK K
          refine takeG (some 38) (i := 23) (v := ?vu23x79) rfl rfl (by kernel_rfl) (by kernel_rfl) (by kernel_rfl) (fun _ _ _ h => h) (Or.inl ⟨by rfl, ?hu23x79⟩) hS0 ?ru23x79
          case hu23x79 => (intro w _; go_simp; try (with_reducible rfl))
          try simp only [Act.put, List.setIfInBounds_toArray, List.set_cons_zero, List.set_cons_succ]
          refine takeG (some 39) (i := 24) (v := ?vu24x80) rfl rfl (by kernel_rfl) (by kernel_rfl) (by kernel_rfl) (fun _ _ _ h => h) (Or.inl ⟨by rfl, ?hu24x80⟩) hS0 ?ru24x80
          case hu24x80 => (intro w _; go_simp; try (with_reducible rfl))
          try simp only [Act.put, List.setIfInBounds_toArray, List.set_cons_zero, List.set_cons_succ]
          refine wpAnyH_ready (rs := [25]) (by kernel_rfl) (by simp) ?_
          refine AllReadyH.cons rfl (fun K hK => ?_) AllReadyH.nil
          have q4 : (World.setCell wd ⟨S, 3, none⟩ (.slice (some ⟨g, o, none⟩) n cap)).cell? ⟨S, 4, none⟩ = some (.int .u64 (s1 : Int)) := by rw [World.cell?_setCell_other _ _ _ _ (by simp)]; exact n4
          go_simp
          refine hK.out _ _ trivial (fun _ => ?_)
          clear hK K
          refine wpAnyH_done (by kernel_rfl) ?_ _
          have hu := HU.out _ kd
          have hx := HX.out _ kd
          go_wp2_with fail
          go_ret
          exact ⟨rfl, _, hu.1, hx.trans hu.2⟩
        ·
          go_simp
          refine (CW.out _).mono ?_
          rintro e y1 ⟨rfl, rfl⟩
          show K _ _
          refine hK.out _ _ trivial (fun _ => ?_)
          clear hK K
          refine wpAnyH_ready (rs := [5]) (by kernel_rfl) (by simp) ?_
          refine AllReadyH.cons rfl (fun K hK => ?_) AllReadyH.nil
          go_simp
          refine hK.out _ _ trivial (fun _ => ?_)
          clear hK K
          refine takeG (some 23) (i := 7) (v := ?vu7x84) rfl rfl (by kernel_rfl) (by kernel_rfl) (by kernel_rfl) (fun _ _ _ h => h) (Or.inl ⟨by rfl, ?hu7x84⟩) hS0 ?ru7x84
          case hu7x84 => (intro w _; go_simp; try (with_reducible rfl))
          try simp only [Act.put, List.setIfInBounds_toArray, List.set_cons_zero, List.set_cons_succ]
          refine takeG (some 36) (i := 20) (v := ?vu20x85) rfl rfl (by kernel_rfl) (by kernel_rfl) (by kernel_rfl) (fun _ _ _ h => h) (Or.inl ⟨by rfl, ?hu20x85⟩) hS0 ?ru20x85
          case hu20x85 => (intro w _; go_simp; try (with_reducible rfl))
          try simp only [Act.put, List.setIfInBounds_toArray, List.set_cons_zero, List.set_cons_succ]
          refine takeG (some 37) (i := 21) (v := ?vu21x86) rfl rfl (by kernel_rfl) (by kernel_rfl) (by kernel_rfl) (fun _ _ _ h => h) (Or.inl ⟨by rfl, ?hu21x86⟩) hS0 ?ru21x86
          case hu21x86 => (intro w _; go_simp; try (with_reducible rfl))
          try simp only [Act.put, List.setIfInBounds_toArray, List.set_cons_zero, List.set_cons_succ]
          refine wpAnyH_ready (rs := [22]) (by kernel_rfl) (by simp) ?_
          refine AllReadyH.cons rfl (fun K hK => ?_) AllReadyH.nil
          go_simp
          refine hK.out _ _ trivial (fun _ => ?_)
          clear hK K
          refine takeG (some 38) (i := 23) (v := ?vu23x88) rfl rfl (by kernel_rfl) (by kernel_rfl) (by kernel_rfl) (fun _ _ _ h => h) (Or.inl ⟨by rfl, ?hu23x88⟩) hS0 ?ru23x88
          case hu23x88 => (intro w _; go_simp; try (with_reducible rfl))
          try simp only [Act.put, List.setIfInBounds_toArray, List.set_cons_zero, List.set_cons_succ]
          refine takeG (some 39) (i := 24) (v := ?vu24x89) rfl rfl (by kernel_rfl) (by kernel_rfl) (by kernel_rfl) (fun _ _ _ h => h) (Or.inl ⟨by rfl, ?hu24x89⟩) hS0 ?ru24x89
          case hu24x89 => (intro w _; go_simp; try (with_reducible rfl))
          try simp only [Act.put, List.setIfInBounds_toArray, List.set_cons_zero, List.set_cons_succ]
          refine wpAnyH_ready (rs := [25]) (by kernel_rfl) (by simp) ?_
          refine AllReadyH.cons rfl (fun K hK => ?_) AllReadyH.nil
          have q4 : (World.setCell wd ⟨S, 3, none⟩ (.slice (some ⟨g, o, none⟩) n cap)).cell? ⟨S, 4, none⟩ = some (.int .u64 (s1 : Int)) := by rw [World.cell?_setCell_other _ _ _ _ (by simp)]; exact n4
          go_simp
          refine hK.out _ _ trivial (fun _ => ?_)
          clear hK K
          refine wpAnyH_done (by kernel_rfl) ?_ _
          have hu := HU.out _ kd
          have hx := HX.out _ kd
          go_wp2_with fail
          go_ret
          exact ⟨rfl, _, hu.1, hx.trans hu.2⟩
  ·
    go_simp
    refine hK.out _ _ trivial (fun _ => ?_)
    clear hK K
    refine takeG (some 33) (i := 17) (v := ?vu17x92) rfl rfl (by kernel_rfl) (by kernel_rfl) (by kernel_rfl) (fun _ _ _ h => h) (Or.inl ⟨by rfl, ?hu17x92⟩) hS0 ?ru17x92
    case hu17x92 => (intro w _; go_simp; try (with_reducible rfl))
    try simp only [Act.put, List.setIfInBounds_toArray, List.set_cons_zero, List.set_cons_succ]
    refine wpAnyH_ready (rs := [5, 11, 18]) (by kernel_rfl) (by simp) ?_
    refine AllReadyH.cons rfl (fun K hK => ?_) (AllReadyH.cons rfl (fun K hK => ?_) (AllReadyH.cons rfl (fun K hK => ?_) AllReadyH.nil))
    ·
      go_simp
      refine hK.out _ _ trivial (fun _ => ?_)
      clear hK K
      refine takeG (some 23) (i := 7) (v := ?vu7x94) rfl rfl (by kernel_rfl) (by kernel_rfl) (by kernel_rfl) (fun _ _ _ h => h) (Or.inl ⟨by rfl, ?hu7x94⟩) hS0 ?ru7x94
      case hu7x94 => (intro w _; go_simp; try (with_reducible rfl))
      try simp only [Act.put, List.setIfInBounds_toArray, List.set_cons_zero, List.set_cons_succ]
      refine wpAnyH_ready (rs := [11, 18]) (by kernel_rfl) (by simp) ?_
      refine AllReadyH.cons rfl (fun K hK => ?_) (AllReadyH.cons rfl (fun K hK => ?_) AllReadyH.nil)
      ·
        go_simp
        refine hK.out _ _ trivial (fun _ => ?_)
        clear hK K
        refine wpAnyH_ready (rs := [18]) (by kernel_rfl) (by simp) ?_
        refine AllReadyH.cons rfl (fun K hK => ?_) AllReadyH.nil
        go_simp
        refine hK.out _ _ trivial (fun _ => ?_)
        clear hK K
        refine wpAnyH_ready (rs := [19]) (by kernel_rfl) (by simp) ?_
        refine AllReadyH.cons rfl (fun K hK => ?_) AllReadyH.nil
        go_simp
        refine (CW.out _).mono ?_
        rintro e y1 ⟨rfl, rfl⟩
        show K _ _
        refine hK.out _ _ trivial (fun _ => ?_)
        clear hK K
        refine takeG (some 36) (i := 20) (v := ?vu20x98) rfl rfl (by kernel_rfl) (by kernel_rfl) (by kernel_rfl) (fun _ _ _ h => h) (Or.inl ⟨by rfl, ?hu20x98⟩) hS0 ?ru20x98
        case hu20x98 => (intro w _; go_simp; try (with_reducible rfl))
        try simp only [Act.put, List.setIfInBounds_toArray, List.set_cons_zero, List.set_cons_succ]
        refine takeG (some 37) (i := 21) (v := ?vu21x99) rfl rfl (by kernel_rfl) (by kernel_rfl) (by kernel_rfl) (fun _ _ _ h => h) (Or.inl ⟨by rfl, ?hu21x99⟩) hS0 ?ru21x99
        case hu21x99 => (intro w _; go_simp; try (with_reducible rfl))
        try simp only [Act.put, List.setIfInBounds_toArray, List.set_cons_zero, List.set_cons_succ]
        refine wpAnyH_ready (rs := [22]) (by kernel_rfl) (by simp) ?_
        refine AllReadyH.cons rfl (fun K hK => ?_) AllReadyH.nil
        go_simp
        refine hK.out _ _ trivial (fun _ => ?_)
        clear hK K
        refine takeG (some 38) (i := 23) (v := ?vu23x101) rfl rfl (by kernel_rfl) (by kernel_rfl) (by kernel_rfl) (fun _ _ _ h => h) (Or.inl ⟨by rfl, ?hu23x101⟩) hS0 ?ru23x101
        case hu23x101 => (intro w _; go_simp; try (with_reducible rfl))
        try simp only [Act.put, List.setIfInBounds_toArray, List.set_cons_zero, List.set_cons_succ]
        refine takeG (some 39) (i := 24) (v := ?vu24x102) rfl rfl (by kernel_rfl) (by kernel_rfl) (by kernel_rfl) (fun _ _ _ h => h) (Or.inl ⟨by rfl, ?hu24x102⟩) hS0 ?ru24x102
        case hu24x102 => (intro w _; go_simp; try (with_reducible rfl))
        try simp only [Act.put, List.setIfInBounds_toArray, List.set_cons_zero, List.set_cons_succ]
        refine wpAnyH_ready (rs := [25]) (by kernel_rfl) (by simp) ?_
        refine AllReadyH.cons rfl (fun K hK => ?_) AllReadyH.nil
        have q4 : (World.setCell wd ⟨S, 3, none⟩ (.slice (some ⟨g, o, none⟩) n cap)).cell? ⟨S, 4, none⟩ = some (.int .u64 (s1 : Int)) := by rw [World.cell?_setCell_other _ _ _ _ (by simp)]; exact n4
        go_simp
        refine hK.out _ _ trivial (fun _ => ?_)
        clear hK K
        refine wpAnyH_done (by kernel_rfl) ?_ _
        have hu := HU.out _ kd
        have hx := HX.out _ kd
        go_wp2_with fail
        go_ret
        exact ⟨rfl, _, hu.1, hx.trans hu.2⟩
      ·
        go_simp
        refine hK.out _ _ trivial (fun _ => ?_)
        clear hK K
        refine wpAnyH_ready (rs := [11]) (by kernel_rfl) (by simp) ?_
        refine AllReadyH.cons rfl (fun K hK => ?_) AllReadyH.nil
        go_simp
        refine hK.out _ _ trivial (fun _ => ?_)
        clear hK K
        refine wpAnyH_ready (rs := [19]) (by kernel_rfl) (by simp) ?_
        refine AllReadyH.cons rfl (fun K hK => ?_) AllReadyH.nil
        go_simp
        refine (CW.out _).mono ?_
        rintro e y1 ⟨rfl, rfl⟩
        show K _ _
        refine hK.out _ _ trivial (fun _ => ?_)
        clear hK K
        refine takeG (some 36) (i := 20) (v := ?vu20x107) rfl rfl (by kernel_rfl) (by kernel_rfl) (by kernel_rfl) (fun _ _ _ h => h) (Or.inl ⟨by rfl, ?hu20x107⟩) hS0 ?ru20x107
        case hu20x107 => (intro w _; go_simp; try (with_reducible rfl))
        try simp only [Act.put, List.setIfInBounds_toArray, List.set_cons_zero, List.set_cons_succ]
        refine takeG (some 37) (i := 21) (v := ?vu21x108) rfl rfl (by kernel_rfl) (by kernel_rfl) (by kernel_rfl) (fun _ _ _ h => h) (Or.inl ⟨by rfl, ?hu21x108⟩) hS0 ?ru21x108
        case hu21x108 => (intro w _; go_simp; try (with_reducible rfl))
        try simp only [Act.put, List.setIfInBounds_toArray, List.set_cons_zero, List.set_cons_succ]
        refine wpAnyH_ready (rs := [22]) (by kernel_rfl) (by simp) ?_
        refine AllReadyH.cons rfl (fun K hK => ?_) AllReadyH.nil
        go_simp
        refine hK.out _ _ trivial (fun _ => ?_)
        clear hK K
        refine takeG (some 38) (i := 23) (v := ?vu23x110) rfl rfl (by kernel_rfl) (by kernel_rfl) (by kernel_rfl) (fun _ _ _ h => h) (Or.inl ⟨by rfl, ?hu23x110⟩) hS0 ?ru23x110
        case hu23x110 => (intro w _; go_simp; try (with_reducible rfl))
        try simp only [Act.put, List.setIfInBounds_toArray, List.set_cons_zero, List.set_cons_succ]
        refine takeG (some 39) (i := 24) (v := ?vu24x111) rfl rfl (by kernel_rfl) (by kernel_rfl) (by kernel_rfl) (fun _ _ _ h => h) (Or.inl ⟨by rfl, ?hu24x111⟩) hS0 ?ru24x111
        case hu24x111 => (intro w _; go_simp; try (with_reducible rfl))
        try simp only [Act.put, List.setIfInBounds_toArray, List.set_cons_zero, List.set_cons_succ]
        refine wpAnyH_ready (rs := [25]) (by kernel_rfl) (by simp) ?_
        refine AllReadyH.cons rfl (fun K hK => ?_) AllReadyH.nil
        have q4 : (World.setCell wd ⟨S, 3, none⟩ (.slice (some ⟨g, o, none⟩) n cap)).cell? ⟨S, 4, none⟩ = some (.int .u64 (s1 : Int)) := by rw [World.cell?_setCell_other _ _ _ _ (by simp)]; exact n4
        go_simp
        refine hK.out _ _ trivial (fun _ => ?_)
        clear hK K
        refine wpAnyH_done (by kernel_rfl) ?_ _
        have hu := HU.out _ kd
        have hx := HX.out _ kd
        go_wp2_with fail
        go_ret
        exact ⟨rfl, _, hu.1, hx.trans hu.2⟩
    ·
      go_simp
      refine hK.out _ _ trivial (fun _ => ?_)
      clear hK K
      refine wpAnyH_ready (rs := [5, 18]) (by kernel_rfl) (by simp) ?_
      refine AllReadyH.cons rfl (fun K hK => ?_) (AllReadyH.cons rfl (fun K hK => ?_) AllReadyH.nil)
      ·
        go_simp
        refine hK.out _ _ trivial (fun _ => ?_)
        clear hK K
        refine takeG (some 23) (i := 7) (v := ?vu7x115) rfl rfl (by kernel_rfl) (by kernel_rfl) (by kernel_rfl) (fun _ _ _ h => h) (Or.inl ⟨by rfl, ?hu7x115⟩) hS0 ?ru7x115
        case hu7x115 => (intro w _; go_simp; try (with_reducible rfl))
        try simp only [Act.put, List.setIfInBounds_toArray, List.set_cons_zero, List.set_cons_succ]
        refine wpAnyH_ready (rs := [18]) (by kernel_rfl) (by simp) ?_
        refine AllReadyH.cons rfl (fun K hK => ?_) AllReadyH.nil
        go_simp
        refine hK.out _ _ trivial (fun _ => ?_)
        clear hK K
        refine wpAnyH_ready (rs := [19]) (by kernel_rfl) (by simp) ?_
        refine AllReadyH.cons rfl (fun K hK => ?_) AllReadyH.nil
        go_simp
        refine (CW.out _).mono ?_
        rintro e y1 ⟨rfl, rfl⟩
        show K _ _
        refine hK.out _ _ trivial (fun _ => ?_)
        clear hK K
        refine takeG (some 36) (i := 20) (v := ?vu20x118) rfl rfl (by kernel_rfl) (by kernel_rfl) (by kernel_rfl) (fun _ _ _ h => h) (Or.inl ⟨by rfl, ?hu20x118⟩) hS0 ?ru20x118
        case hu20x118 => (intro w _; go_simp; try (with_reducible rfl))
        try simp only [Act.put, List.setIfInBounds_toArray, List.set_cons_zero, List.set_cons_succ]
        refine takeG (some 37) (i := 21) (v := ?vu21x119) rfl rfl (by kernel_rfl) (by kernel_rfl) (by kernel_rfl) (fun _ _ _ h => h) (Or.inl ⟨by rfl, ?hu21x119⟩) hS0 ?ru21x119
        case hu21x119 => (intro w _; go_simp; try (with_reducible rfl))
        try simp only [Act.put, List.setIfInBounds_toArray, List.set_cons_zero, List.set_cons_succ]
        refine wpAnyH_ready (rs := [22]) (by kernel_rfl) (by simp) ?_
        refine AllReadyH.cons rfl (fun K hK => ?_) AllReadyH.nil
        go_simp
        refine hK.out _ _ trivial (fun _ => ?_)
        clear hK K
        refine takeG (some 38) (i := 23) (v := ?vu23x121) rfl rfl (by kernel_rfl) (by kernel_rfl) (by kernel_rfl) (fun _ _ _ h => h) (Or.inl ⟨by rfl, ?hu23x121⟩) hS0 ?ru23x121
        case hu23x121 => (intro w _; go_simp; try (with_reducible rfl))
        try simp only [Act.put, List.setIfInBounds_toArray, List.set_cons_zero, List.set_cons_succ]
        refine takeG (some 39) (i := 24) (v := ?vu24x122) rfl rfl (by kernel_rfl) (by kernel_rfl) (by kernel_rfl) (fun _ _ _ h => h) (Or.inl ⟨by rfl, ?hu24x122⟩) hS0 ?ru24x122
        case hu24x122 => (intro w _; go_simp; try (with_reducible rfl))
        try simp only [Act.put, List.setIfInBounds_toArray, List.set_cons_zero, List.set_cons_succ]
        refine wpAnyH_ready (rs := [25]) (by kernel_rfl) (by simp) ?_
        refine AllReadyH.cons rfl (fun K hK => ?_) AllReadyH.nil
        have q4 : (World.setCell wd ⟨S, 3, none⟩ (.slice (some ⟨g, o, none⟩) n cap)).cell? ⟨S, 4, none⟩ = some (.int .u64 (s1 : Int)) := by rw [World.cell?_setCell_other _ _ _ _ (by simp)]; exact n4
        go_simp
        refine hK.out _ _ trivial (fun _ => ?_)
        clear hK K
        refine wpAnyH_done (by kernel_rfl) ?_ _
        have hu := HU.out _ kd
        have hx := HX.out _ kd
        go_wp2_with fail
        go_ret
        exact ⟨rfl, _, hu.1, hx.trans hu.2⟩
      ·
        go_simp
        refine hK.out _ _ trivial (fun _ => ?_)
        clear hK K
        refine wpAnyH_ready (rs := [5, 19]) (by kernel_rfl) (by simp) ?_
        refine AllReadyH.cons rfl (fun K hK => ?_) (AllReadyH.cons rfl (fun K hK => ?_) AllReadyH.nil)
        ·
          go_simp
          refine hK.out _ _ trivial (fun _ => ?_)
          clear hK K
          refine takeG (some 23) (i := 7) (v := ?vu7x126) rfl rfl (by kernel_rfl) (by kernel_rfl) (by kernel_rfl) (fun _ _ _ h => h) (Or.inl ⟨by rfl, ?hu7x126⟩) hS0 ?ru7x126
          case hu7x126 => (intro w _; go_simp; try (with_reducible rfl))
          try simp only [Act.put, List.setIfInBounds_toArray, List.set_cons_zero, List.set_cons_succ]
          refine wpAnyH_ready (rs := [19]) (by kernel_rfl) (by simp) ?_
          refine AllReadyH.cons rfl (fun K hK => ?_) AllReadyH.nil
          go_simp
          refine (CW.out _).mono ?_
          rintro e y1 ⟨rfl, rfl⟩
          show K _ _
          refine hK.out _ _ trivial (fun _ => ?_)
          clear hK K
          refine takeG (some 36) (i := 20) (v := ?vu20x128) rfl rfl (by kernel_rfl) (by kernel_rfl) (by kernel_rfl) (fun _ _ _ h => h) (Or.inl ⟨by rfl, ?hu20x128⟩) hS0 ?ru20x128
          case hu20x128 => (intro w _; go_simp; try (with_reducible rfl))
          try simp only [Act.put, List.setIfInBounds_toArray, List.set_cons_zero, List.set_cons_succ]
          refine takeG (some 37) (i := 21) (v := ?vu21x129) rfl rfl (by kernel_rfl) (by kernel_rfl) (by kernel_rfl) (fun _ _ _ h => h) (Or.inl ⟨by rfl, ?hu21x129⟩) hS0 ?ru21x129
          case hu21x129 => (intro w _; go_simp; try (with_reducible rfl))
          try simp only [Act.put, List.setIfInBounds_toArray, List.set_cons_zero, List.set_cons_succ]
          refine wpAnyH_ready (rs := [22]) (by kernel_rfl) (by simp) ?_
          refine AllReadyH.cons rfl (fun K hK => ?_) AllReadyH.nil
          go_simp
          refine hK.out _ _ trivial (fun _ => ?_)
          clear hK K
          refine takeG (some 38) (i := 23) (v := ?vu23x131) rfl rfl (by kernel_rfl) (by kernel_rfl) (by kernel_rfl) (fun _ _ _ h => h) (Or.inl ⟨by rfl, ?hu23x131⟩) hS0 ?ru23x131
          case hu23x131 => (intro w _; go_simp; try (with_reducible rfl))
          try simp only [Act.put, List.setIfInBounds_toArray, List.set_cons_zero, List.set_cons_succ]
          refine takeG (some 39) (i := 24) (v := ?vu24x132) rfl rfl (by kernel_rfl) (by kernel_rfl) (by kernel_rfl) (fun _ _ _ h => h) (Or.inl ⟨by rfl, ?hu24x132⟩) hS0 ?ru24x132
          case hu24x132 => (intro w _; go_simp; try (with_reducible rfl))
          try simp only [Act.put, List.setIfInBounds_toArray, List.set_cons_zero, List.set_cons_succ]
          refine wpAnyH_ready (rs := [25]) (by kernel_rfl) (by simp) ?_
          refine AllReadyH.cons rfl (fun K hK => ?_) AllReadyH.nil
          have q4 : (World.setCell wd ⟨S, 3, none⟩ (.slice (some ⟨g, o, none⟩) n cap)).cell? ⟨S, 4, none⟩ = some (.int .u64 (s1 : Int)) := by rw [World.cell?_setCell_other _ _ _ _ (by simp)]; exact n4
          go_simp
          refine hK.out _ _ trivial (fun _ => ?_)
          clear hK K
          refine wpAnyH_done (by kernel_rfl) ?_ _
          have hu := HU.out _ kd
          have hx := HX.out _ kd
          go_wp2_with fail
          go_ret
          exact ⟨rfl, _, hu.1, hx.trans hu.2⟩
        ·
          go_simp
          refine (CW.out _).mono ?_
          rintro e y1 ⟨rfl, rfl⟩
          show K _ _
          refine hK.out _ _ trivial (fun _ => ?_)
          clear hK K
          refine wpAnyH_ready (rs := [5]) (by kernel_rfl) (by simp) ?_
          refine AllReadyH.cons rfl (fun K hK => ?_) AllReadyH.nil
          go_simp
          refine hK.out _ _ trivial (fun _ => ?_)
          clear hK K
          refine takeG (some 23) (i := 7) (v := ?vu7x136) rfl rfl (by kernel_rfl) (by kernel_rfl) (by kernel_rfl) (fun _ _ _ h => h) (Or.inl ⟨by rfl, ?hu7x136⟩) hS0 ?ru7x136
          case hu7x136 => (intro w _; go_simp; try (with_reducible rfl))
          try simp only [Act.put, List.setIfInBounds_toArray, List.set_cons_zero, List.set_cons_succ]
          refine takeG (some 36) (i := 20) (v := ?vu20x137) rfl rfl (by kernel_rfl) (by kernel_rfl) (by kernel_rfl) (fun _ _ _ h => h) (Or.inl ⟨by rfl, ?hu20x137⟩) hS0 ?ru20x137
          case hu20x137 => (intro w _; go_simp; try (with_reducible rfl))
          try simp only [Act.put, List.setIfInBounds_toArray, List.set_cons_zero, List.set_cons_succ]
          refine takeG (some 37) (i := 21) (v := ?vu21x138) rfl rfl (by kernel_rfl) (by kernel_rfl) (by kernel_rfl) (fun _ _ _ h => h) (Or.inl ⟨by rfl, ?hu21x138⟩) hS0 ?ru21x138
          case hu21x138 => (intro w _; go_simp; try (with_reducible rfl))
          try simp only [Act.put, List.setIfInBounds_toArray, List.set_cons_zero, List.set_cons_succ]
          refine wpAnyH_ready (rs := [22]) (by kernel_rfl) (by simp) ?_
          refine AllReadyH.cons rfl (fun K hK => ?_) AllReadyH.nil
          go_simp
          refine hK.out _ _ trivial (fun _ => ?_)
          clear hK K
          refine takeG (some 38) (i := 23) (v := ?vu23x140) rfl rfl (by kernel_rfl) (by kernel_rfl) (by kernel_rfl) (fun _ _ _ h => h) (Or.inl ⟨by rfl, ?hu23x140⟩) hS0 ?ru23x140
          case hu23x140 => (intro w _; go_simp; try (with_reducible rfl))
          try simp only [Act.put, List.setIfInBounds_toArray, List.set_cons_zero, List.set_cons_succ]
          refine takeG (some 39) (i := 24) (v := ?vu24x141) rfl rfl (by kernel_rfl) (by kernel_rfl) (by kernel_rfl) (fun _ _ _ h => h) (Or.inl ⟨by rfl, ?hu24x141⟩) hS0 ?ru24x141
          case hu24x141 => (intro w _; go_simp; try (with_reducible rfl))
          try simp only [Act.put, List.setIfInBounds_toArray, List.set_cons_zero, List.set_cons_succ]
          refine wpAnyH_ready (rs := [25]) (by kernel_rfl) (by simp) ?_
          refine AllReadyH.cons rfl (fun K hK => ?_) AllReadyH.nil
          have q4 : (World.setCell wd ⟨S, 3, none⟩ (.slice (some ⟨g, o, none⟩) n cap)).cell? ⟨S, 4, none⟩ = some (.int .u64 (s1 : Int)) := by rw [World.cell?_setCell_other _ _ _ _ (by simp)]; exact n4
          go_simp
          refine hK.out _ _ trivial (fun _ => ?_)
          clear hK K
          refine wpAnyH_done (by kernel_rfl) ?_ _
          have hu := HU.out _ kd
          have hx := HX.out _ kd
          go_wp2_with fail
          go_ret
          exact ⟨rfl, _, hu.1, hx.trans hu.2⟩
    ·
      go_simp
      refine hK.out _ _ trivial (fun _ => ?_)
      clear hK K
      refine wpAnyH_ready (rs := [5, 11]) (by kernel_rfl) (by simp) ?_
      refine AllReadyH.cons rfl (fun K hK => ?_) (AllReadyH.cons rfl (fun K hK => ?_) AllReadyH.nil)
      ·
        go_simp
        refine hK.out _ _ trivial (fun _ => ?_)
        clear hK K
        refine takeG (some 23) (i := 7) (v := ?vu7x145) rfl rfl (by kernel_rfl) (by kernel_rfl) (by kernel_rfl) (fun _ _ _ h => h) (Or.inl ⟨by rfl, ?hu7x145⟩) hS0 ?ru7x145
        case hu7x145 => (intro w _; go_simp; try (with_reducible rfl))
        try simp only [Act.put, List.setIfInBounds_toArray, List.set_cons_zero, List.set_cons_succ]
        refine wpAnyH_ready (rs := [11]) (by kernel_rfl) (by simp) ?_
        refine AllReadyH.cons rfl (fun K hK => ?_) AllReadyH.nil
        go_simp
        refine hK.out _ _ trivial (fun _ => ?_)
        clear hK K
        refine wpAnyH_ready (rs := [19]) (by kernel_rfl) (by simp) ?_
        refine AllReadyH.cons rfl (fun K hK => ?_) AllReadyH.nil
        go_simp
        refine (CW.out _).mono ?_
        rintro e y1 ⟨rfl, rfl⟩
        show K _ _
        refine hK.out _ _ trivial (fun _ => ?_)
        clear hK K
        refine takeG (some 36) (i := 20) (v := ?vu20x148) rfl rfl (by kernel_rfl) (by kernel_rfl) (by kernel_rfl) (fun _ _ _ h => h) (Or.inl ⟨by rfl, ?hu20x148⟩) hS0 ?ru20x148
        case hu20x148 => (intro w _; go_simp; try (with_reducible rfl))
        try simp only [Act.put, List.setIfInBounds_toArray, List.set_cons_zero, List.set_cons_succ]
        refine takeG (some 37) (i := 21) (v := ?vu21x149) rfl rfl (by kernel_rfl) (by kernel_rfl) (by kernel_rfl) (fun _ _ _ h => h) (Or.inl ⟨by rfl, ?hu21x149⟩) hS0 ?ru21x149
        case hu21x149 => (intro w _; go_simp; try (with_reducible rfl))
        try simp only [Act.put, List.setIfInBounds_toArray, List.set_cons_zero, List.set_cons_succ]
        refine wpAnyH_ready (rs := [22]) (by kernel_rfl) (by simp) ?_
        refine AllReadyH.cons rfl (fun K hK => ?_) AllReadyH.nil
        go_simp
        refine hK.out _ _ trivial (fun _ => ?_)
        clear hK K
        refine takeG (some 38) (i := 23) (v := ?vu23x151) rfl rfl (by kernel_rfl) (by kernel_rfl) (by kernel_rfl) (fun _ _ _ h => h) (Or.inl ⟨by rfl, ?hu23x151⟩) hS0 ?ru23x151
        case hu23x151 => (intro w _; go_simp; try (with_reducible rfl))
        try simp only [Act.put, List.setIfInBounds_toArray, List.set_cons_zero, List.set_cons_succ]
        refine takeG (some 39) (i := 24) (v := ?vu24x152) rfl rfl (by kernel_rfl) (by kernel_rfl) (by kernel_rfl) (fun _ _ _ h => h) (Or.inl ⟨by rfl, ?hu24x152⟩) hS0 ?ru24x152
        case hu24x152 => (intro w _; go_simp; try (with_reducible rfl))
        try simp only [Act.put, List.setIfInBounds_toArray, List.set_cons_zero, List.set_cons_succ]
        refine wpAnyH_ready (rs := [25]) (by kernel_rfl) (by simp) ?_
        refine AllReadyH.cons rfl (fun K hK => ?_) AllReadyH.nil
        have q4 : (World.setCell wd ⟨S, 3, none⟩ (.slice (some ⟨g, o, none⟩) n cap)).cell? ⟨S, 4, none⟩ = some (.int .u64 (s1 : Int)) := by rw [World.cell?_setCell_other _ _ _ _ (by simp)]; exact n4
        go_simp
        refine hK.out _ _ trivial (fun _ => ?_)
        clear hK K
        refine wpAnyH_done (by kernel_rfl) ?_ _
        have hu := HU.out _ kd
        have hx := HX.out _ kd
        go_wp2_with fail
        go_ret
        exact ⟨rfl, _, hu.1, hx.trans hu.2⟩
      ·
        go_simp
        refine hK.out _ _ trivial (fun _ => ?_)
        clear hK K
        refine wpAnyH_ready (rs := [5, 19]) (by kernel_rfl) (by simp) ?_
        refine AllReadyH.cons rfl (fun K hK => ?_) (AllReadyH.cons rfl (fun K hK => ?_) AllReadyH.nil)
        ·
          go_simp
          refine hK.out _ _ trivial (fun _ => ?_)
          clear hK K
          refine takeG (some 23) (i := 7) (v := ?vu7x156) rfl rfl (by kernel_rfl) (by kernel_rfl) (by kernel_rfl) (fun _ _ _ h => h) (Or.inl ⟨by rfl, ?hu7x156⟩) hS0 ?ru7x156
          case hu7x156 => (intro w _; go_simp; try (with_reducible rfl))
          try simp only [Act.put, List.setIfInBounds_toArray, List.set_cons_zero, List.set_cons_succ]
          refine wpAnyH_ready (rs := [19]) (by kernel_rfl) (by simp) ?_
          refine AllReadyH.cons rfl (fun K hK => ?_) AllReadyH.nil
          go_simp
          refine (CW.out _).mono ?_
          rintro e y1 ⟨rfl, rfl⟩
          show K _ _
          refine hK.out _ _ trivial (fun _ => ?_)
          clear hK K
          refine takeG (some 36) (i := 20) (v := ?vu20x158) rfl rfl (by kernel_rfl) (by kernel_rfl) (by kernel_rfl) (fun _ _ _ h => h) (Or.inl ⟨by rfl, ?hu20x158⟩) hS0 ?ru20x158
          case hu20x158 => (intro w _; go_simp; try (with_reducible rfl))
          try simp only [Act.put, List.setIfInBounds_toArray, List.set_cons_zero, List.set_cons_succ]
          refine takeG (some 37) (i := 21) (v := ?vu21x159) rfl rfl (by kernel_rfl) (by kernel_rfl) (by kernel_rfl) (fun _ _ _ h => h) (Or.inl ⟨by rfl, ?hu21x159⟩) hS0 ?ru21x159
          case hu21x159 => (intro w _; go_simp; try (with_reducible rfl))
          try simp only [Act.put, List.setIfInBounds_toArray, List.set_cons_zero, List.set_cons_succ]
          refine wpAnyH_ready (rs := [22]) (by kernel_rfl) (by simp) ?_
          refine AllReadyH.cons rfl (fun K hK => ?_) AllReadyH.nil
          go_simp
          refine hK.out _ _ trivial (fun _ => ?_)
          clear hK K
          refine takeG (some 38) (i := 23) (v := ?vu23x161) rfl rfl (by kernel_rfl) (by kernel_rfl) (by kernel_rfl) (fun _ _ _ h => h) (Or.inl ⟨by rfl, ?hu23x161⟩) hS0 ?ru23x161
          case hu23x161 => (intro w _; go_simp; try (with_reducible rfl))
          try simp only [Act.put, List.setIfInBounds_toArray, List.set_cons_zero, List.set_cons_succ]
          refine takeG (some 39) (i := 24) (v := ?vu24x162) rfl rfl (by kernel_rfl) (by kernel_rfl) (by kernel_rfl) (fun _ _ _ h => h) (Or.inl ⟨by rfl, ?hu24x162⟩) hS0 ?ru24x162
          case hu24x162 => (intro w _; go_simp; try (with_reducible rfl))
          try simp only [Act.put, List.setIfInBounds_toArray, List.set_cons_zero, List.set_cons_succ]
          refine wpAnyH_ready (rs := [25]) (by kernel_rfl) (by simp) ?_
          refine AllReadyH.cons rfl (fun K hK => ?_) AllReadyH.nil
          have q4 : (World.setCell wd ⟨S, 3, none⟩ (.slice (some ⟨g, o, none⟩) n cap)).cell? ⟨S, 4, none⟩ = some (.int .u64 (s1 : Int)) := by rw [World.cell?_setCell_other _ _ _ _ (by simp)]; exact n4
          go_simp
          refine hK.out _ _ trivial (fun _ => ?_)
          clear hK K
          refine wpAnyH_done (by kernel_rfl) ?_ _
          have hu := HU.out _ kd
          have hx := HX.out _ kd
          go_wp2_with fail
          go_ret
          exact ⟨rfl, _, hu.1, hx.trans hu.2⟩
        ·
          go_simp
          refine (CW.out _).mono ?_
          rintro e y1 ⟨rfl, rfl⟩
          show K _ _
          refine hK.out _ _ trivial (fun _ => ?_)
          clear hK K
          refine wpAnyH_ready (rs := [5]) (by kernel_rfl) (by simp) ?_
          refine AllReadyH.cons rfl (fun K hK => ?_) AllReadyH.nil
          go_simp
          refine hK.out _ _ trivial (fun _ => ?_)
          clear hK K
          refine takeG (some 23) (i := 7) (v := ?vu7x166) rfl rfl (by kernel_rfl) (by kernel_rfl) (by kernel_rfl) (fun _ _ _ h => h) (Or.inl ⟨by rfl, ?hu7x166⟩) hS0 ?ru7x166
          case hu7x166 => (intro w _; go_simp; try (with_reducible rfl))
          try simp only [Act.put, List.setIfInBounds_toArray, List.set_cons_zero, List.set_cons_succ]
          refine takeG (some 36) (i := 20) (v := ?vu20x167) rfl rfl (by kernel_rfl) (by kernel_rfl) (by kernel_rfl) (fun _ _ _ h => h) (Or.inl ⟨by rfl, ?hu20x167⟩) hS0 ?ru20x167
          case hu20x167 => (intro w _; go_simp; try (with_reducible rfl))
          try simp only [Act.put, List.setIfInBounds_toArray, List.set_cons_zero, List.set_cons_succ]
          refine takeG (some 37) (i := 21) (v := ?vu21x168) rfl rfl (by kernel_rfl) (by kernel_rfl) (by kernel_rfl) (fun _ _ _ h => h) (Or.inl ⟨by rfl, ?hu21x168⟩) hS0 ?ru21x168
          case hu21x168 => (intro w _; go_simp; try (with_reducible rfl))
          try simp only [Act.put, List.setIfInBounds_toArray, List.set_cons_zero, List.set_cons_succ]
          refine wpAnyH_ready (rs := [22]) (by kernel_rfl) (by simp) ?_
          refine AllReadyH.cons rfl (fun K hK => ?_) AllReadyH.nil
          go_simp
          refine hK.out _ _ trivial (fun _ => ?_)
          clear hK K
          refine takeG (some 38) (i := 23) (v := ?vu23x170) rfl rfl (by kernel_rfl) (by kernel_rfl) (by kernel_rfl) (fun _ _ _ h => h) (Or.inl ⟨by rfl, ?hu23x170⟩) hS0 ?ru23x170
          case hu23x170 => (intro w _; go_simp; try (with_reducible rfl))
          try simp only [Act.put, List.setIfInBounds_toArray, List.set_cons_zero, List.set_cons_succ]
          refine takeG (some 39) (i := 24) (v := ?vu24x171) rfl rfl (by kernel_rfl) (by kernel_rfl) (by kernel_rfl) (fun _ _ _ h => h) (Or.inl ⟨by rfl, ?hu24x171⟩) hS0 ?ru24x171
          case hu24x171 => (intro w _; go_simp; try (with_reducible rfl))
          try simp only [Act.put, List.setIfInBounds_toArray, List.set_cons_zero, List.set_cons_succ]
          refine wpAnyH_ready (rs := [25]) (by kernel_rfl) (by simp) ?_
          refine AllReadyH.cons rfl (fun K hK => ?_) AllReadyH.nil
          have q4 : (World.setCell wd ⟨S, 3, none⟩ (.slice (some ⟨g, o, none⟩) n cap)).cell? ⟨S, 4, none⟩ = some (.int .u64 (s1 : Int)) := by rw [World.cell?_setCell_other _ _ _ _ (by simp)]; exact n4
          go_simp
          refine hK.out _ _ trivial (fun _ => ?_)
          clear hK K
          refine wpAnyH_done (by kernel_rfl) ?_ _
          have hu := HU.out _ kd
          have hx := HX.out _ kd
          go_wp2_with fail
          go_ret
          exact ⟨rfl, _, hu.1, hx.trans hu.2⟩
end
end Go.Proofs.YtfancjmhdbaoeaaGreatDoor

namespace Go.Proofs.YtfancjmhdbaoeaaGreatDoor
set_option maxRecDepth 100000
open Go.RowKit

/-- In how many ways all may come that are left, so many, one behind the other. -/
def waysN (h : List TxnV) (C n : Nat) : Nat → List Nat → Nat
  | 0, _ => 1
  | k + 1, r => ((List.range n).map fun i => if tryP h C r i = true then waysN h C n k (i :: r) else 0).sum
def waysTo (h : List TxnV) (C n k : Nat) (r : List Nat) (j : Nat) : Nat := ((List.range j).map fun i => if tryP h C r i = true then waysN h C n k (i :: r) else 0).sum
theorem waysTo_succ (h : List TxnV) (C n k : Nat) (r : List Nat) (j : Nat) : waysTo h C n k r (j + 1) = waysTo h C n k r j + if tryP h C r j = true then waysN h C n k (j :: r) else 0 := by
  unfold waysTo; rw [List.range_succ, List.map_append, List.sum_append]; simp
theorem ways_len (h : List TxnV) (C n : Nat) : ∀ (k : Nat) (r : List Nat), waysN h C n k r ≤ n ^ k
  | 0, r => by simp [waysN]
  | k + 1, r => by
    have key : ∀ j, waysTo h C n k r j ≤ j * n ^ k := by
      intro j
      induction j with
      | zero => simp [waysTo]
      | succ j ih =>
        rw [waysTo_succ, Nat.succ_mul]
        refine Nat.add_le_add ih ?_
        split
        · exact ways_len h C n k _
        · exact Nat.zero_le _
    rw [Nat.pow_succ, Nat.mul_comm]
    exact key n
theorem waysTo_len (h : List TxnV) (C n k : Nat) (r : List Nat) (j : Nat) : waysTo h C n k r j ≤ j * n ^ k := by
  induction j with
  | zero => simp [waysTo]
  | succ j ih =>
    rw [waysTo_succ, Nat.succ_mul]
    refine Nat.add_le_add ih ?_
    split
    · exact ways_len h C n k _
    · exact Nat.zero_le _
theorem allT_more (h : List TxnV) (C : Nat) : ∀ (m m' r : List Nat), allT h C r (m ++ m') = (allT h C r m && allT h C (m.reverse ++ r) m')
  | [], m', r => by simp [allT]
  | i :: m, m', r => by
    rw [List.cons_append, allT, allT, allT_more h C m m' (i :: r), Bool.and_assoc, List.reverse_cons, List.append_assoc]; rfl
/-- As many orders go on from a row as there are ways. -/
theorem exts_ways (h : List TxnV) (C n : Nat) : ∀ (k : Nat) (q : List Nat), (exts n k q).countP (allT h C []) = if allT h C [] q = true then waysN h C n k q.reverse else 0
  | 0, q => by simp only [exts, waysN, List.countP_singleton]
  | k + 1, q => by
    have key : ∀ j, (extsTo n k q j).countP (allT h C []) = if allT h C [] q = true then waysTo h C n k q.reverse j else 0 := by
      intro j
      induction j with
      | zero => rw [extsTo_zero]; simp [waysTo]
      | succ j ih =>
        rw [extsTo_succ, List.countP_append, ih, waysTo_succ]
        by_cases hj : j ∈ q
        · have ht : tryP h C q.reverse j = false := by
            unfold tryP; rw [decide_eq_true (List.mem_reverse.2 hj)]; simp
          rw [if_pos hj, ht]; simp
        · rw [if_neg hj, exts_ways h C n k (q ++ [j]), allT_more h C q [j] [], List.append_nil, List.reverse_append]
          have e : allT h C q.reverse [j] = tryP h C q.reverse j := by unfold allT; simp [allT]
          rw [e]
          cases hq : allT h C [] q <;> cases ht : tryP h C q.reverse j <;> simp
    rw [exts_all]; exact key n
theorem ways_count (h : List TxnV) (lv : Int) (hlv : isLv lv = true) : (ordersN h.length).countP (keptL h lv) = if soundTo h h.length = true then waysN h (clI ((askN lv : Nat) : Int)) h.length h.length [] else 0 := by
  have hk : ∀ r, keptL h lv r = (soundTo h h.length && allT h (clI ((askN lv : Nat) : Int)) [] r) := fun r => by unfold keptL; rw [hlv, Bool.true_and]
  have e := exts_ways h (clI ((askN lv : Nat) : Int)) h.length h.length []
  cases hs : soundTo h h.length with
  | false =>
    rw [if_neg (by simp), List.countP_eq_zero]
    intro r _
    rw [hk, hs]; simp
  | true =>
    rw [if_pos rfl]
    have e2 : keptL h lv = allT h (clI ((askN lv : Nat) : Int)) [] := by funext r; rw [hk, hs, Bool.true_and]
    rw [e2]
    show (exts h.length h.length []).countP _ = _
    rw [e]; simp [allT]
section
variable {W : World} {S B b : Nat} {h : List TxnV} {C : Nat} {vb : Value}
set_option maxRecDepth 100000 in
set_option maxHeartbeats 8000000 in
theorem ways_any (hc : checkI h = 0) (hC : C < 9223372036854775808) (h8 : h.length ≤ 8) : ∀ (k : Nat) (r : List Nat) (vr : Value) (aF sF : Nat → Nat) (w : World), PlIs W S B b h C r vb vr aF sF w → r.length + k = h.length →
    Calls Tryz.prog 35 #[.pointer (some ⟨S, 0, none⟩), .int .i64 (h.length : Int)] w fun e w' => e = .returned (.int .i64 ((waysN h C h.length k r : Nat) : Int)) ∧ ∃ vr' aF' sF', PlIs W S B b h C r vb vr' aF' sF' w'
  | 0, r, vr, aF, sF, w, p, hl => by
    have CD := Lib.hid (pdone_any p)
    rw [decide_eq_true (by omega : r.length = h.length)] at CD
    have P := Lib.hid p
    have HV : Hid ((1 : Int) = ((waysN h C h.length 0 r : Nat) : Int)) := Lib.hid rfl
    clear p
    go_enter Tryz.func35, Tryz.ntmps35
    go_wp2_with fail
    refine CD.out.mono ?_
    rintro e w1 ⟨rfl, hb⟩
    have P1 := Lib.hid (P.out.below hb)
    go_wp2_with fail
    go_ret
    exact ⟨ret_i HV.out, _, _, _, P1.out⟩
  | k + 1, r, vr, aF, sF, w, p, hl => by
    have IH := Lib.hid (fun r vr aF sF w p hl => ways_any hc hC h8 k r vr aF sF w p hl)
    have CD := Lib.hid (pdone_any p)
    rw [decide_eq_false (by omega : ¬ r.length = h.length)] at CD
    have h64 : h.length ≤ 64 := by omega
    have P := Lib.hid p
    have HV : Hid (waysN h C h.length (k + 1) r = waysTo h C h.length k r h.length) := Lib.hid rfl
    have HB : Hid (∀ j, j ≤ h.length → waysTo h C h.length k r j ≤ 16777216) := Lib.hid (fun j hj => by
      have h1 := waysTo_len h C h.length k r j
      have h2 : j * h.length ^ k ≤ h.length ^ (k + 1) := by rw [Nat.pow_succ, Nat.mul_comm]; exact Nat.mul_le_mul_left _ hj
      have h3 : h.length ^ (k + 1) ≤ 8 ^ 8 := Nat.le_trans (Nat.pow_le_pow_left h8 _) (Nat.pow_le_pow_right (by omega) (by omega))
      have h4 : (8 : Nat) ^ 8 = 16777216 := by decide
      omega)
    have HL := Lib.hid hl
    have HCK := Lib.hid hc
    have CN := Lib.hid (fun r vr aF sF w (p : PlIs W S B b h C r vb vr aF sF w) (i : Int) (hn : tryI h C r i = false) => ptry_no p hc hC i hn)
    have CY := Lib.hid (fun r vr aF sF w (p : PlIs W S B b h C r vb vr aF sF w) (i : Nat) (hn : tryP h C r i = true) => ptry_yes p hc hC i hn)
    clear p hl hc
    go_enter Tryz.func35, Tryz.ntmps35
    go_wp2_with fail
    refine CD.out.mono ?_
    rintro e w1 ⟨rfl, hb⟩
    have P1 := Lib.hid (P.out.below hb)
    clear hb CD
    go_wp2_with fail
    go_loopw [5, 10] (fun x i wr => ∃ (j y : Nat), j ≤ h.length ∧ y ≤ 16777216 ∧ x = .int .i64 (y : Int) ∧ i = .int .i64 (j : Int) ∧ Hid (y = waysTo h C h.length k r j) ∧ Hid (∃ vr aF sF, PlIs W S B b h C r vb vr aF sF wr)) (fun _ i _ => h.length - (intOf i).toNat)
    case atStart => exact ⟨0, 0, by omega, by omega, rfl, rfl, Lib.hid rfl, Lib.hid ⟨_, _, _, P1.out⟩⟩
    case round =>
      clear P1 P
      obtain ⟨j, y, hj, hy, rfl, rfl, HY, HP⟩ := hrel
      by_cases hlt : (j : Int) < (h.length : Int)
      · obtain ⟨vr, aF, sF, p⟩ := HP.out
        have HS := Lib.hid (waysTo_succ h C h.length k r j)
        have HB1 := Lib.hid (HB.out (j + 1) (by omega))
        cases ht : tryP h C r j with
        | true =>
          have CT := Lib.hid (CY.out r vr aF sF wr p j ht)
          rw [ht, if_pos rfl] at HS
          clear p ht
          go_wp2_with fail
          refine CT.out.mono ?_
          rintro e w2 ⟨rfl, vr2, aF2, sF2, p2, _⟩
          have CI := Lib.hid (IH.out (j :: r) vr2 aF2 sF2 w2 p2 (by have := HL.out; simp; omega))
          have HYB : Hid (y + waysN h C h.length k (j :: r) ≤ 16777216 ∧ y + waysN h C h.length k (j :: r) = waysTo h C h.length k r (j + 1)) := Lib.hid (by have h1 := HS.out; have h2 := HB1.out; have h3 := HY.out; omega)
          clear p2 CT
          generalize waysN h C h.length k (j :: r) = z at *
          have hyz : y + z ≤ 16777216 := HYB.out.1
          go_wp2_with fail
          refine CI.out.mono ?_
          rintro e w3 ⟨rfl, vr3, aF3, sF3, p3⟩
          have CU := Lib.hid (pundo_cons p3 h64)
          clear p3 CI
          go_wp2_with fail
          refine CU.out.mono ?_
          rintro e w4 ⟨rfl, vr4, p4, _⟩
          have P4 : Hid (∃ vr aF sF, PlIs W S B b h C r vb vr aF sF w4) := Lib.hid ⟨_, _, _, p4⟩
          clear p4 CU
          go_wp2_with fail
          go_roundw
          case rel => exact ⟨j + 1, y + z, by omega, hyz, rfl, rfl, Lib.hid HYB.out.2, P4⟩
          case measure => simp only [intOf]; omega
        | false =>
          have CT := Lib.hid (CN.out r vr aF sF wr p (j : Int) (by unfold tryI; rw [Int.toNat_natCast, ht, Bool.and_false]))
          rw [ht, if_neg (by simp), Nat.add_zero] at HS
          have HP2 := Lib.hid (fun wx (hx : Below wr.heap.size wr wx) => p.below hx)
          clear p ht
          go_wp2_with fail
          refine CT.out.mono ?_
          rintro e w2 ⟨rfl, hb2⟩
          have P4 : Hid (∃ vr aF sF, PlIs W S B b h C r vb vr aF sF w2) := Lib.hid ⟨_, _, _, HP2.out _ hb2⟩
          clear hb2 HP2
          go_wp2_with fail
          go_roundw
          case rel => exact ⟨j + 1, y, by omega, hy, rfl, rfl, Lib.hid (by rw [HS.out]; exact HY.out), P4⟩
          case measure => simp only [intOf]; omega
      · have HQ : Hid ((y : Int) = ((waysN h C h.length (k + 1) r : Nat) : Int)) := Lib.hid (by rw [HV.out, HY.out, show j = h.length by omega])
        go_wp2_with fail
        go_ret
        exact ⟨ret_i HQ.out, HP.out⟩
end
set_option maxRecDepth 100000 in
set_option maxHeartbeats 16000000 in
theorem ways7_walk (va : Value) (h : List TxnV) (a : Nat) (w : World) (ha : a < 256) (ht : Tab w) (hK : Kinds w) (hT : Txns w va h) (hok : ∀ t ∈ h, t.ok) (hsh : Short h) :
    Calls Tryz.prog 7 #[va, .int .u8 a] w fun e w' => e = .returned (.bool true) ∧ Below w.heap.size w w' := by
  have hg := ht.pos
  have HT : Hid (∀ wx, Below w.heap.size w wx → Tab wx ∧ Kinds wx) := Lib.hid (fun wx hb => ⟨ht.below hb hg, hK.below hb⟩)
  have HH := Lib.hid (fun wx (hx : Below w.heap.size w wx) => hT.below hx)
  obtain ⟨ao, cap, rfl, hal⟩ := hT.form
  have HOK := Lib.hid hok
  have HSH := Lib.hid hsh
  have CL := Lib.hid (lone_any w)
  have mm : (a : Int) % 12 = ((a % 12 : Nat) : Int) := by omega
  have lm : a % 12 < 12 := Nat.mod_lt _ (by omega)
  generalize a % 12 = x at *
  have HLV : Hid (isLv (x : Int) = true) := Lib.hid (by unfold isLv; simp; omega)
  clear ht hK hT hok hsh
  by_cases h5 : 5 < h.length
  · have h5i : (5 : Int) < (h.length : Int) := by omega
    clear h5
    go_enter Tryz.func7, Tryz.ntmps7
    go_wp2_with fail
    refine CL.out.mono ?_
    rintro e w1 ⟨rfl, hb1⟩
    go_wp2_with fail
    go_ret
    exact ⟨rfl, hb1⟩
  have h5i : ¬ (5 : Int) < (h.length : Int) := by omega
  have CK := Lib.hid (fun wx (hx : Below w.heap.size w wx) => rcheck_any _ h wx (HH.out _ hx) HSH.out)
  rw [← check_ref] at CK
  go_enter Tryz.func7, Tryz.ntmps7
  go_wp2_with fail
  refine CL.out.mono ?_
  rintro e w1 ⟨rfl, hb1⟩
  have CK1 := Lib.hid (CK.out _ hb1)
  clear CK CL
  by_cases hc : checkI h = 0
  rotate_left
  · have hci : (checkI h == 0) = false := by rw [beq_eq_false_iff_ne]; exact hc
    have hcj : (checkI h != 0) = true := by rw [bne_iff_ne]; exact hc
    generalize checkI h = z at *
    go_wp2_with fail
    refine CK1.out.mono ?_
    rintro e w2 ⟨rfl, hb2⟩
    have HF := Lib.hid (below_then hb1 hb2)
    go_wp2_with fail
    go_ret
    exact ⟨rfl, HF.out⟩
  rw [hc] at CK1
  go_wp2_with fail
  refine CK1.out.mono ?_
  rintro e w2 ⟨rfl, hb2⟩
  have hb2 := below_then hb1 hb2
  have CO := Lib.hid (of_done _ h w2 (HH.out _ hb2) HOK.out HSH.out hc)
  have HC := Lib.hid hc
  clear hc hb1 CK1
  go_wp2_with fail
  refine CO.out.mono ?_
  rintro e w3 ⟨⟨B, rfl, hB, hO⟩, hb3⟩
  have hb3 := below_then hb2 hb3
  have CA := Lib.hid (lasks_any (x : Int) w3 (HT.out _ hb3).2)
  have CN := Lib.hid (pnew_any ((askN (x : Int) : Nat) : Int) h B (B + 2) w3 hO HC.out (HT.out _ hb3).1)
  have HCL : Hid (clI ((askN (x : Int) : Nat) : Int) < 9223372036854775808) := Lib.hid (by have := clI_lt ((askN (x : Int) : Nat) : Int); omega)
  have HW := Lib.hid (ways_count h (x : Int) HLV.out)
  have HB3 := Lib.hid hb3
  have h8 : h.length ≤ 8 := by omega
  have HCI : Hid (countI h (x : Int) = (((ordersN h.length).countP (keptL h (x : Int)) : Nat) : Int)) := Lib.hid (by unfold countI; rw [if_pos h8])
  rw [HW.out] at HCI
  clear hb2 hb3 CO hB hO HW
  go_wp2_with fail
  refine CA.out.mono ?_
  rintro e wq ⟨rfl, rfl⟩
  generalize hCC : clI ((askN (x : Int) : Nat) : Int) = C at *
  have HCC := Lib.hid hCC
  clear hCC
  go_wp2_with fail
  refine CN.out.mono ?_
  rintro e w4 ⟨S, vb, aF, sF, rfl, p⟩
  have CWA := Lib.hid (ways_any HC.out HCL.out h8 h.length [] _ aF sF w4 p (by simp))
  clear p CN CA
  go_wp2_with fail
  refine CWA.out.mono ?_
  rintro e w5 ⟨rfl, vr5, aF5, sF5, p5⟩
  have ns : w5.cell? ⟨B, 196, none⟩ = some (.bool (soundTo h h.length)) := p5.ord.blk.cS
  have hb5 := HB3.out.trans (p5.bel.mono HB3.out.size)
  have CB := Lib.hid (bcount_any (x : Int) h B (B + 2) w5 p5.ord HC.out (HT.out _ hb5).1 (HT.out _ hb5).2)
  have HP := Lib.hid (fun wx (hx : Below w5.heap.size w5 wx) => p5.below hx)
  have HB5 := Lib.hid hb5
  rw [HCI.out] at CB
  clear p5 hb5 CWA
  generalize waysN h C h.length h.length [] = z at *
  cases hs : soundTo h h.length with
  | false =>
    rw [hs] at ns CB
    rw [if_neg (by simp)] at CB
    go_wp2_with fail
    refine CB.out.mono ?_
    rintro e w6 ⟨rfl, hb6⟩
    have CR := Lib.hid (prow_any (HP.out _ hb6) (by omega))
    have HB6 := Lib.hid (below_then HB5.out hb6)
    clear hb6 CB
    go_wp2_with fail
    refine CR.out.mono ?_
    rintro e w7 ⟨v, rfl, hI, hb7⟩
    obtain ⟨vo, vc, rfl, _⟩ := hI.form
    have HB7 := Lib.hid (below_then HB6.out hb7)
    clear hI hb7
    go_wp2_with fail
    go_ret
    exact ⟨rfl, HB7.out⟩
  | true =>
    rw [hs] at ns CB
    rw [if_pos rfl] at CB
    go_wp2_with fail
    refine CB.out.mono ?_
    rintro e w6 ⟨rfl, hb6⟩
    have CR := Lib.hid (prow_any (HP.out _ hb6) (by omega))
    have HB6 := Lib.hid (below_then HB5.out hb6)
    clear hb6 CB
    go_wp2_with fail
    refine CR.out.mono ?_
    rintro e w7 ⟨v, rfl, hI, hb7⟩
    obtain ⟨vo, vc, rfl, _⟩ := hI.form
    have HB7 := Lib.hid (below_then HB6.out hb7)
    clear hI hb7
    go_wp2_with fail
    go_ret
    exact ⟨rfl, HB7.out⟩
end Go.Proofs.YtfancjmhdbaoeaaGreatDoor
