/- The walks of lattice.Of, and of a position's Text and Row. Conditions: the table of the levels lies where it is laid; the levels of a position's slices are known. -/
import Derived.Test.YtadihdkpoeibhaaDoorLatC
import Derived.Test.YtadihdkpoeibhaaDoorTblN
import Derived.Test.YtadihdkpoeibhaaDoorOpZ
namespace Go.Proofs.YtadihdkpoeibhaaDoor
set_option maxRecDepth 100000
open Go.RowKit

theorem infoPos {v1 v2 : Value} : (Tryd.prog.info? 32).map (·.size) = some (#[v1, v2] : Array Value).size := (show (Tryd.prog.info? 32).map (·.size) = some 2 by kernel_rfl)
theorem own_one {w : World} {b e s n : Nat} {v : Value} {xs : List Value} (h : w.ownsRow b e s v n xs) : v.oneCell' = true := by
  rcases h.2 with ⟨rfl, _⟩ | ⟨g, cap, cur, rfl, _⟩ <;> rfl
theorem pos_form {w : World} {b e s n : Nat} {v : Value} {xs : List Value} (h : w.ownsRow b e s v n xs) : ∃ ao m c, v = .slice ao m c := by
  rcases h.2 with ⟨rfl, _⟩ | ⟨g, cap, cur, rfl, _⟩
  · exact ⟨_, _, _, rfl⟩
  · exact ⟨_, _, _, rfl⟩
theorem pos_one {w w' : World} {b e s n b' e' s' n' : Nat} {v1 v2 : Value} {xs ys : List Value} (h1 : w.ownsRow b e s v1 n xs) (h2 : w'.ownsRow b' e' s' v2 n' ys) : (#[v1, v2] : Array Value).all (·.oneCell') = true := by
  simp [own_one h1, own_one h2]
theorem owns_setRow {w : World} {g base e s n : Nat} {v : Value} {xs : List Value} (h : w.ownsRow base e s v n xs) (hg : g < base) (cs : Array Value) : (w.setRow g cs).ownsRow base e s v n xs := by
  obtain ⟨h1, h2⟩ := h
  refine ⟨h1, ?_⟩
  rcases h2 with h2 | ⟨g', cap, cur, e1, e2, hb, r⟩
  · exact .inl h2
  · exact .inr ⟨g', cap, cur, e1, e2, by rw [setRow_other _ _ _ _ (by omega)]; exact hb, r⟩
theorem BRow.otherRow {w : World} {g g' : Nat} {r : Nat → Bool} (h : BRow w g r) (hg : g ≠ g') (cs : Array Value) : BRow (w.setRow g' cs) g r := by
  unfold BRow at *; rw [setRow_other _ _ _ _ hg]; exact h
/-- The two rows of levels of a position. -/
structure PosO (w : World) (b : Nat) (v1 v2 : Value) (l m : List Nat) : Prop where
  o1 : w.ownsRow b 34 1 v1 l.length (natV l)
  o2 : w.ownsRow b 34 1 v2 m.length (natV m)
theorem ints_nat {w : World} {b : Nat} {v : Value} {l : List Nat} (h : w.ownsRow b 34 1 v l.length (natV l)) : Ints w v (l.map Int.ofNat) := by
  have h1 := Row.of_owns h
  unfold Ints
  rw [List.length_map, List.map_map]
  exact h1
theorem PosO.below {w w' : World} {b : Nat} {v1 v2 : Value} {l m : List Nat} (h : PosO w b v1 v2 l m) (hb : Below w.heap.size w w') : PosO w' b v1 v2 l m := ⟨owns_below h.1 hb, owns_below h.2 hb⟩
theorem strTo_lt (r : Nat → Bool) : ∀ a ∈ strTo r 12, a < 12 := fun a ha => by unfold strTo at ha; exact List.mem_range.1 (List.mem_filter.1 ha).1
theorem wkTo_lt (r : Nat → Bool) : ∀ a ∈ wkTo r 12, a < 12 := fun a ha => by unfold wkTo at ha; exact List.mem_range.1 (List.mem_filter.1 ha).1
set_option maxRecDepth 100000 in
set_option maxHeartbeats 4000000 in
theorem latof_any (r : Nat → Bool) (w : World) (hK : Kinds w) : Calls Tryd.prog 9 #[.agg (rowB r)] w fun e w' => ∃ v1 v2, e = .returned (.agg #[v1, v2]) ∧ PosO w' w.heap.size v1 v2 (strTo r 12) (wkTo r 12) ∧ Below w.heap.size w w' := by
  have hR := (BRow.made w r rfl rfl).alloc (.cells #[.slice none 0 0, .slice none 0 0] 32)
  have hP := heap_alloc_new (w.alloc (.cells (rowB r) 25)) (.cells #[.slice none 0 0, .slice none 0 0] 32)
  have hb := ((Below.refl w.heap.size w).alloc (Nat.le_refl _) (.cells (rowB r) 25)).alloc (by simp) (.cells #[.slice none 0 0, .slice none 0 0] 32)
  have hsz : (w.alloc (.cells (rowB r) 25)).heap.size = w.heap.size + 1 := by simp
  rw [hsz] at hP
  have hs2 : ((w.alloc (.cells (rowB r) 25)).alloc (.cells #[.slice none 0 0, .slice none 0 0] 32)).heap.size = w.heap.size + 2 := by simp
  have HK := Lib.hid (fun wx (hx : Below w.heap.size w wx) => hK.below hx)
  clear hK hsz
  go_enter Tryd.func9, Tryd.ntmps9
  go_upto_region 1 with fail
  generalize (w.alloc (.cells (rowB r) 25)).alloc (.cells #[.slice none 0 0, .slice none 0 0] 32) = w1 at *
  have kd := (Below.refl w1.heap.size w1).drew
  have HP := Lib.hid (fun wx (hx : Below w1.heap.size w1 wx) => (hx.block (w.heap.size + 1) (by omega)).trans hP)
  have HW := Lib.hid (fun wx (hx : Below w1.heap.size w1 wx) => hb.trans (hx.mono hb.size))
  have hR := hR.below kd hR.lt
  have C1 := Lib.hid (fun wx (hx : Below w1.heap.size w1 wx) => strongest_any r wx (HK.out _ (HW.out _ hx)))
  have C2 := Lib.hid (fun wx (hx : Below w1.heap.size w1 wx) => lweakest_any r wx (HK.out _ (HW.out _ hx)))
  have HKD0 := Lib.hid kd
  have hdz := kd.size
  clear hP hb kd HK
  refine wp_region_held_drew (S := fun wx => BRow wx w.heap.size r) (by kernel_rfl) hR (fun hS0 => ?_)
  generalize w1.drew = wd at *
  refine takeR (some 3) (i := 0) (v := _) rfl rfl (by kernel_rfl) (by kernel_rfl) (by kernel_rfl) (fun _ _ _ h => h) (yields_load_rowB (by rfl) _ rfl rfl (fun _ hw => hw)) hS0 ?_
  try simp only [Act.put, List.setIfInBounds_toArray, List.set_cons_zero, List.set_cons_succ]
  refine takeR (some 5) (i := 2) (v := _) rfl rfl (by kernel_rfl) (by kernel_rfl) (by kernel_rfl) (fun _ _ _ h => h) (yields_load_rowB (by rfl) _ rfl rfl (fun _ hw => hw)) hS0 ?_
  try simp only [Act.put, List.setIfInBounds_toArray, List.set_cons_zero, List.set_cons_succ]
  refine wpAnyH_ready (rs := [1]) (by kernel_rfl) (by simp) ?_
  refine AllReadyH.cons rfl (fun K hK => ?_) AllReadyH.nil
  go_simp
  refine (C1.out _ HKD0.out).mono ?_
  rintro e w2 ⟨v1, rfl, hO1, h2⟩
  obtain ⟨a1, n1, k1, rfl⟩ := pos_form hO1
  have HKD := Lib.hid (below_then HKD0.out h2)
  have sB := hS0.below h2 hS0.lt
  show K _ _
  refine hK.out _ _ sB (fun _ => ?_)
  clear hK K
  refine wpAnyH_ready (rs := [3]) (by kernel_rfl) (by simp) ?_
  refine AllReadyH.cons rfl (fun K hK => ?_) AllReadyH.nil
  go_simp
  refine (C2.out _ HKD.out).mono ?_
  rintro e w3 ⟨v2, rfl, hO2, h3⟩
  obtain ⟨a2, n2, k2, rfl⟩ := pos_form hO2
  have HKE := Lib.hid (below_then HKD.out h3)
  have sC := sB.below h3 sB.lt
  show K _ _
  refine hK.out _ _ sC (fun _ => ?_)
  clear hK K
  refine takeR (some 7) (i := 4) (v := ?vla4x5) rfl rfl (by kernel_rfl) (by kernel_rfl) (by kernel_rfl) (fun _ _ _ h => h) (Or.inl ⟨by rfl, ?hla4x5⟩) sC ?rla4x5
  case hla4x5 => (intro w _; go_simp; try (with_reducible rfl))
  try simp only [Act.put, List.setIfInBounds_toArray, List.set_cons_zero, List.set_cons_succ]
  refine wpAnyH_ready (rs := [5]) (by kernel_rfl) (by simp) ?_
  refine AllReadyH.cons rfl (fun K hK => ?_) AllReadyH.nil
  rw [if_pos (by rfl)]
  have hp3 := HP.out _ HKE.out
  have HP3 := Lib.hid hp3
  have HO1 := Lib.hid (owns_setRow (owns_below hO1 h3) (g := w.heap.size + 1) (by omega) #[.slice a1 n1 k1, .slice a2 n2 k2])
  have HO2 := Lib.hid (owns_setRow hO2 (g := w.heap.size + 1) (by have := h2.size; omega) #[.slice a1 n1 k1, .slice a2 n2 k2])
  have HB := Lib.hid (HW.out _ HKE.out)
  have h2s := h2.size
  refine wp_store_row 32 _ _ rfl (w.heap.size + 1) #[.slice a1 n1 k1, .slice a2 n2 k2] rfl rfl _ _ hp3 infoPos rfl (pos_one hO1 hO2) ?_
  refine hK.out _ _ (sC.otherRow (by omega) _) (fun _ => ?_)
  clear hK K
  refine wpAnyH_done (by kernel_rfl) ?_ _
  go_wp2_with fail
  have hb9 := below_setRow HB.out (show w.heap.size ≤ w.heap.size + 1 by omega) #[.slice a1 n1 k1, .slice a2 n2 k2]
  refine bodyPost_ret (v := .agg #[.slice a1 n1 k1, .slice a2 n2 k2]) (results_cell_row rfl _ _ (w.heap.size + 1) _ #[.slice a1 n1 k1, .slice a2 n2 k2] _ _ rfl (setRow_heap _ _ _ _ _ _ HP3.out) Tryd.underlying32 rfl infoPos) rfl ⟨_, _, rfl, ⟨own_base0 HO1.out (by omega), own_base0 HO2.out (by omega)⟩, hb9⟩
/-- Both lines. -/
def posB (l m : List Nat) : ByteArray := lnB ⟨#[115, 116, 114, 111, 110, 103, 101, 115, 116]⟩ l ++ lnB ⟨#[98, 101, 121, 111, 110, 100]⟩ m
theorem lnB_size (first : ByteArray) (l : List Nat) (hf : first.size ≤ 100) (hl : ∀ a ∈ l, a < 12) (hn : l.length ≤ 12) : (lnB first l).size ≤ 20001 := by
  have := lnL_len first l hf hl hn
  show (lnL first l ++ [10]).toArray.size ≤ _
  simp; omega
set_option maxRecDepth 100000 in
set_option maxHeartbeats 4000000 in
theorem ptext_any (ao : Option Addr) (n acap : Nat) (bo : Option Addr) (n2 bcap : Nat) (l m : List Nat) (w : World) (hK : Kinds w) (h1 : Ints w (.slice ao n acap) (l.map Int.ofNat)) (h2 : Ints w (.slice bo n2 bcap) (m.map Int.ofNat)) (hl : ∀ a ∈ l, a < 12) (hm : ∀ a ∈ m, a < 12) (hnl : l.length ≤ 12) (hnm : m.length ≤ 12) :
    Calls Tryd.prog 11 #[.agg #[.slice ao n acap, .slice bo n2 bcap]] w fun e w' => e = .returned (.string (posB l m)) ∧ Below w.heap.size w w' := by
  have CA := Lib.hid (fun wx (hx : Below w.heap.size w wx) => line_any ⟨#[115, 116, 114, 111, 110, 103, 101, 115, 116]⟩ (.slice ao n acap) l wx (hK.below hx) (h1.below hx) (by decide) hl hnl)
  have CB := Lib.hid (fun wx (hx : Below w.heap.size w wx) => line_any ⟨#[98, 101, 121, 111, 110, 100]⟩ (.slice bo n2 bcap) m wx (hK.below hx) (h2.below hx) (by decide) hm hnm)
  have hb := (Below.refl w.heap.size w).alloc (Nat.le_refl _) (.cells #[.slice ao n acap, .slice bo n2 bcap] 32)
  have z1 := lnB_size ⟨#[115, 116, 114, 111, 110, 103, 101, 115, 116]⟩ l (by decide) hl hnl
  have z2 := lnB_size ⟨#[98, 101, 121, 111, 110, 100]⟩ m (by decide) hm hnm
  have hov : ¬ 9223372036854775807 < (lnB ⟨#[115, 116, 114, 111, 110, 103, 101, 115, 116]⟩ l).size + (lnB ⟨#[98, 101, 121, 111, 110, 100]⟩ m).size := by omega
  have hP := heap_alloc_new w (.cells #[.slice ao n acap, .slice bo n2 bcap] 32)
  have c0 : (w.alloc (.cells #[.slice ao n acap, .slice bo n2 bcap] 32)).cell? ⟨w.heap.size, 0, none⟩ = some (.slice ao n acap) := by simp only [World.cell?, hP]; rfl
  have c1 : (w.alloc (.cells #[.slice ao n acap, .slice bo n2 bcap] 32)).cell? ⟨w.heap.size, 1, none⟩ = some (.slice bo n2 bcap) := by simp only [World.cell?, hP]; rfl
  unfold posB
  generalize lnB ⟨#[115, 116, 114, 111, 110, 103, 101, 115, 116]⟩ l = S1 at *
  generalize lnB ⟨#[98, 101, 121, 111, 110, 100]⟩ m = S2 at *
  clear hK h1 h2 hP z1 z2 hl hm hnl hnm
  go_enter Tryd.func11, Tryd.ntmps11
  go_upto_region 1 with fail
  generalize w.alloc (.cells #[.slice ao n acap, .slice bo n2 bcap] 32) = w1 at *
  obtain ⟨g, hg⟩ : ∃ g, g = w.heap.size := ⟨_, rfl⟩
  rw [← hg] at hb c0 c1 ⊢
  have CA := Lib.hid (fun wx hx => CA.out wx (by rw [← hg]; exact hx))
  have CB := Lib.hid (fun wx hx => CB.out wx (by rw [← hg]; exact hx))
  have hgs : g ≤ w1.heap.size := by have := hb.size; rw [← hg] at this; exact this
  have HG := Lib.hid hg
  clear hg
  have kd := (Below.refl w1.heap.size w1).drew
  have c0 := (kd.cell (p := ⟨g, 0, none⟩) (block_lt c0)).trans c0
  have c1 := (kd.cell (p := ⟨g, 1, none⟩) (block_lt c1)).trans c1
  have HKD := Lib.hid kd
  have CA := Lib.hid (fun wx (hx : Below w1.heap.size w1 wx) => CA.out wx (hb.trans (hx.mono hgs)))
  have CB := Lib.hid (fun wx (hx : Below w1.heap.size w1 wx) => CB.out wx (hb.trans (hx.mono hgs)))
  clear kd
  refine wp_region_held_drew (S := fun wx => wx.cell? ⟨g, 0, none⟩ = some (.slice ao n acap) ∧ wx.cell? ⟨g, 1, none⟩ = some (.slice bo n2 bcap)) (by kernel_rfl) ⟨c0, c1⟩ (fun hS0 => ?_)
  generalize w1.drew = wd at *
  refine takeR (some 3) (i := 0) (v := ?vlt0x1) rfl rfl (by kernel_rfl) (by kernel_rfl) (by kernel_rfl) (fun _ _ _ h => h) (Or.inl ⟨by rfl, ?hlt0x1⟩) hS0 ?rlt0x1
  case hlt0x1 => (intro w hw; obtain ⟨m0, m1⟩ := hw; go_simp; try (with_reducible rfl))
  try simp only [Act.put, List.setIfInBounds_toArray, List.set_cons_zero, List.set_cons_succ]
  refine takeR (some 4) (i := 1) (v := ?vlt1x2) rfl rfl (by kernel_rfl) (by kernel_rfl) (by kernel_rfl) (fun _ _ _ h => h) (Or.inl ⟨by rfl, ?hlt1x2⟩) hS0 ?rlt1x2
  case hlt1x2 => (intro w hw; obtain ⟨m0, m1⟩ := hw; go_simp; try (with_reducible rfl))
  try simp only [Act.put, List.setIfInBounds_toArray, List.set_cons_zero, List.set_cons_succ]
  refine takeR (some 6) (i := 3) (v := ?vlt3x3) rfl rfl (by kernel_rfl) (by kernel_rfl) (by kernel_rfl) (fun _ _ _ h => h) (Or.inl ⟨by rfl, ?hlt3x3⟩) hS0 ?rlt3x3
  case hlt3x3 => (intro w hw; obtain ⟨m0, m1⟩ := hw; go_simp; try (with_reducible rfl))
  try simp only [Act.put, List.setIfInBounds_toArray, List.set_cons_zero, List.set_cons_succ]
  refine takeR (some 7) (i := 4) (v := ?vlt4x4) rfl rfl (by kernel_rfl) (by kernel_rfl) (by kernel_rfl) (fun _ _ _ h => h) (Or.inl ⟨by rfl, ?hlt4x4⟩) hS0 ?rlt4x4
  case hlt4x4 => (intro w hw; obtain ⟨m0, m1⟩ := hw; go_simp; try (with_reducible rfl))
  try simp only [Act.put, List.setIfInBounds_toArray, List.set_cons_zero, List.set_cons_succ]
  refine wpAnyH_ready (rs := [2]) (by kernel_rfl) (by simp) ?_
  refine AllReadyH.cons rfl (fun K hK => ?_) AllReadyH.nil
  go_simp
  refine (CA.out _ HKD.out).mono ?_
  rintro e wa ⟨rfl, hxwa⟩
  have HKD := Lib.hid (below_then HKD.out hxwa)
  have sA := And.intro ((hxwa.cell (p := ⟨g, 0, none⟩) (block_lt hS0.1)).trans hS0.1) ((hxwa.cell (p := ⟨g, 1, none⟩) (block_lt hS0.2)).trans hS0.2)
  have swa := sA
  show K _ _
  refine hK.out _ _ swa (fun _ => ?_)
  clear hK K
  refine wpAnyH_ready (rs := [5]) (by kernel_rfl) (by simp) ?_
  refine AllReadyH.cons rfl (fun K hK => ?_) AllReadyH.nil
  go_simp
  refine (CB.out _ HKD.out).mono ?_
  rintro e wb ⟨rfl, hxwb⟩
  have HKD := Lib.hid (below_then HKD.out hxwb)
  have sA := And.intro ((hxwb.cell (p := ⟨g, 0, none⟩) (block_lt swa.1)).trans swa.1) ((hxwb.cell (p := ⟨g, 1, none⟩) (block_lt swa.2)).trans swa.2)
  have swb := sA
  show K _ _
  refine hK.out _ _ swb (fun _ => ?_)
  clear hK K
  refine takeR (some 9) (i := 6) (v := ?vlt6x7) rfl rfl (by kernel_rfl) (by kernel_rfl) (by kernel_rfl) (fun _ _ _ h => h) (Or.inl ⟨by rfl, ?hlt6x7⟩) swb ?rlt6x7
  case hlt6x7 => (intro w hw; obtain ⟨m0, m1⟩ := hw; go_simp; try (with_reducible rfl))
  try simp only [Act.put, List.setIfInBounds_toArray, List.set_cons_zero, List.set_cons_succ]
  refine takeR (some 2) (i := 7) (v := ?vlt7x8) rfl rfl (by kernel_rfl) (by kernel_rfl) (by kernel_rfl) (fun _ _ _ h => h) (Or.inl ⟨by rfl, ?hlt7x8⟩) swb ?rlt7x8
  case hlt7x8 => (intro w hw; obtain ⟨m0, m1⟩ := hw; go_simp; try (with_reducible rfl))
  try simp only [Act.put, List.setIfInBounds_toArray, List.set_cons_zero, List.set_cons_succ]
  refine wpAnyH_done (by kernel_rfl) ?_ _
  have hz := hb.trans (HKD.out.mono hgs)
  clear HKD CA CB
  go_wp2_with fail
  go_ret
  exact ⟨rfl, by rw [← HG.out]; exact hz⟩
end Go.Proofs.YtadihdkpoeibhaaDoor
