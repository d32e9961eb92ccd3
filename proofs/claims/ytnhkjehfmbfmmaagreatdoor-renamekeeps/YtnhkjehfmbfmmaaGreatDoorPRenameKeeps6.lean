/- Walks and plain facts that the proof of the statement RenameKeeps uses, joined: AxhL BruA BruC BruD PlaQ BruE SeaG SeaB SeaH SeaI OrdL PlaN SeaJ SeaK LesC OrdAB AxhB AxhC BruJ BruP BruQ BruR BruU BruF BruG BruH BruI PlaP LeaI LeaJ TopA BruK BruV BruZ BrcA BrcC BruW BruX AxhN BruY BrcB SeaL. Conditions: each theorem's own. -/
import Derived.OneCell
import Derived.RangeFuncNested
import Derived.RangeFuncCalls
import Derived.RangeFuncLeaves
import Derived.RangeFuncBound
import Derived.Shelf.Abstract
import Derived.OwnWalkIn
import Derived.TacticsInMore
import Derived.LoopNIn
import Derived.LoopIn
import Derived.Deep.AppendLies
import Derived.ArgAppend
import Derived.Deep.RegionHeld
import Derived.Deep.CutRange
import Derived.Deep.MidRow
import Derived.Deep.RegionHeld3
import Derived.Deep.Upon
import Derived.Test.YtnhkjehfmbfmmaaGreatDoorPRenameKeeps0
import Derived.Test.YtnhkjehfmbfmmaaGreatDoorPRenameKeeps1
import Derived.Test.YtnhkjehfmbfmmaaGreatDoorPRenameKeeps2
import Derived.Test.YtnhkjehfmbfmmaaGreatDoorPRenameKeeps3
import Derived.Test.YtnhkjehfmbfmmaaGreatDoorPRenameKeeps4
import Derived.Test.YtnhkjehfmbfmmaaGreatDoorPRenameKeeps5
namespace Go.Proofs.YtnhkjehfmbfmmaaGreatDoor
set_option maxHeartbeats 32000000
set_option maxRecDepth 100000
set_option linter.unusedSimpArgs false
set_option linter.unusedVariables false
open Lib (hid)
section
open Go.RowKit
theorem nilIn (w : World) : Sem.run Tryz.prog (binOp .eql 24 (.slice none 0 0) (.slice none 0 0)) w = .ok (.bool true) w := by kernel_rfl
theorem someIn (w : World) (a : Addr) (n c : Nat) : Sem.run Tryz.prog (binOp .eql 24 (.slice (some a) n c) (.slice none 0 0)) w = .ok (.bool false) w := by kernel_rfl
theorem clone_ints (va : Value) (l : List Int) (w : World) (ha : Ints w va l) (hl : l.length ≤ 100000) :
  Calls Tryz.prog 234 #[va] w fun e w' => ∃ v, e = .returned v ∧ w'.ownsRow w.heap.size 3 1 v l.length (l.map (Value.int .i64)) ∧ Below w.heap.size w w' := by
 obtain ⟨i0, hi, hz0, hz1, hz2⟩ := info_parts infoInt
 obtain ⟨ao, cap, rfl, hal⟩ := ha.form
 cases ao with
 | none =>
  have h0 : l = [] := by
   obtain ⟨_, ao', cap', e, _, hno, _⟩ := ha
   cases e
   exact List.eq_nil_of_length_eq_zero (hno rfl).1
  subst h0
  have hc0 : cap = 0 := by
   obtain ⟨_, ao', cap', e, _, hno, _⟩ := ha
   cases e
   exact (hno rfl).2
  subst hc0
  have e1 := nilIn
  have e2 := fun w a n c => someIn w a n c
  go_enter Tryz.func234, Tryz.ntmps234
  go_wp2_with fail
  go_ret
  exact ⟨_, rfl, World.ownsRow_nil _ _ _ _, Below.refl _ _⟩
 | some ad =>
  have e1 := nilIn
  have e2 := fun w a n c => someIn w a n c
  go_enter Tryz.func234, Tryz.ntmps234
  go_wp2_with (first | (at_builtin; refine wpList_append_row rfl _ _ 24 rfl w.heap.size 3 i0 (.int .i64 0) 1 8 Tryz.underlying24 hi hz0 hz1 hz2 rfl (by decide) _ 0 [] rfl (World.ownsRow_lit _ _ _ (Nat.le_refl _) (by decide) rfl) _ l.length _ rfl (ha.below ((Below.refl _ _).alloc (Nat.le_refl _) _)) ?d1 ?d2 ?d3 ?d4 ?_) | go_in)
  case d1 => intro u hu; obtain ⟨x, _, rfl⟩ := List.mem_map.1 hu; rfl
  case d2 => unfold maxLen; omega
  case d3 => omega
  case d4 => first | omega | simp
  intro v5 w5 hown5 hg5
  have hO5 : w5.ownsRow w.heap.size 3 1 v5 l.length (l.map (Value.int .i64)) := by simpa using hown5
  have hb5 := ((Below.refl w.heap.size w).alloc (Nat.le_refl _) (.cells #[] 3)).grown hg5 (by simp) (by intro k hk; simp [Value.ownBlock] at hk; omega)
  clear hown5 hg5
  go_wp2_with fail
  go_ret
  exact ⟨_, rfl, hO5, hb5⟩
theorem infoIntsL : (Tryz.prog.info? 24).map (fun i => (i.zero, i.size, i.bytes)) = some (some (.slice none 0 0), 1, 24) := by kernel_rfl
def seesL (V : Mat) (n : Nat) : List (List Int) := (List.range n).map fun (i : Nat) => (lst (seeTo V (i : Int) 64)).map Int.ofNat
theorem seesL_succ (V : Mat) (n : Nat) : seesL V (n + 1) = seesL V n ++ [(lst (seeTo V (n : Int) 64)).map Int.ofNat] := by
 unfold seesL; rw [List.range_succ, List.map_append]; rfl
structure OwnK (b : Nat) (w : World) (v : Value) (K : List KRow) : Prop where
 kr : w.ownsRow b 24 1 v K.length (K.map (·.1))
 ke : ∀ p ∈ K, w.ownsRow b 3 1 p.1 p.2.length (p.2.map (Value.int .i64))
theorem OwnK.nil (b : Nat) (w : World) : OwnK b w (.slice none 0 0) [] := ⟨World.ownsRow_nil _ _ _ _, fun p hp => (by cases hp)⟩
theorem OwnK.below {b : Nat} {w w' : World} {v : Value} {K : List KRow} (h : OwnK b w v K) (hb : Below w.heap.size w w') : OwnK b w' v K := ⟨owns_below h.kr hb, fun p hp => owns_below (h.ke p hp) hb⟩
theorem OwnK.add {b : Nat} {w w2 : World} {o : Obj} {v v' u : Value} {K : List KRow} {l : List Int} (h : OwnK b w v K) (hv : w.ownsRow b 3 1 u l.length (l.map (Value.int .i64))) (hown : w2.ownsRow b 24 1 v' (K.length + 1) (K.map (·.1) ++ [u]))
  (hg : (w.alloc o).grownBy w2 v.ownBlock) : OwnK b w2 v' (K ++ [(u, l)]) := by
 refine ⟨by simpa using hown, fun p hp => ?_⟩
 rcases List.mem_append.1 hp with hp | hp
 ·exact ((h.ke p hp).alloc o).kept hg (owns_apart (h.ke p hp) h.kr (by decide))
 ·obtain rfl := List.mem_singleton.1 hp
  exact (hv.alloc o).kept hg (owns_apart hv h.kr (by decide))
theorem OwnK.lists {b : Nat} {w : World} {v : Value} {K : List KRow} (h : OwnK b w v K) : Lists w v (K.map (·.2)) := by
 refine ⟨K.map (·.1), by have := Row.of_owns h.kr; rwa [List.length_map], fun k hk => ?_⟩
 rw [List.length_map] at hk
 refine ⟨K[k].1, by rw [List.getElem?_map, List.getElem?_eq_getElem hk]; rfl, ?_⟩
 rw [List.getElem_map]
 exact Ints.of_owns (h.ke _ (List.getElem_mem hk))
theorem own_far {w : World} {b e size n p : Nat} {v : Value} {xs : List Value} {cs : Array Value} {t : TypeId} {fr : Nat × Nat} (h : w.ownsRow b e size v n xs) (hp : w.heap[p]? = some (.cells cs t fr)) (hne : e ≠ t) : some p ≠ v.ownBlock := by
 obtain ⟨_, h⟩ := h
 rcases h with ⟨rfl, _⟩ | ⟨g, c, cur, rfl, _, hh, _⟩
 ·simp [Value.ownBlock]
 ·intro e2
  simp [Value.ownBlock] at e2
  subst e2
  rw [hp] at hh
  injection hh with hh
  injection hh with h1 h2 h3
  exact hne h2.symm
structure WI (b p5 : Nat) (V : Mat) (vo : Value) (l : List Int) (vs : Value) (K : List KRow) (w0 w : World) : Prop where
 rel : RelAt w b 108 V
 res : At w (b + 1) (.cells #[.slice none 0 0, .slice none 0 0] 41)
 box : At w p5 (.cells #[vo, vs] 41)
 own : OwnK b w vs K
 ord : w.ownsRow b 3 1 vo l.length (l.map (Value.int .i64))
 bel : Below b w0 w
theorem grown_setW (w : World) (a : Addr) (u : Value) : w.grownBy (w.setCell a u) (some a.block) :=
 ⟨rfl, rfl, rfl, by simp, fun k _ hk => Below.heap_setCell w a u k (fun e => hk (by rw [e]))⟩
theorem lit_newS (w : World) (x : Value) (t : TypeId) : ∀ j u, [x][j]? = some u → (w.alloc (.cells #[x] t)).cell? ((⟨w.heap.size, 0, none⟩ : Addr).add j) = some u := fun j u hu => by
 match j, hu with
 | 0, hu =>
  simp at hu; subst hu
  rw [Addr.add_lit, Nat.add_zero, cell_of_row _ _ _ _ _ _ (heap_alloc_new w _)]; rfl
 | j + 1, hu => simp at hu
theorem own_none {w : World} {b e size n p : Nat} {v : Value} {xs : List Value} {cs : Array Value} {t : TypeId} {fr : Nat × Nat} (h : w.ownsRow b e size v n xs) (hp : w.heap[p]? = some (.cells cs t fr)) (hne : e ≠ t) : v.ownBlock = none ∨ v.ownBlock ≠ some p := .inr (fun e2 => own_far h hp hne e2.symm)
theorem WI.below {b p5 : Nat} {V : Mat} {vo : Value} {l : List Int} {vs : Value} {K : List KRow} {w0 w w' : World} (h : WI b p5 V vo l vs K w0 w) (hb : Below w.heap.size w w') : WI b p5 V vo l vs K w0 w' :=
 ⟨h.rel.below hb h.rel.lt, h.res.below hb, h.box.below hb, h.own.below hb, owns_below h.ord hb, h.bel.trans (hb.mono (Nat.le_of_lt h.rel.lt))⟩
theorem WI.add {b p5 : Nat} {V : Mat} {vo : Value} {l : List Int} {vs v' u : Value} {K : List KRow} {s : List Int} {w0 W w5 : World} {o : Obj} (hp : b + 2 ≤ p5) (h : WI b p5 V vo l vs K w0 W) (hv : W.ownsRow b 3 1 u s.length (s.map (Value.int .i64)))
  (hown : w5.ownsRow b 24 1 v' (K.length + 1) (K.map (·.1) ++ [u])) (hg : (W.alloc o).grownBy w5 vs.ownBlock) :
  RelAt w5 b 108 V ∧ w5.cell? ⟨p5, 1, none⟩ = some vs ∧ w5.frozen? ⟨p5, 1, none⟩ = false ∧ RelAt (w5.setCell ⟨p5, 1, none⟩ v') b 108 V ∧ WI b p5 V vo l v' (K ++ [(u, s)]) w0 (w5.setCell ⟨p5, 1, none⟩ v') := by
 have kr := h.own.kr.alloc o
 have r1 : At w5 b (.cells (rowsA V) 108) := At.grown (h.rel.alloc o) hg (own_far kr (h.rel.alloc o) (by decide))
 have r2 := At.grown (h.res.alloc o) hg (own_far kr (h.res.alloc o) (by decide))
 have r3 := At.grown (h.box.alloc o) hg (own_far kr (h.box.alloc o) (by decide))
 have r4 := h.own.add hv hown hg
 have r5 := (h.ord.alloc o).kept hg (owns_apart h.ord h.own.kr (by decide))
 have d5 := (h.bel.alloc (Nat.le_of_lt h.rel.lt) o).grown hg (by have := h.rel.lt; simp; omega) (fun k hk => (kr.lt k hk).1)
 have gs := grown_setW w5 ⟨p5, 1, none⟩ v'
 have hc : w5.cell? ⟨p5, 1, none⟩ = some vs := by unfold At at r3; simp [World.cell?, r3]
 have q1 := At.grown r1 gs (by simp; omega)
 refine ⟨r1, hc, frozen_of_row w5 p5 1 _ _ r3, q1, q1, At.grown r2 gs (by simp; omega), ?_, ⟨r4.kr.kept gs (own_none r4.kr r3 (by decide)), fun p hp => (r4.ke p hp).kept gs (own_none (r4.ke p hp) r3 (by decide))⟩, r5.kept gs (own_none r5 r3 (by decide)), d5.setCell (p := ⟨p5, 1, none⟩) (by show b ≤ p5; omega) v'⟩
 unfold At at r3 ⊢
 simp [World.setCell, Array.getElem?_modify, r3]
theorem At.second {w : World} {p : Nat} {x y : Value} {t : TypeId} (h : At w p (.cells #[x, y] t)) (z : Value) : At (w.setCell ⟨p, 1, none⟩ z) p (.cells #[x, z] t) := by
 unfold At at h ⊢
 simp [World.setCell, Array.getElem?_modify, h]
theorem WI.done {b p5 : Nat} {V : Mat} {vo : Value} {l : List Int} {vs : Value} {K : List KRow} {w0 w : World} (h : WI b p5 V vo l vs K w0 w) :
  At ((w.setCell ⟨b + 1, 0, none⟩ vo).setCell ⟨b + 1, 1, none⟩ vs) (b + 1) (.cells #[vo, vs] 41) ∧ ((w.setCell ⟨b + 1, 0, none⟩ vo).setCell ⟨b + 1, 1, none⟩ vs).ownsRow b 3 1 vo l.length (l.map (Value.int .i64)) ∧ OwnK b ((w.setCell ⟨b + 1, 0, none⟩ vo).setCell ⟨b + 1, 1, none⟩ vs) vs K ∧ Below b w0 ((w.setCell ⟨b + 1, 0, none⟩ vo).setCell ⟨b + 1, 1, none⟩ vs) := by
 have g1 := grown_setW w ⟨b + 1, 0, none⟩ vo
 have a1 : At (w.setCell ⟨b + 1, 0, none⟩ vo) (b + 1) (.cells #[vo, .slice none 0 0] 41) := by
  have := h.res
  unfold At at this ⊢
  simp [World.setCell, Array.getElem?_modify, this]
 have g2 := grown_setW (w.setCell ⟨b + 1, 0, none⟩ vo) ⟨b + 1, 1, none⟩ vs
 have o1 := h.ord.kept g1 (own_none h.ord h.res (by decide))
 have o2 := o1.kept g2 (own_none o1 a1 (by decide))
 have k1 := h.own.kr.kept g1 (own_none h.own.kr h.res (by decide))
 have k2 := k1.kept g2 (own_none k1 a1 (by decide))
 have hk : OwnK b ((w.setCell ⟨b + 1, 0, none⟩ vo).setCell ⟨b + 1, 1, none⟩ vs) vs K := ⟨k2, fun p hp => by
  have q1 := (h.own.ke p hp).kept g1 (own_none (h.own.ke p hp) h.res (by decide))
  exact q1.kept g2 (own_none q1 a1 (by decide))⟩
 refine ⟨?_, o2, hk, (h.bel.setCell (p := ⟨b + 1, 0, none⟩) (by show b ≤ b + 1; omega) vo).setCell (p := ⟨b + 1, 1, none⟩) (by show b ≤ b + 1; omega) vs⟩
 exact a1.second vs
theorem awitness_own (va : Value) (l : List Int) (V : Mat) (w : World) (ht : Tab w) (hI : Ints w va l) (hl : l.length ≤ 64) :
  Calls Tryz.prog 178 #[va, .agg (rowsA V)] w fun e w' => (∃ vo vs K, e = .returned (.agg #[vo, vs]) ∧ w'.ownsRow w.heap.size 3 1 vo l.length (l.map (Value.int .i64)) ∧ OwnK w.heap.size w' vs K ∧ K.map (fun p : KRow => p.2) = seesL V l.length) ∧ Below w.heap.size w w' := by
 have hg := ht.pos
 obtain ⟨i0, hi, hz0, hz1, hz2⟩ := info_parts infoIntsL
 have HT : Hid (∀ wx, Below w.heap.size w wx → Tab wx) := hid (fun wx hb => ht.below hb hg)
 have HI := hid (fun wx (hx : Below w.heap.size w wx) => hI.below hx)
 obtain ⟨ao, cap, rfl, hal⟩ := hI.form
 have r0 : RelAt (w.alloc (.cells (rowsA V) 108)) w.heap.size 108 V := RelAt.made w _ _ rfl rfl
 have hb0 := box_below w (.cells (rowsA V) 108)
 clear ht hI
 go_enter Tryz.func178, Tryz.ntmps178
 go_upto_region 1 with fail
 generalize hw0 : w.alloc (.cells (rowsA V) 108) = w0 at *
 have hs0 : w0.heap.size = w.heap.size + 1 := by rw [← hw0]; simp
 clear hw0
 have a4 := At.new w0 (.cells #[.slice none 0 0, .slice none 0 0] 41)
 rw [hs0] at a4
 have r0 := r0.alloc (.cells #[.slice none 0 0, .slice none 0 0] 41)
 have hb1 := hb0.alloc (by omega) (.cells #[.slice none 0 0, .slice none 0 0] 41)
 have hs1 : (w0.alloc (.cells #[.slice none 0 0, .slice none 0 0] 41)).heap.size = w.heap.size + 2 := by simp [hs0]
 generalize w0.alloc (.cells #[.slice none 0 0, .slice none 0 0] 41) = w1 at *
 have CC := hid (clone_ints _ l w1 (HI.out _ hb1) (by omega))
 clear hb0 hs0
 go_wp2_with fail
 refine (CC.out).mono ?_
 rintro e w2 ⟨vo, rfl, hO2, h2⟩
 have r2 := r0.below h2 r0.lt
 have a4 := a4.below h2
 have hb2 := below_then hb1 h2
 have hp5 : w.heap.size + 2 ≤ w2.heap.size := by have := h2.size; omega
 obtain ⟨oo, oc, rfl⟩ := owns_form hO2
 go_upto_region 2 with fail
 have hWI : WI w.heap.size w2.heap.size V (.slice oo l.length oc) l (.slice none 0 0) [] w (w2.alloc (.cells #[.slice oo l.length oc, .slice none 0 0] 41)) :=
  ⟨r2.alloc _, a4.alloc _, At.new w2 _, OwnK.nil _ _, own_base' (hO2.alloc _) (by omega), hb2.alloc hb2.size _⟩
 generalize w2.alloc (.cells #[.slice oo l.length oc, .slice none 0 0] 41) = w3 at *
 generalize w2.heap.size = p5 at *
 clear r0 r2 a4 hb1 hb2 hO2 h2 hs1 CC
 go_wp2_with fail
 go_loopw [12] (fun iv wr => ∃ (k : Nat) (vs : Value) (K : List KRow), k ≤ l.length ∧ iv = .int .i64 k ∧ K.map (fun p : KRow => p.2) = seesL V k ∧ WI w.heap.size p5 V (.slice oo l.length oc) l vs K w wr) (fun iv _ => l.length - (intOf iv).toNat)
 case atStart => exact ⟨0, .slice none 0 0, [], by omega, rfl, rfl, hWI⟩
 case round =>
  clear hWI
  obtain ⟨k, vs, K, hk, rfl, hK, hW⟩ := hrel
  by_cases hlt : k < l.length
  ·have hki : (k : Int) < (l.length : Int) := by omega
   have hKl : K.length = k := by have := congrArg List.length hK; simpa [seesL] using this
   obtain ⟨vsa, vsc, rfl⟩ := owns_form hW.own.kr
   have HNX : Hid (∀ u, (K ++ [(u, (lst (seeTo V (k : Int) 64)).map Int.ofNat)]).map (fun p : KRow => p.2) = seesL V (k + 1)) := hid (fun u => by rw [List.map_append, hK, seesL_succ]; rfl)
   have CS := hid (fun wx => asees_any V (k : Int) wx)
   have CL : Hid (∀ wx, Below wr.heap.size wr wx → Calls Tryz.prog 229 #[.int .u64 ((seeTo V (k : Int) 64 : Nat) : Int)] wx fun e w' => ∃ v, e = .returned v ∧ w'.ownsRow w.heap.size 3 1 v ((lst (seeTo V (k : Int) 64)).map Int.ofNat).length (((lst (seeTo V (k : Int) 64)).map Int.ofNat).map (Value.int .i64)) ∧ Below wx.heap.size wx w') := hid (fun wx hx => (list_any (seeTo V (k : Int) 64) wx (seeTo_set V _ 64) (HT.out _ (hW.bel.trans (hx.mono (Nat.le_of_lt hW.rel.lt))))).mono (by
    rintro e w' ⟨v, he, ho, hb⟩
    refine ⟨v, he, own_base' ?_ (show w.heap.size ≤ wx.heap.size by have h1 := hx.size; have h2 := hW.rel.lt; omega), hb⟩
    rw [List.length_map, List.map_map]
    exact ho))
   have HW := hid (fun wx (hx : Below wr.heap.size wr wx) => hW.below hx)
   have HSR : Hid (∀ wx, Below wr.heap.size wr wx → RelAt wx w.heap.size 108 V) := hid (fun wx hx => (hW.below hx).rel)
   have HCL : Hid (∀ wx, Below wr.heap.size wr wx → wx.cell? ⟨p5, 1, none⟩ = some (.slice vsa K.length vsc)) := hid (fun wx hx => by have r3 := (hW.below hx).box; unfold At at r3; simp [World.cell?, r3])
   have HSZ : Hid (∀ wx (o : Obj), Below wr.heap.size wr wx → w.heap.size ≤ (wx.alloc o).heap.size) := hid (fun wx o hx => by have h1 := hx.size; have h2 := hW.rel.lt; simp; omega)
   have n3 : Hid (K.length + 1 ≤ maxLen) := hid (by unfold maxLen; omega)
   have n4 : Hid ((K.length + 1) * 24 ≤ 140737488355328) := hid (by omega)
   generalize hLs : (lst (seeTo V (k : Int) 64)).map Int.ofNat = ls at *
   clear hLs
   have kd := (Below.refl wr.heap.size wr).drew
   clear hW hK hKl
   go_upto_region 5 with fail
   refine wp_region_held_drew (S := fun wx => RelAt wx w.heap.size 108 V) (by kernel_rfl) (HSR.out _ kd) (fun hS0 => ?_)
   refine tA (some 15) 0 rfl rfl hS0 ?_
   try simp only [Act.put, zA, zB, zC]
   refine tA (some 18) 3 rfl rfl hS0 ?_
   try simp only [Act.put, zA, zB, zC]
   refine tG (some 17) 2 _ rfl rfl (yields_rel (by rfl) _ rfl rfl (fun w hw => hw)) hS0 ?_
   try simp only [Act.put, zA, zB, zC]
   generalize wr.drew = wd at *
   refine wpAnyH_ready (rs := [1, 4]) (by kernel_rfl) (by simp) ?_
   refine AllReadyH.cons rfl (fun K' hK' => ?_) (AllReadyH.cons rfl (fun K' hK' => ?_) AllReadyH.nil)
   ·
    have hc1 := HCL.out _ kd
    go_simp
    refine hK'.out _ _ hS0 (fun _ => ?_)
    clear hK' K' hc1
    refine wpAnyH_ready (rs := [4]) (by kernel_rfl) (by simp) ?_
    refine AllReadyH.cons rfl (fun K' hK' => ?_) AllReadyH.nil
    go_simp
    refine (CS.out _).mono ?_
    rintro e q2 ⟨rfl, j2⟩
    show K' _ _
    have k2 := below_then kd j2
    have s2 := HSR.out _ k2
    refine hK'.out _ _ s2 (fun _ => ?_)
    clear hK' K'
    refine wpAnyH_ready (rs := [5]) (by kernel_rfl) (by simp) ?_
    refine AllReadyH.cons rfl (fun K' hK' => ?_) AllReadyH.nil
    go_simp
    refine (CL.out _ k2).mono ?_
    rintro e q3 ⟨vx, rfl, hox, j3⟩
    obtain ⟨ax, cx, hvx⟩ := owns_form hox
    subst hvx
    show K' _ _
    have k3 := below_then k2 j3
    have s3 := HSR.out _ k3
    refine hK'.out _ _ s3 (fun _ => ?_)
    clear hK' K'
    refine wpAnyH_ready (rs := [6]) (by kernel_rfl) (by simp) ?_
    refine AllReadyH.cons rfl (fun K' hK' => ?_) AllReadyH.nil
    go_simp
    have s4 := s3.alloc (.cells #[.slice ax ls.length cx] 24)
    have HCA4 := HCL.out _ (k3.alloc k3.size (.cells #[.slice ax ls.length cx] 24))
    refine hK'.out _ _ s4 (fun _ => ?_)
    clear hK' K'
    refine wpAnyH_ready (rs := [7]) (by kernel_rfl) (by simp) ?_
    refine AllReadyH.cons rfl (fun K' hK' => ?_) AllReadyH.nil
    refine step_app _ rfl (.tmp 16) (.tmp 21) 39 rfl w.heap.size 24 i0 (.slice none 0 0) 1 24 Tryz.underlying39 hi hz0 hz1 hz2 rfl (by decide) (.slice vsa K.length vsc) K.length (K.map (·.1)) (by simp [Act.eval]) ((HW.out _ k3).own.kr.alloc _) ⟨q3.heap.size, 0, none⟩ 1 1 [.slice ax ls.length cx] (by simp [Act.eval]) rfl ?c1x5 ?c2x5 ?c3x5 ?c4x5 ?c5x5 ?c6x5
    case c1x5 => exact lit_newS _ _ _
    case c2x5 => intro u hu; simp at hu; subst hu; rfl
    case c3x5 => exact n3.out
    case c4x5 => exact n4.out
    case c5x5 => exact HSZ.out _ _ k3
    case c6x5 =>
     intro v5 w5 hown5 hg5
     obtain ⟨a5, c5, hv5⟩ := owns_form hown5
     subst hv5
     obtain ⟨hS5, hcz, hfz, hS6, hF5⟩ := WI.add hp5 (HW.out _ k3) hox hown5 hg5
     show K' _ _
     refine hK'.out _ _ hS5 (fun _ => ?_)
     clear hK' K'
     refine tA (some 23) 8 rfl rfl hS5 ?_
     try simp only [Act.put, List.setIfInBounds_toArray]
     refine wpAnyH_ready (rs := [9]) (by kernel_rfl) (by simp) ?_
     refine AllReadyH.cons rfl (fun K' hK' => ?_) AllReadyH.nil
     go_simp
     refine hK'.out _ _ hS6 (fun _ => ?_)
     clear hK' K'
     refine wpAnyH_done (by kernel_rfl) ?_ _
     go_wp2_with fail
     go_roundw
     case rel => exact ⟨k + 1, _, _, by omega, by go_num, HNX.out _, hF5⟩
     case measure => simp [intOf]; omega
   ·
    go_simp
    refine (CS.out _).mono ?_
    rintro e q7 ⟨rfl, j7⟩
    show K' _ _
    have k7 := below_then kd j7
    have s7 := HSR.out _ k7
    refine hK'.out _ _ s7 (fun _ => ?_)
    clear hK' K'
    refine wpAnyH_ready (rs := [1, 5]) (by kernel_rfl) (by simp) ?_
    refine AllReadyH.cons rfl (fun K' hK' => ?_) (AllReadyH.cons rfl (fun K' hK' => ?_) AllReadyH.nil)
    ·
     have hc8 := HCL.out _ k7
     go_simp
     refine hK'.out _ _ s7 (fun _ => ?_)
     clear hK' K' hc8
     refine wpAnyH_ready (rs := [5]) (by kernel_rfl) (by simp) ?_
     refine AllReadyH.cons rfl (fun K' hK' => ?_) AllReadyH.nil
     go_simp
     refine (CL.out _ k7).mono ?_
     rintro e q9 ⟨vx, rfl, hox, j9⟩
     obtain ⟨ax, cx, hvx⟩ := owns_form hox
     subst hvx
     show K' _ _
     have k9 := below_then k7 j9
     have s9 := HSR.out _ k9
     refine hK'.out _ _ s9 (fun _ => ?_)
     clear hK' K'
     refine wpAnyH_ready (rs := [6]) (by kernel_rfl) (by simp) ?_
     refine AllReadyH.cons rfl (fun K' hK' => ?_) AllReadyH.nil
     go_simp
     have s10 := s9.alloc (.cells #[.slice ax ls.length cx] 24)
     have HCA10 := HCL.out _ (k9.alloc k9.size (.cells #[.slice ax ls.length cx] 24))
     refine hK'.out _ _ s10 (fun _ => ?_)
     clear hK' K'
     refine wpAnyH_ready (rs := [7]) (by kernel_rfl) (by simp) ?_
     refine AllReadyH.cons rfl (fun K' hK' => ?_) AllReadyH.nil
     refine step_app _ rfl (.tmp 16) (.tmp 21) 39 rfl w.heap.size 24 i0 (.slice none 0 0) 1 24 Tryz.underlying39 hi hz0 hz1 hz2 rfl (by decide) (.slice vsa K.length vsc) K.length (K.map (·.1)) (by simp [Act.eval]) ((HW.out _ k9).own.kr.alloc _) ⟨q9.heap.size, 0, none⟩ 1 1 [.slice ax ls.length cx] (by simp [Act.eval]) rfl ?c1x11 ?c2x11 ?c3x11 ?c4x11 ?c5x11 ?c6x11
     case c1x11 => exact lit_newS _ _ _
     case c2x11 => intro u hu; simp at hu; subst hu; rfl
     case c3x11 => exact n3.out
     case c4x11 => exact n4.out
     case c5x11 => exact HSZ.out _ _ k9
     case c6x11 =>
      intro v5 w5 hown5 hg5
      obtain ⟨a5, c5, hv5⟩ := owns_form hown5
      subst hv5
      obtain ⟨hS5, hcz, hfz, hS6, hF5⟩ := WI.add hp5 (HW.out _ k9) hox hown5 hg5
      show K' _ _
      refine hK'.out _ _ hS5 (fun _ => ?_)
      clear hK' K'
      refine tA (some 23) 8 rfl rfl hS5 ?_
      try simp only [Act.put, List.setIfInBounds_toArray]
      refine wpAnyH_ready (rs := [9]) (by kernel_rfl) (by simp) ?_
      refine AllReadyH.cons rfl (fun K' hK' => ?_) AllReadyH.nil
      go_simp
      refine hK'.out _ _ hS6 (fun _ => ?_)
      clear hK' K'
      refine wpAnyH_done (by kernel_rfl) ?_ _
      go_wp2_with fail
      go_roundw
      case rel => exact ⟨k + 1, _, _, by omega, by go_num, HNX.out _, hF5⟩
      case measure => simp [intOf]; omega
    ·
     go_simp
     refine (CL.out _ k7).mono ?_
     rintro e q13 ⟨vx, rfl, hox, j13⟩
     obtain ⟨ax, cx, hvx⟩ := owns_form hox
     subst hvx
     show K' _ _
     have k13 := below_then k7 j13
     have s13 := HSR.out _ k13
     refine hK'.out _ _ s13 (fun _ => ?_)
     clear hK' K'
     refine wpAnyH_ready (rs := [1, 6]) (by kernel_rfl) (by simp) ?_
     refine AllReadyH.cons rfl (fun K' hK' => ?_) (AllReadyH.cons rfl (fun K' hK' => ?_) AllReadyH.nil)
     ·
      have hc14 := HCL.out _ k13
      go_simp
      refine hK'.out _ _ s13 (fun _ => ?_)
      clear hK' K' hc14
      refine wpAnyH_ready (rs := [6]) (by kernel_rfl) (by simp) ?_
      refine AllReadyH.cons rfl (fun K' hK' => ?_) AllReadyH.nil
      go_simp
      have s15 := s13.alloc (.cells #[.slice ax ls.length cx] 24)
      have HCA15 := HCL.out _ (k13.alloc k13.size (.cells #[.slice ax ls.length cx] 24))
      refine hK'.out _ _ s15 (fun _ => ?_)
      clear hK' K'
      refine wpAnyH_ready (rs := [7]) (by kernel_rfl) (by simp) ?_
      refine AllReadyH.cons rfl (fun K' hK' => ?_) AllReadyH.nil
      refine step_app _ rfl (.tmp 16) (.tmp 21) 39 rfl w.heap.size 24 i0 (.slice none 0 0) 1 24 Tryz.underlying39 hi hz0 hz1 hz2 rfl (by decide) (.slice vsa K.length vsc) K.length (K.map (·.1)) (by simp [Act.eval]) ((HW.out _ k13).own.kr.alloc _) ⟨q13.heap.size, 0, none⟩ 1 1 [.slice ax ls.length cx] (by simp [Act.eval]) rfl ?c1x16 ?c2x16 ?c3x16 ?c4x16 ?c5x16 ?c6x16
      case c1x16 => exact lit_newS _ _ _
      case c2x16 => intro u hu; simp at hu; subst hu; rfl
      case c3x16 => exact n3.out
      case c4x16 => exact n4.out
      case c5x16 => exact HSZ.out _ _ k13
      case c6x16 =>
       intro v5 w5 hown5 hg5
       obtain ⟨a5, c5, hv5⟩ := owns_form hown5
       subst hv5
       obtain ⟨hS5, hcz, hfz, hS6, hF5⟩ := WI.add hp5 (HW.out _ k13) hox hown5 hg5
       show K' _ _
       refine hK'.out _ _ hS5 (fun _ => ?_)
       clear hK' K'
       refine tA (some 23) 8 rfl rfl hS5 ?_
       try simp only [Act.put, List.setIfInBounds_toArray]
       refine wpAnyH_ready (rs := [9]) (by kernel_rfl) (by simp) ?_
       refine AllReadyH.cons rfl (fun K' hK' => ?_) AllReadyH.nil
       go_simp
       refine hK'.out _ _ hS6 (fun _ => ?_)
       clear hK' K'
       refine wpAnyH_done (by kernel_rfl) ?_ _
       go_wp2_with fail
       go_roundw
       case rel => exact ⟨k + 1, _, _, by omega, by go_num, HNX.out _, hF5⟩
       case measure => simp [intOf]; omega
     ·
      go_simp
      have s18 := s13.alloc (.cells #[.slice ax ls.length cx] 24)
      have HCA18 := HCL.out _ (k13.alloc k13.size (.cells #[.slice ax ls.length cx] 24))
      refine hK'.out _ _ s18 (fun _ => ?_)
      clear hK' K'
      refine wpAnyH_ready (rs := [1]) (by kernel_rfl) (by simp) ?_
      refine AllReadyH.cons rfl (fun K' hK' => ?_) AllReadyH.nil
      have hc19 := HCA18
      go_simp
      refine hK'.out _ _ s18 (fun _ => ?_)
      clear hK' K' hc19
      refine wpAnyH_ready (rs := [7]) (by kernel_rfl) (by simp) ?_
      refine AllReadyH.cons rfl (fun K' hK' => ?_) AllReadyH.nil
      refine step_app _ rfl (.tmp 16) (.tmp 21) 39 rfl w.heap.size 24 i0 (.slice none 0 0) 1 24 Tryz.underlying39 hi hz0 hz1 hz2 rfl (by decide) (.slice vsa K.length vsc) K.length (K.map (·.1)) (by simp [Act.eval]) ((HW.out _ k13).own.kr.alloc _) ⟨q13.heap.size, 0, none⟩ 1 1 [.slice ax ls.length cx] (by simp [Act.eval]) rfl ?c1x20 ?c2x20 ?c3x20 ?c4x20 ?c5x20 ?c6x20
      case c1x20 => exact lit_newS _ _ _
      case c2x20 => intro u hu; simp at hu; subst hu; rfl
      case c3x20 => exact n3.out
      case c4x20 => exact n4.out
      case c5x20 => exact HSZ.out _ _ k13
      case c6x20 =>
       intro v5 w5 hown5 hg5
       obtain ⟨a5, c5, hv5⟩ := owns_form hown5
       subst hv5
       obtain ⟨hS5, hcz, hfz, hS6, hF5⟩ := WI.add hp5 (HW.out _ k13) hox hown5 hg5
       show K' _ _
       refine hK'.out _ _ hS5 (fun _ => ?_)
       clear hK' K'
       refine tA (some 23) 8 rfl rfl hS5 ?_
       try simp only [Act.put, List.setIfInBounds_toArray]
       refine wpAnyH_ready (rs := [9]) (by kernel_rfl) (by simp) ?_
       refine AllReadyH.cons rfl (fun K' hK' => ?_) AllReadyH.nil
       go_simp
       refine hK'.out _ _ hS6 (fun _ => ?_)
       clear hK' K'
       refine wpAnyH_done (by kernel_rfl) ?_ _
       go_wp2_with fail
       go_roundw
       case rel => exact ⟨k + 1, _, _, by omega, by go_num, HNX.out _, hF5⟩
       case measure => simp [intOf]; omega
  ·have hkn : k = l.length := by omega
   have hnk : ¬ (k : Int) < (l.length : Int) := by omega
   rw [hkn] at hK
   have HL := hid hK
   clear hK
   have b1 := hW.box
   have b2 := hW.res
   obtain ⟨vsa, vsc, rfl⟩ := owns_form hW.own.kr
   have c0 : wr.cell? ⟨p5, 0, none⟩ = some (.slice oo l.length oc) := by unfold At at b1; simp [World.cell?, b1]
   have c1 : wr.cell? ⟨p5, 1, none⟩ = some (.slice vsa K.length vsc) := by unfold At at b1; simp [World.cell?, b1]
   have c2 : wr.cell? ⟨w.heap.size + 1, 0, none⟩ = some (.slice none 0 0) := by unfold At at b2; simp [World.cell?, b2]
   have c3 : wr.cell? ⟨w.heap.size + 1, 1, none⟩ = some (.slice none 0 0) := by unfold At at b2; simp [World.cell?, b2]
   have f2 := frozen_of_row wr (w.heap.size + 1) 0 _ _ b2
   have f3 := frozen_of_row wr (w.heap.size + 1) 1 _ _ b2
   have HW := hid hW
   clear hW b1 b2
   go_wp2_with fail
   obtain ⟨e1, e2, e3, e4⟩ := WI.done HW.out
   generalize (wr.setCell ⟨w.heap.size + 1, 0, none⟩ (.slice oo l.length oc)).setCell ⟨w.heap.size + 1, 1, none⟩ (.slice vsa K.length vsc) = w7 at *
   have d0 : w7.cell? ⟨w.heap.size + 1, 0, none⟩ = some (.slice oo l.length oc) := by unfold At at e1; simp [World.cell?, e1]
   have d1 : w7.cell? ⟨w.heap.size + 1, 1, none⟩ = some (.slice vsa K.length vsc) := by unfold At at e1; simp [World.cell?, e1]
   clear c0 c1 c2 c3 f2 f3
   refine bodyPost_ret (v := .agg #[.slice oo l.length oc, .slice vsa K.length vsc]) ?_ rfl ⟨⟨_, _, rfl, e2, K, e3, HL.out⟩, e4⟩
   simp [results, Tryz.results178, go_sem, d0, d1]
end

section
open Go.RowKit
theorem roomy {F : Fence} (hd : F.depth = none) (k : Nat) : F.room k := fun d h => by rw [hd] at h; cases h
theorem round_depth {F : Fence} (hd : F.depth = none) {m m' : Nat} {P : Program} {l : Nat} {f : FuncId} {tmps : Array Value} {assign body : Code} {w : World} {R : Ending → World → Prop}
  (h : RoundIn F m P l f tmps assign body w R) : RoundIn F m' P l f tmps assign body w R := ⟨h.1, fun c cs _ => h.2 c cs (roomy hd _)⟩
theorem yield_depth {F : Fence} (hd : F.depth = none) {m : Nat} (m' : Nat) {P : Program} {l : Nat} {args : Array Value} {W : World} {R : Ending → World → Prop} (h : YieldAt F m P l args W R) : YieldAt F m' P l args W R := by
 obtain ⟨fn, tmps, assign, body, hy, hR⟩ := h
 exact ⟨fn, tmps, assign, body, hy, round_depth hd hR⟩
end

section
open Go.RowKit Go.Shelf
attribute [local go_sem] Oper.semAt_some
def keptL (h : List TxnV) (lv : Int) (row : List Nat) : Bool := isLv lv && (soundTo h h.length && allT h (clI ((askN lv : Nat) : Int)) [] row)
theorem kept_holds {h : List TxnV} (hc : checkI h = 0) (lv : Int) {row : List Nat} (hp : row.Perm (List.range h.length)) {R : Mat} (hR : LeastIs h (askN lv) (row.map Int.ofNat) R) : holdsB h lv (row.map Int.ofNat) R = keptL h lv row := by
 cases hlv : isLv lv with
 | false => unfold holdsB keptL; rw [hlv]; rfl
 | true =>
  have hC : clI ((askN lv : Nat) : Int) < 9223372036854775808 := by have := clI_lt ((askN lv : Nat) : Int); omega
  have hnd : row.Nodup := (List.Perm.nodup_iff hp).2 List.nodup_range
  have hlt : ∀ k ∈ row, k < h.length := fun k hk => List.mem_range.1 (hp.mem_iff.1 hk)
  have h1 := (good_holds hc hlv (r := row.reverse) (R := R) (by rw [List.reverse_reverse]; exact hp) (by rw [List.reverse_reverse]; exact hR)).1
  rw [List.reverse_reverse] at h1
  have h2 := allT_iff hc hC row [] (by rw [List.append_nil]; exact (List.reverse_perm row).nodup_iff.2 hnd) (fun a ha => hlt a (by simpa using ha)) (fun k hk => by cases hk)
  rw [List.append_nil] at h2
  unfold keptL
  rw [Bool.eq_iff_iff, h1, hlv, Bool.true_and, Bool.and_eq_true, h2]
theorem perm_range {n : Nat} {row : List Nat} (hnd : row.Nodup) (hlt : ∀ i ∈ row, i < n) (hl : row.length = n) : row.Perm (List.range n) := by
 have hmem : ∀ j, j < n → j ∈ row := fun j hj => by
  by_cases h : j ∈ row
  ·exact h
  ·have := nodup_len n (j :: row) (List.nodup_cons.2 ⟨h, hnd⟩) (fun k hk => by
    rcases List.mem_cons.1 hk with rfl | hk
    ·exact hj
    ·exact hlt k hk)
   simp at this; omega
 rw [List.perm_iff_count]
 intro j
 rw [hnd.count, List.nodup_range.count]
 simp only [List.mem_range]
 by_cases h : j < n
 ·rw [if_pos (hmem j h), if_pos h]
 ·rw [if_neg (fun q => h (hlt j q)), if_neg h]
theorem orders_perm {n : Nat} {row : List Nat} (h : row ∈ ordersN n) : row.Perm (List.range n) := by
 obtain ⟨a, b, c, _⟩ := mem_exts h
 exact perm_range (a List.nodup_nil) (b (fun i hi => by cases hi)) (by simpa using c)
end

section
open Go.RowKit
def seeW (h : List TxnV) (C : Nat) (r : List Nat) (j : Nat) : Mat := fun a b => decide (a < j) && (plSee h C r a).testBit b
theorem seeJ_step (h : List TxnV) (C : Nat) (r : List Nat) (j : Nat) : rowSet (seeW h C r j) j (fun b => (plSee h C r j).testBit b) = seeW h C r (j + 1) := by
 funext a b
 unfold rowSet seeW
 by_cases e : a = j
 ·subst e; simp
 ·simp only [e, if_false]
  congr 1
  rw [decide_eq_decide]; omega
theorem seesL_turn {h : List TxnV} {C : Nat} {r : List Nat} (h64 : h.length ≤ 64) : seesL (turnR (seeW h C r h.length)) h.length = seesL (seesR h C r) h.length := by
 unfold seesL
 refine List.map_congr_left fun i hi => ?_
 have hi := List.mem_range.1 hi
 congr 2
 apply Nat.eq_of_testBit_eq
 intro j
 rw [seeTo_bit _ _ _ 64 (Nat.le_refl _), seeTo_bit _ _ _ 64 (Nat.le_refl _)]
 by_cases hj : j < 64
 ·rw [hasR_nat _ j i hj (by omega), hasR_nat _ j i hj (by omega)]
  unfold turnR seeW seesR
  rw [decide_eq_true hi, Bool.true_and]
 ·rw [decide_eq_false hj]; rfl
theorem OwnK.far {b : Nat} {w : World} {v : Value} {K : List KRow} (h : OwnK b w v K) {p : Addr} (hp : p.block < b) (u : Value) : OwnK b (w.setCell p u) v K := ⟨pl_far h.kr hp u, fun q hq => pl_far (h.ke q hq) hp u⟩
theorem OwnK.base {b b' : Nat} {w : World} {v : Value} {K : List KRow} (h : OwnK b w v K) (hb : b' ≤ b) : OwnK b' w v K := ⟨own_base' h.kr hb, fun q hq => own_base' (h.ke q hq) hb⟩
structure WkAt (w : World) (g : Nat) (vo vs : Value) : Prop where
 c0 : w.cell? ⟨g, 0, none⟩ = some vo
 c1 : w.cell? ⟨g, 1, none⟩ = some vs
 f0 : w.frozen? ⟨g, 0, none⟩ = false
 f1 : w.frozen? ⟨g, 1, none⟩ = false
section
variable {w w' : World} {g : Nat} {vo vs : Value}
theorem WkAt.lt (h : WkAt w g vo vs) : g < w.heap.size := block_lt h.c0
theorem WkAt.block (h : WkAt w g vo vs) (hb : w'.heap[g]? = w.heap[g]?) : WkAt w' g vo vs :=
 ⟨(World.cell?_of_block (a := ⟨g, 0, none⟩) hb).trans h.c0, (World.cell?_of_block (a := ⟨g, 1, none⟩) hb).trans h.c1, (World.frozen?_of_block (a := ⟨g, 0, none⟩) hb).trans h.f0, (World.frozen?_of_block (a := ⟨g, 1, none⟩) hb).trans h.f1⟩
theorem WkAt.below {B : Nat} (h : WkAt w g vo vs) (hb : Below B w w') (hB : g < B) : WkAt w' g vo vs := h.block (hb.block g hB)
theorem WkAt.made (w : World) : WkAt (w.alloc (.cells #[.slice none 0 0, .slice none 0 0] 41)) w.heap.size (.slice none 0 0) (.slice none 0 0) := by
 have hn := heap_alloc_new w (.cells #[.slice none 0 0, .slice none 0 0] 41)
 refine ⟨?_, ?_, frozen_of_row _ _ _ _ _ hn, frozen_of_row _ _ _ _ _ hn⟩ <;> (rw [cell_of_row _ _ _ _ _ _ hn]; rfl)
theorem WkAt.set (h : WkAt w g vo vs) (uo us : Value) : WkAt ((w.setCell ⟨g, 0, none⟩ uo).setCell ⟨g, 1, none⟩ us) g uo us := by
 refine ⟨?_, ?_, ?_, ?_⟩
 ·rw [World.cell?_setCell_other _ _ _ _ (by simp)]
  exact World.cell?_setCell_same _ _ _ h.c0
 ·exact World.cell?_setCell_same _ _ _ (by rw [World.cell?_setCell_other _ _ _ _ (by simp)]; exact h.c1)
 ·simp only [World.frozen?_setCell]; exact h.f0
 ·simp only [World.frozen?_setCell]; exact h.f1
end
section
variable {w0 w : World} {N S B b : Nat} {h : List TxnV} {C X Mb T F : Nat} {vb : Value} {r : List Nat} {vr : Value} {aF sF : Nat → Nat} {M : List (Nat × ByteArray)} {U : Nat}
theorem switness_any (q : Sea w0 N S B b h C X Mb T F vb r vr aF sF M U w) (hc : checkI h = 0) (hr : r.length = h.length) :
  Calls Tryz.prog 140 #[.pointer (some ⟨X, 0, none⟩)] w fun e w' => (∃ vo vs KL, e = .returned (.agg #[vo, vs]) ∧ w'.ownsRow (w.heap.size + 1) 3 1 vo (r.reverse.map Int.ofNat).length ((r.reverse.map Int.ofNat).map (Value.int .i64)) ∧ OwnK (w.heap.size + 1) w' vs KL ∧ KL.map (fun p : KRow => p.2) = seesL (seesR h C r) h.length) ∧ Below w.heap.size w w' := by
 have h64 := (check_zero hc).1
 have HX : Hid (∀ wx, Below w.heap.size w wx → SrAt wx X S B Mb T) := hid (fun wx hx => (q.below hx).x)
 have CS := hid (fun wx (hx : Below w.heap.size w wx) (i : Int) => xsees_any i (q.p.below hx) h64)
 have CR := hid (fun wx (hx : Below w.heap.size w wx) => xrow_any (q.p.below hx) h64)
 have HT : Hid (∀ wx, Below w.heap.size w wx → Tab wx) := hid (fun wx hx => (q.p.below hx).tab)
 have HN : Hid (∀ wx, Below w.heap.size w wx → wx.cell? ⟨B, 0, none⟩ = some (.int .i64 (h.length : Int))) := hid (fun wx hx => ((q.p.below hx).ord).blk.cN)
 have HPL : Hid (∀ j, j < h.length → plSeeI h C r (j : Int) = plSee h C r j ∧ plSee h C r j = mkS (fun b => (plSee h C r j).testBit b)) := hid (fun j hj => by
  have hlt : ∀ a ∈ r, a < 64 := fun a ha => by have := q.p.lt.1 a ha; omega
  have hin : j ∈ r := by
   have hp : r.Perm (List.range h.length) := perm_range q.p.lt.2 q.p.lt.1 hr
   exact hp.mem_iff.2 (List.mem_range.2 hj)
  refine ⟨?_, (mkS_bits (plSee_set h C r j)).symm⟩
  unfold plSeeI
  rw [has_pl hlt (by omega), decide_eq_true hin, if_pos rfl, Int.toNat_natCast])
 have HSL := hid (seesL_turn (C := C) (r := r) h64)
 have n0 := q.x.c0
 have hXw := q.x.lt
 have hw0 := WkAt.made w
 have hb0 := box_below w (.cells #[.slice none 0 0, .slice none 0 0] 41)
 clear q
 go_enter Tryz.func140, Tryz.ntmps140
 go_upto_region 1 with fail
 have hs0 : (w.alloc (.cells #[.slice none 0 0, .slice none 0 0] 41)).heap.size = w.heap.size + 1 := by simp
 generalize w.alloc (.cells #[.slice none 0 0, .slice none 0 0] 41) = w1 at *
 go_upto_region 2 with fail
 have z2 := zero_block w1
 have hb1 := hb0.alloc hb0.size (.cells #[.int .u64 0, .int .u64 0, .int .u64 0, .int .u64 0, .int .u64 0, .int .u64 0, .int .u64 0, .int .u64 0, .int .u64 0, .int .u64 0, .int .u64 0, .int .u64 0, .int .u64 0, .int .u64 0, .int .u64 0, .int .u64 0, .int .u64 0, .int .u64 0, .int .u64 0, .int .u64 0, .int .u64 0, .int .u64 0, .int .u64 0, .int .u64 0, .int .u64 0, .int .u64 0, .int .u64 0, .int .u64 0, .int .u64 0, .int .u64 0, .int .u64 0, .int .u64 0, .int .u64 0, .int .u64 0, .int .u64 0, .int .u64 0, .int .u64 0, .int .u64 0, .int .u64 0, .int .u64 0, .int .u64 0, .int .u64 0, .int .u64 0, .int .u64 0, .int .u64 0, .int .u64 0, .int .u64 0, .int .u64 0, .int .u64 0, .int .u64 0, .int .u64 0, .int .u64 0, .int .u64 0, .int .u64 0, .int .u64 0, .int .u64 0, .int .u64 0, .int .u64 0, .int .u64 0, .int .u64 0, .int .u64 0, .int .u64 0, .int .u64 0, .int .u64 0] 108)
 have hw1 := hw0.below ((Below.refl w1.heap.size w1).alloc (Nat.le_refl _) (.cells #[.int .u64 0, .int .u64 0, .int .u64 0, .int .u64 0, .int .u64 0, .int .u64 0, .int .u64 0, .int .u64 0, .int .u64 0, .int .u64 0, .int .u64 0, .int .u64 0, .int .u64 0, .int .u64 0, .int .u64 0, .int .u64 0, .int .u64 0, .int .u64 0, .int .u64 0, .int .u64 0, .int .u64 0, .int .u64 0, .int .u64 0, .int .u64 0, .int .u64 0, .int .u64 0, .int .u64 0, .int .u64 0, .int .u64 0, .int .u64 0, .int .u64 0, .int .u64 0, .int .u64 0, .int .u64 0, .int .u64 0, .int .u64 0, .int .u64 0, .int .u64 0, .int .u64 0, .int .u64 0, .int .u64 0, .int .u64 0, .int .u64 0, .int .u64 0, .int .u64 0, .int .u64 0, .int .u64 0, .int .u64 0, .int .u64 0, .int .u64 0, .int .u64 0, .int .u64 0, .int .u64 0, .int .u64 0, .int .u64 0, .int .u64 0, .int .u64 0, .int .u64 0, .int .u64 0, .int .u64 0, .int .u64 0, .int .u64 0, .int .u64 0, .int .u64 0] 108)) hw0.lt
 rw [hs0] at z2
 have hle : w.heap.size ≤ w.heap.size + 1 := by omega
 clear n0 hw0 hs0 hb0
 generalize w1.alloc (.cells #[.int .u64 0, .int .u64 0, .int .u64 0, .int .u64 0, .int .u64 0, .int .u64 0, .int .u64 0, .int .u64 0, .int .u64 0, .int .u64 0, .int .u64 0, .int .u64 0, .int .u64 0, .int .u64 0, .int .u64 0, .int .u64 0, .int .u64 0, .int .u64 0, .int .u64 0, .int .u64 0, .int .u64 0, .int .u64 0, .int .u64 0, .int .u64 0, .int .u64 0, .int .u64 0, .int .u64 0, .int .u64 0, .int .u64 0, .int .u64 0, .int .u64 0, .int .u64 0, .int .u64 0, .int .u64 0, .int .u64 0, .int .u64 0, .int .u64 0, .int .u64 0, .int .u64 0, .int .u64 0, .int .u64 0, .int .u64 0, .int .u64 0, .int .u64 0, .int .u64 0, .int .u64 0, .int .u64 0, .int .u64 0, .int .u64 0, .int .u64 0, .int .u64 0, .int .u64 0, .int .u64 0, .int .u64 0, .int .u64 0, .int .u64 0, .int .u64 0, .int .u64 0, .int .u64 0, .int .u64 0, .int .u64 0, .int .u64 0, .int .u64 0, .int .u64 0] 108) = w2 at *
 have n1 := (HX.out _ hb1).c1
 have n2 := HN.out _ hb1
 have z2 : RelAt w2 (w.heap.size + 1) 108 (seeW h C r 0) := by
  have e : seeW h C r 0 = noR := by funext a b; unfold seeW noR; simp
  rw [e]; exact z2
 go_wp2_with fail
 go_loopw [12] (fun iv wr => ∃ j : Nat, j ≤ h.length ∧ iv = .int .i64 j ∧ RelAt wr (w.heap.size + 1) 108 (seeW h C r j) ∧ WkAt wr w.heap.size (.slice none 0 0) (.slice none 0 0) ∧ Below w.heap.size w wr) (fun iv _ => h.length - (intOf iv).toNat)
 case atStart => exact ⟨0, Nat.zero_le _, rfl, z2, hw1, hb1⟩
 case round =>
  clear z2 hw1 hb1 n1 n2
  obtain ⟨j, hj, rfl, hz, hwk, hb⟩ := hrel
  by_cases hjl : j < h.length
  ·have hji : (j : Int) < (h.length : Int) := by omega
   have hj64 : (j : Int) < 64 := by omega
   have CJ := hid (CS.out _ hb (j : Int))
   rw [(HPL.out j hjl).1] at CJ
   have c0 := (HX.out _ hb).c0
   have hzc := hz.cell (i := j) (by omega)
   have hzf := hz.free j
   have HZ := hid (hz.store j (plSee h C r j) (fun b => (plSee h C r j).testBit b) (HPL.out j hjl).2)
   rw [seeJ_step] at HZ
   have HB := hid (hb.setCell (p := ⟨w.heap.size + 1, j, none⟩) hle (.int .u64 ((plSee h C r j : Nat) : Int)))
   have HWK := hid (hwk.block (w' := wr.setCell ⟨w.heap.size + 1, j, none⟩ (.int .u64 ((plSee h C r j : Nat) : Int))) (Below.heap_setCell _ _ _ _ (by show w.heap.size ≠ w.heap.size + 1; omega)))
   clear hz hb hwk
   generalize plSee h C r j = s at *
   go_wp2_with fail
   refine CJ.out.mono ?_
   rintro e wq ⟨rfl, rfl⟩
   go_wp2_with fail
   go_roundw
   case rel => exact ⟨j + 1, by omega, by go_num, HZ.out, HWK.out, HB.out⟩
   case measure => simp [intOf]; omega
  ·have hjn : j = h.length := by omega
   subst hjn
   have HWR := hid hb
   have HZR : Hid (∀ wx, Below wr.heap.size wr wx → RelAt wx (w.heap.size + 1) 108 (seeW h C r h.length)) := hid (fun wx hx => hz.below hx hz.lt)
   have HX9 := hid (fun wx (hx : Below wr.heap.size wr wx) => HX.out wx (below_then hb hx))
   have CR9 := hid (fun wx (hx : Below wr.heap.size wr wx) => CR.out wx (below_then hb hx))
   have CT9 := hid (fun wx (hx : Below wr.heap.size wr wx) => turned_any (seeW h C r h.length) wx (HT.out wx (below_then hb hx)))
   have CW9 := hid (fun va wx (hx : Below wr.heap.size wr wx) (hI : Ints wx va (r.reverse.map Int.ofNat)) => awitness_own va _ (turnR (seeW h C r h.length)) wx (HT.out wx (below_then hb hx)) hI (by simp; omega))
   rw [show (r.reverse.map Int.ofNat).length = h.length by simp [hr], HSL.out] at CW9
   have kd := (Below.refl wr.heap.size wr).drew
   have HK9 : Hid (∀ wx, Below wr.heap.size wr wx → WkAt wx w.heap.size (.slice none 0 0) (.slice none 0 0) ∧ Below w.heap.size w wx) := hid (fun wx hx => ⟨hwk.below hx hwk.lt, below_then hb hx⟩)
   have HS9 := hid (fun wx (hx : Below wr.heap.size wr wx) => And.intro (HX9.out wx hx) (HZR.out wx hx))
   have HLO := hid hwk.lt
   clear hz hwk hb hjl CS CR HT HPL HN HX
   go_upto_region 7 with fail
   refine wp_region_held_drew (S := (fun wx => SrAt wx X S B Mb T ∧ RelAt wx (w.heap.size + 1) 108 (seeW h C r h.length))) (by kernel_rfl) (HS9.out _ kd) (fun hS0 => ?_)
   refine tA (some 24) 0 rfl rfl hS0 ?_
   try simp only [Act.put, zA, zB, zC]
   refine tA (some 25) 1 rfl rfl hS0 ?_
   try simp only [Act.put, zA, zB, zC]
   refine tA (some 26) 2 rfl rfl hS0 ?_
   try simp only [Act.put, zA, zB, zC]
   refine tG (some 27) 3 ?vwa3x4 rfl rfl (Or.inl ⟨by rfl, ?hwa3x4⟩) hS0 ?rwa3x4
   case hwa3x4 => (intro w hz; obtain ⟨⟨z0, z1, z2, z3⟩, _⟩ := hz; go_simp; try (with_reducible rfl))
   try simp only [Act.put, zA, zB, zC]
   refine tG (some 29) 5 _ rfl rfl (yields_rel (by rfl) _ rfl rfl (fun wx hx => hx.2)) hS0 ?_
   try simp only [Act.put, zA, zB, zC]
   refine rD 4 rfl (fun K hK => ?_)
   go_simp
   refine (CR9.out _ kd).mono ?_
   rintro e y4 ⟨va, rfl, hI4, hy4⟩
   show K _ _
   have b4 := below_then kd hy4
   have s4 := HS9.out _ b4
   refine hK.out _ _ s4 (fun _ => ?_)
   clear hK K
   refine rD 6 rfl (fun K hK => ?_)
   go_simp
   refine (CT9.out _ b4).mono ?_
   rintro e y6 ⟨rfl, hy6⟩
   show K _ _
   have b6 := below_then b4 hy6
   have s6 := HS9.out _ b6
   have hI6 := hI4.below hy6
   refine hK.out _ _ s6 (fun _ => ?_)
   clear hK K
   refine rD 7 rfl (fun K hK => ?_)
   go_simp
   refine (CW9.out _ _ b6 hI6).mono ?_
   rintro e y7 ⟨⟨vo, vs, KL, rfl, hI7, hL7, hK7⟩, hy7⟩
   show K _ _
   obtain ⟨oa, oc, rfl⟩ := own_form hI7
   obtain ⟨sa, sc, rfl⟩ := own_form hL7.kr
   have b7 := below_then b6 hy7
   have s7 := HS9.out _ b7
   refine hK.out _ _ s7 (fun _ => ?_)
   clear hK K
   refine rD 8 rfl (fun K hK => ?_)
   obtain ⟨hk8, hb8⟩ := HK9.out _ b7
   have HW8 := hid (hk8.set (.slice oa (r.reverse.map Int.ofNat).length oc) (.slice sa KL.length sc))
   have HB8 := hid ((hb8.setCell (p := ⟨w.heap.size, 0, none⟩) (Nat.le_refl _) (.slice oa (r.reverse.map Int.ofNat).length oc)).setCell (p := ⟨w.heap.size, 1, none⟩) (Nat.le_refl _) (.slice sa KL.length sc))
   have hlo : w.heap.size < y6.heap.size := by have h2 := b6.size; have h3 := HLO.out; omega
   have s8 : SrAt ((y7.setCell ⟨w.heap.size, 0, none⟩ (.slice oa (r.reverse.map Int.ofNat).length oc)).setCell ⟨w.heap.size, 1, none⟩ (.slice sa KL.length sc)) X S B Mb T ∧ RelAt ((y7.setCell ⟨w.heap.size, 0, none⟩ (.slice oa (r.reverse.map Int.ofNat).length oc)).setCell ⟨w.heap.size, 1, none⟩ (.slice sa KL.length sc)) (w.heap.size + 1) 108 (seeW h C r h.length) := ⟨s7.1.block ((Below.heap_setCell _ _ _ _ (by show X ≠ w.heap.size; omega)).trans (Below.heap_setCell _ _ _ _ (by show X ≠ w.heap.size; omega))), (s7.2.other (k := ⟨w.heap.size, 0, none⟩) (by show w.heap.size + 1 ≠ w.heap.size; omega) _).other (k := ⟨w.heap.size, 1, none⟩) (by show w.heap.size + 1 ≠ w.heap.size; omega) _⟩
   have HI8 := hid (own_base' (base' := w.heap.size + 1) (pl_far (pl_far hI7 (p := ⟨w.heap.size, 0, none⟩) hlo (.slice oa (r.reverse.map Int.ofNat).length oc)) (p := ⟨w.heap.size, 1, none⟩) hlo (.slice sa KL.length sc)) hlo)
   have HL8 := hid (OwnK.base (b' := w.heap.size + 1) ((hL7.far (p := ⟨w.heap.size, 0, none⟩) hlo (.slice oa (r.reverse.map Int.ofNat).length oc)).far (p := ⟨w.heap.size, 1, none⟩) hlo (.slice sa KL.length sc)) hlo)
   have HK8 := hid hK7
   obtain ⟨k0, k1, k2, k3⟩ := hk8
   simp only [List.length_map, List.length_reverse, hr] at HW8 HB8 s8 HI8 HL8 ⊢
   go_simp
   refine hK.out _ _ s8 (fun _ => ?_)
   clear hK K
   refine wpAnyH_done (by kernel_rfl) ?_ _
   go_wp2_with fail
   obtain ⟨d0, d1, _, _⟩ := HW8.out
   refine bodyPost_ret (v := .agg #[.slice oa h.length oc, .slice sa KL.length sc]) ?_ rfl ⟨⟨_, _, KL, rfl, (by rw [List.length_map, List.length_reverse, hr]; exact HI8.out), HL8.out, HK8.out⟩, HB8.out⟩
   simp [results, Tryz.results140, go_sem, d0, d1]
end
end

section
open Go.RowKit
section
variable {h : List TxnV} {C n : Nat}
theorem allT_cat (h : List TxnV) (C : Nat) : ∀ (m m' r : List Nat), allT h C r (m ++ m') = (allT h C r m && allT h C (m.reverse ++ r) m')
 | [], m', r => by simp [allT]
 | i :: m, m', r => by
  rw [List.cons_append, allT, allT, allT_cat h C m m' (i :: r), Bool.and_assoc, List.reverse_cons, List.append_assoc]; rfl
theorem exts_first : ∀ (k : Nat) (q : List Nat), (exts n k q).find? (allT h C []) = if allT h C [] q = true then (firstE h C n k q.reverse).map List.reverse else none
 | 0, q => by
  unfold exts firstE
  rw [List.find?_singleton, Option.map_some, List.reverse_reverse]
 | k + 1, q => by
  have key : ∀ j, (extsTo n k q j).find? (allT h C []) = if allT h C [] q = true then ((List.range j).findSome? fun i => if tryP h C q.reverse i = true then firstE h C n k (i :: q.reverse) else none).map List.reverse else none := by
   intro j
   induction j with
   | zero => rw [extsTo_zero]; simp
   | succ j ih =>
    rw [extsTo_succ, List.find?_append, ih, List.range_succ, List.findSome?_append, List.findSome?_singleton]
    by_cases hj : j ∈ q
    ·have ht : tryP h C q.reverse j = false := by
      unfold tryP; rw [decide_eq_true (List.mem_reverse.2 hj)]; simp
     rw [if_pos hj, ht]; simp
    ·rw [if_neg hj, exts_first k (q ++ [j]), allT_cat h C q [j] [], List.append_nil, List.reverse_append]
     have e : allT h C q.reverse [j] = tryP h C q.reverse j := by unfold allT; simp [allT]
     rw [e]
     cases hq : allT h C [] q <;> cases ht : tryP h C q.reverse j <;> simp [Option.map_or]
  rw [exts_all]; exact key n
theorem first_kept (h : List TxnV) (lv : Int) : (ordersN h.length).find? (keptL h lv) = if isLv lv = true ∧ soundTo h h.length = true then (firstE h (clI ((askN lv : Nat) : Int)) h.length h.length []).map List.reverse else none := by
 by_cases hs : isLv lv = true ∧ soundTo h h.length = true
 ·rw [if_pos hs]
  have e2 : keptL h lv = allT h (clI ((askN lv : Nat) : Int)) [] := by funext r; unfold keptL; rw [hs.1, hs.2, Bool.true_and, Bool.true_and]
  rw [e2]
  show (exts h.length h.length []).find? _ = _
  rw [exts_first]; simp [allT]
 ·rw [if_neg hs, List.find?_eq_none]
  intro r _
  unfold keptL
  cases h1 : isLv lv <;> cases h2 : soundTo h h.length <;> simp
  exact (hs ⟨h1, h2⟩).elim
end
end

section
open Go.RowKit
def decN (h : List TxnV) (lv : Int) : Srch := if isLv lv = true ∧ soundTo h h.length = true then srch h (clI ((askN lv : Nat) : Int)) h.length h.length [] [] else (none, [], 0)
theorem dec_first {h : List TxnV} (hc : checkI h = 0) (lv : Int) : (decN h lv).1.map List.reverse = (ordersN h.length).find? (keptL h lv) := by
 rw [first_kept]
 unfold decN
 split
 ·rw [(srch_right hc rfl h.length [] [] RowG.nil (by simp) Bad.nil).1]
 ·rfl
theorem dec_tries (h : List TxnV) (lv : Int) : (decN h lv).2.2 ≤ trN h.length := by
 unfold decN
 split
 ·exact srch_tries h.length [] [] List.nodup_nil (fun _ hi => (by cases hi)) (by simp) rfl
 ·exact Nat.zero_le _
def OwnW (w : World) (b0 : Nat) (vo vs : Value) (l : List Int) (LL : List (List Int)) : Prop := w.ownsRow b0 3 1 vo l.length (l.map (Value.int .i64)) ∧ ∃ KL, OwnK b0 w vs KL ∧ KL.map (fun p : KRow => p.2) = LL
def SdRes (h : List TxnV) (lv : Int) (T F U : Nat) (w : World) (e : Ending) (w' : World) : Prop :=
 w.grownBy w' (some T) ∧
  ((Lasts F U (decN h lv).2.2 ∧ MtAt w' T F (U + (decN h lv).2.2) ∧
    (((decN h lv).1 = none ∧ e = .returned (.tuple #[.agg #[.slice none 0 0, .slice none 0 0], .bool false, .int .i64 0])) ∨
     ∃ r vo vs, (decN h lv).1 = some r ∧ RowG h (clI ((askN lv : Nat) : Int)) r ∧ r.length = h.length ∧ e = .returned (.tuple #[.agg #[vo, vs], .bool true, .int .i64 0]) ∧ Ints w' vo (r.reverse.map Int.ofNat) ∧ Lists w' vs (seesL (seesR h (clI ((askN lv : Nat) : Int)) r) h.length) ∧ OwnW w' w.heap.size vo vs (r.reverse.map Int.ofNat) (seesL (seesR h (clI ((askN lv : Nat) : Int)) r) h.length))) ∨
   (¬ Lasts F U (decN h lv).2.2 ∧ MtAt w' T F F ∧ e = .returned (.tuple #[.agg #[.slice none 0 0, .slice none 0 0], .bool false, .int .i64 4])))
theorem run_iface (x : Option Addr) (w : World) : (Instr.makeInterface 152 (.pointer x)).run Tryz.prog w = .ok (.iface 152 (.pointer x)) w := by kernel_rfl
theorem SrAt.made (w : World) (S B Mb T : Nat) : SrAt (w.alloc (.cells #[.pointer (some ⟨S, 0, none⟩), .pointer (some ⟨B, 0, none⟩), .map (some Mb), .iface 152 (.pointer (some ⟨T, 0, none⟩))] 209)) w.heap.size S B Mb T := by
 have hn := heap_alloc_new w (.cells #[.pointer (some ⟨S, 0, none⟩), .pointer (some ⟨B, 0, none⟩), .map (some Mb), .iface 152 (.pointer (some ⟨T, 0, none⟩))] 209)
 refine ⟨?_, ?_, ?_, ?_⟩ <;> (rw [cell_of_row _ _ _ _ _ _ hn]; rfl)
theorem Sea.made {w0 w1 : World} {S B b : Nat} {h : List TxnV} {C T F U N : Nat} {vb : Value} {aF sF : Nat → Nat} (p : PlX w0 N S B b h C [] vb (.slice none 0 0) aF sF w1) (hN : T < N) (hT : w0.heap.size ≤ T) (hm : MtAt w1 T F U) :
  Sea w0 N S B b h C (w1.heap.size + 1) w1.heap.size T F vb [] (.slice none 0 0) aF sF [] U ((w1.alloc (.map #[] 0)).alloc (.cells #[.pointer (some ⟨S, 0, none⟩), .pointer (some ⟨B, 0, none⟩), .map (some w1.heap.size), .iface 152 (.pointer (some ⟨T, 0, none⟩))] 209)) := by
 have b1 := box_below w1 (.map #[] 0)
 have hs1 : (w1.alloc (.map #[] 0)).heap.size = w1.heap.size + 1 := by simp
 have b2 := box_below (w1.alloc (.map #[] 0)) (.cells #[.pointer (some ⟨S, 0, none⟩), .pointer (some ⟨B, 0, none⟩), .map (some w1.heap.size), .iface 152 (.pointer (some ⟨T, 0, none⟩))] 209)
 have hb := below_then b1 b2
 have hl := p.lowS
 have hx := SrAt.made (w1.alloc (.map #[] 0)) S B w1.heap.size T
 rw [hs1] at hx
 have hmm := (MemM.made w1).below b2 (by rw [hs1]; omega)
 refine ⟨p.below hb, hx, ?_, hm.below hb hm.lt, fun g hg => ?_, ?_, ?_⟩
 ·rw [memF_nil]; exact hmm
 ·have h1 := p.of hg
  rcases hg with e | e | e
  ·omega
  ·have := (p.own.1 g e).1; omega
  ·cases e
 ·have := hm.lt; omega
 ·have := hm.lt; omega
theorem grown_setc {w wx : World} {row : Option Nat} (hg : w.grownBy wx row) {p : Addr} (hp : w.heap.size ≤ p.block) (u : Value) : w.grownBy (wx.setCell p u) row := by
 have hs : Below 0 wx (wx.setCell p u) := (Below.refl 0 wx).setCell (Nat.zero_le _) u
 exact ⟨hs.os.trans hg.os, hs.tape.trans hg.tape, hs.output.trans hg.output, Nat.le_trans hg.size hs.size, fun k hk hne => (Below.heap_setCell wx p u k (by omega)).trans (hg.block k hk hne)⟩
theorem grown_below {w wx wy : World} {row : Option Nat} (hg : w.grownBy wx row) (hb : Below wx.heap.size wx wy) : w.grownBy wy row :=
 ⟨hb.os.trans hg.os, hb.tape.trans hg.tape, hb.output.trans hg.output, Nat.le_trans hg.size hb.size, fun k hk hne => (hb.block k (Nat.lt_of_lt_of_le hk hg.size)).trans (hg.block k hk hne)⟩
theorem grown_sea {w wx wy : World} {S Mb T : Nat} {vr' : Value} (hg : w.grownBy wx (some T)) (k : SeaStep S Mb T (.slice none 0 0) vr' wx wy) (hS : w.heap.size ≤ S) (hM : w.heap.size ≤ Mb) : w.grownBy wy (some T) :=
 ⟨k.os.trans hg.os, k.tape.trans hg.tape, k.output.trans hg.output, Nat.le_trans hg.size k.size, fun j hj hne => (k.block j (Nat.lt_of_lt_of_le hj hg.size) (by omega) (by omega) (fun e => hne (by rw [e])) (by simp [Value.ownBlock])).trans (hg.block j hj hne)⟩
theorem sdecide_any {w0 w : World} {B b : Nat} {h : List TxnV} (lv : Int) (T F U : Nat) (hO : OrdIs w0 B b h) (ht : Tab w0) (hK : Kinds w0) (hc : checkI h = 0) (hb : Below w0.heap.size w0 w) (hT : w0.heap.size ≤ T) (hm : MtAt w T F U)
  (hM : (decN h lv).2.2 + 2 ≤ 1099511627776) (hU : F = 4611686018427387904 → U + (decN h lv).2.2 ≤ 4611686018427387904) :
  Calls Tryz.prog 96 #[.pointer (some ⟨B, 0, none⟩), .int .i64 lv, .pointer (some ⟨T, 0, none⟩)] w fun e w' => SdRes h lv T F U w e w' := by
 have h64 := (check_zero hc).1
 have hTw := hm.lt
 have hbx := box_below w (.cells #[.slice none 0 0, .slice none 0 0] 41)
 have hsx : (w.alloc (.cells #[.slice none 0 0, .slice none 0 0] 41)).heap.size = w.heap.size + 1 := by simp
 have hwk := WkAt.made w
 have hm1 := hm.below hbx hm.lt
 have hb1 : Below w0.heap.size w0 (w.alloc (.cells #[.slice none 0 0, .slice none 0 0] 41)) := hb.trans (hbx.mono hb.size)
 have n0 := (hO.below hb1).blk.cS
 have hg1 : w.grownBy (w.alloc (.cells #[.slice none 0 0, .slice none 0 0] 41)) (some T) := World.grownBy_alloc _ _ _
 have CI := hid (fun wx => lis_any lv wx)
 have CA := hid (fun wx (hx : Below w0.heap.size w0 wx) => lasks_any lv wx (hK.below hx))
 have HB1 := hid hb1
 have HMT := hid hm1
 have HGW := hid hg1
 have HWK := hid hwk
 go_enter Tryz.func96, Tryz.ntmps96
 go_upto_region 1 with fail
 clear hb1 hm1 hg1 hwk hbx
 generalize w.alloc (.cells #[.slice none 0 0, .slice none 0 0] 41) = w1 at *
 have hrun := run_iface (some ⟨T, 0, none⟩)
 have hmk := @run_makeMap Tryz.prog
 cases hs : soundTo h h.length with
 | false =>
  have hd : decN h lv = (none, [], 0) := by unfold decN; rw [if_neg (by rw [hs]; simp)]
  have HF : Hid (∀ wx, w.grownBy wx (some T) → MtAt wx T F U → SdRes h lv T F U w (.returned (.tuple #[.agg #[.slice none 0 0, .slice none 0 0], .bool false, .int .i64 0])) wx) := hid (fun wx hg hm => by
   unfold SdRes
   rw [hd]
   refine ⟨hg, .inl ⟨?_, hm, .inl ⟨rfl, rfl⟩⟩⟩
   by_cases e : F = 4611686018427387904
   ·exact .inl e
   ·exact .inr (hm.ue e))
  rw [hs] at n0
  clear hs hd hM hU hm
  have HW9 := hid (HWK.out.set (.slice none 0 0) (.slice none 0 0))
  have HG9 := hid (grown_setc (grown_setc HGW.out (p := ⟨w.heap.size, 0, none⟩) (Nat.le_refl _) (.slice none 0 0)) (p := ⟨w.heap.size, 1, none⟩) (Nat.le_refl _) (.slice none 0 0))
  have HM9 := hid (fun u (hm : MtAt w1 T F u) => (hm.block (Below.heap_setCell w1 ⟨w.heap.size, 0, none⟩ (.slice none 0 0) T (by show T ≠ w.heap.size; omega))).block (Below.heap_setCell _ ⟨w.heap.size, 1, none⟩ (.slice none 0 0) T (by show T ≠ w.heap.size; omega)))
  obtain ⟨k0, k1, k2, k3⟩ := HWK.out
  go_wp2_with fail
  obtain ⟨d0, d1, _, _⟩ := HW9.out
  refine bodyPost_ret (v := .tuple #[.agg #[.slice none 0 0, .slice none 0 0], .bool false, .int .i64 0]) ?_ rfl (HF.out _ HG9.out (HM9.out _ HMT.out))
  simp [results, Tryz.results96, go_sem, d0, d1]
 | true =>
  rw [hs] at n0
  cases hlv : isLv lv with
  | false =>
   have hd : decN h lv = (none, [], 0) := by unfold decN; rw [if_neg (by rw [hlv]; simp)]
   have HF : Hid (∀ wx, w.grownBy wx (some T) → MtAt wx T F U → SdRes h lv T F U w (.returned (.tuple #[.agg #[.slice none 0 0, .slice none 0 0], .bool false, .int .i64 0])) wx) := hid (fun wx hg hm => by
    unfold SdRes
    rw [hd]
    refine ⟨hg, .inl ⟨?_, hm, .inl ⟨rfl, rfl⟩⟩⟩
    by_cases e : F = 4611686018427387904
    ·exact .inl e
    ·exact .inr (hm.ue e))
   rw [hlv] at CI
   clear hs hlv hd hM hU hm
   go_wp2_with fail
   refine (CI.out _).mono ?_
   rintro e wq ⟨rfl, rfl⟩
   have HW9 := hid (HWK.out.set (.slice none 0 0) (.slice none 0 0))
   have HG9 := hid (grown_setc (grown_setc HGW.out (p := ⟨w.heap.size, 0, none⟩) (Nat.le_refl _) (.slice none 0 0)) (p := ⟨w.heap.size, 1, none⟩) (Nat.le_refl _) (.slice none 0 0))
   have HM9 := hid (fun u (hm : MtAt w1 T F u) => (hm.block (Below.heap_setCell w1 ⟨w.heap.size, 0, none⟩ (.slice none 0 0) T (by show T ≠ w.heap.size; omega))).block (Below.heap_setCell _ ⟨w.heap.size, 1, none⟩ (.slice none 0 0) T (by show T ≠ w.heap.size; omega)))
   obtain ⟨k0, k1, k2, k3⟩ := HWK.out
   go_wp2_with fail
   obtain ⟨d0, d1, _, _⟩ := HW9.out
   refine bodyPost_ret (v := .tuple #[.agg #[.slice none 0 0, .slice none 0 0], .bool false, .int .i64 0]) ?_ rfl (HF.out _ HG9.out (HM9.out _ HMT.out))
   simp [results, Tryz.results96, go_sem, d0, d1]
  | true =>
   have hd : decN h lv = srch h (clI ((askN lv : Nat) : Int)) h.length h.length [] [] := by unfold decN; rw [if_pos ⟨hlv, hs⟩]
   have HDF := hid (dec_first hc lv)
   have hC : clI ((askN lv : Nat) : Int) < 9223372036854775808 := by have := clI_lt ((askN lv : Nat) : Int); omega
   rw [hlv] at CI
   have CN := hid (xnew_any ((askN lv : Nat) : Int) hO hc ht HB1.out)
   have HD := hid hd
   have HU := hid hU
   have HMM := hid hM
   have HC := hid hc
   have HOT : Hid (OrdIs w0 B b h ∧ Tab w0 ∧ w0.heap.size ≤ T ∧ clI ((askN lv : Nat) : Int) < 9223372036854775808) := hid ⟨hO, ht, hT, hC⟩
   clear hs hlv hd hM hU hm hO ht hc hT hC hb
   go_wp2_with fail
   refine (CI.out _).mono ?_
   rintro e wq ⟨rfl, rfl⟩
   go_wp2_with fail
   refine (CA.out _ HB1.out).mono ?_
   rintro e wq ⟨rfl, rfl⟩
   go_wp2_with fail
   refine CN.out.mono ?_
   rintro e w2 ⟨S, vb, aF, sF, rfl, p, hb2⟩
   have hSl := p.lowS.1
   have hM2 := HMT.out.below hb2 HMT.out.lt
   have SEA := hid (Sea.made p (by omega) HOT.out.2.2.1 hM2)
   have hg3 : w.grownBy ((w2.alloc (.map #[] 0)).alloc (.cells #[.pointer (some ⟨S, 0, none⟩), .pointer (some ⟨B, 0, none⟩), .map (some w2.heap.size), .iface 152 (.pointer (some ⟨T, 0, none⟩))] 209)) (some T) := grown_below (grown_below (grown_below HGW.out hb2) (box_below _ _)) (box_below _ _)
   have hwk3 : WkAt ((w2.alloc (.map #[] 0)).alloc (.cells #[.pointer (some ⟨S, 0, none⟩), .pointer (some ⟨B, 0, none⟩), .map (some w2.heap.size), .iface 152 (.pointer (some ⟨T, 0, none⟩))] 209)) w.heap.size (.slice none 0 0) (.slice none 0 0) := by
    have h1 := HWK.out.below hb2 HWK.out.lt
    have h2 := h1.below (box_below w2 (.map #[] 0)) h1.lt
    exact h2.below (box_below _ _) h2.lt
   have hw12 := hb2.size
   clear p hb2 hM2 CN CI CA HB1 HGW HWK HMT n0
   have HGW := hid hg3
   have HWK := hid hwk3
   clear hg3 hwk3
   go_upto_region 4 with fail
   generalize (w2.alloc (.map #[] 0)).alloc (.cells #[.pointer (some ⟨S, 0, none⟩), .pointer (some ⟨B, 0, none⟩), .map (some w2.heap.size), .iface 152 (.pointer (some ⟨T, 0, none⟩))] 209) = w3 at *
   have CF := hid (sfurther_any HOT.out.1 HOT.out.2.1 HC.out HOT.out.2.2.2 h.length [] (.slice none 0 0) aF sF [] U w3 SEA.out (by simp) (by have := HMM.out; rw [HD.out] at this; simp only [List.length_nil]; omega) (fun e => by have := HU.out e; rw [HD.out] at this; exact this))
   rw [← HD.out] at CF
   have hSz : w.heap.size ≤ S := by omega
   have hMz : w.heap.size ≤ w2.heap.size := by omega
   generalize w2.heap.size = Mb at *
   clear SEA hrun hmk
   go_wp2_with fail
   refine CF.out.mono ?_
   rintro e w4 ⟨vr4, hst, hres⟩
   have hg4 := grown_sea HGW.out hst hSz hMz
   have hwk4 : WkAt w4 w.heap.size (.slice none 0 0) (.slice none 0 0) := HWK.out.block (hst.block w.heap.size HWK.out.lt (by omega) (by omega) (by omega) (by simp [Value.ownBlock]))
   clear hst CF HGW HWK
   have HGW := hid hg4
   have HWK := hid hwk4
   clear hg4 hwk4
   rcases hres with ⟨hla, rfl, aF4, sF4, q4⟩ | ⟨hla, rfl, hm4⟩
   ·have Q4 := hid q4
    have HMT := hid q4.t
    have HLA := hid hla
    clear q4 hla
    cases hfd : (decN h lv).1 with
    | none =>
     have HF : Hid (∀ wx, w.grownBy wx (some T) → MtAt wx T F (U + (decN h lv).2.2) → SdRes h lv T F U w (.returned (.tuple #[.agg #[.slice none 0 0, .slice none 0 0], .bool false, .int .i64 0])) wx) := hid (fun wx hg hm => ⟨hg, .inl ⟨HLA.out, hm, .inl ⟨hfd, rfl⟩⟩⟩)
     clear hfd Q4
     have HW9 := hid (HWK.out.set (.slice none 0 0) (.slice none 0 0))
     have HG9 := hid (grown_setc (grown_setc HGW.out (p := ⟨w.heap.size, 0, none⟩) (Nat.le_refl _) (.slice none 0 0)) (p := ⟨w.heap.size, 1, none⟩) (Nat.le_refl _) (.slice none 0 0))
     have HM9 := hid (fun u (hm : MtAt w4 T F u) => (hm.block (Below.heap_setCell w4 ⟨w.heap.size, 0, none⟩ (.slice none 0 0) T (by show T ≠ w.heap.size; omega))).block (Below.heap_setCell _ ⟨w.heap.size, 1, none⟩ (.slice none 0 0) T (by show T ≠ w.heap.size; omega)))
     obtain ⟨k0, k1, k2, k3⟩ := HWK.out
     go_wp2_with fail
     obtain ⟨d0, d1, _, _⟩ := HW9.out
     refine bodyPost_ret (v := .tuple #[.agg #[.slice none 0 0, .slice none 0 0], .bool false, .int .i64 0]) ?_ rfl (HF.out _ HG9.out (HM9.out _ HMT.out))
     simp [results, Tryz.results96, go_sem, d0, d1]
    | some r =>
     have q4 := Q4.out
     rw [hfd] at q4
     have q4 : Sea w0 w1.heap.size S B b h (clI ((askN lv : Nat) : Int)) (Mb + 1) Mb T F vb r vr4 aF4 sF4 (decN h lv).2.1 (U + (decN h lv).2.2) w4 := q4
     have hrl : r.length = h.length := by
      have e := HDF.out
      rw [hfd, Option.map_some] at e
      have := (orders_perm (List.mem_of_find?_eq_some e.symm)).length_eq
      simpa using this
     have CWT := hid (switness_any q4 HC.out hrl)
     have HRG := hid (q4.p.rowG HC.out)
     have HF : Hid (∀ vo vs wx, Ints wx vo (r.reverse.map Int.ofNat) → Lists wx vs (seesL (seesR h (clI ((askN lv : Nat) : Int)) r) h.length) → OwnW wx w.heap.size vo vs (r.reverse.map Int.ofNat) (seesL (seesR h (clI ((askN lv : Nat) : Int)) r) h.length) → w.grownBy wx (some T) → MtAt wx T F (U + (decN h lv).2.2) → SdRes h lv T F U w (.returned (.tuple #[.agg #[vo, vs], .bool true, .int .i64 0])) wx) := hid (fun vo vs wx hI hL hW hg hm => ⟨hg, .inl ⟨HLA.out, hm, .inr ⟨r, vo, vs, hfd, HRG.out, hrl, rfl, hI, hL, hW⟩⟩⟩)
     have HRL := hid hrl
     clear hfd q4 Q4 hrl
     go_wp2_with fail
     refine CWT.out.mono ?_
     rintro e w5 ⟨⟨vo, vs, KL, rfl, hI5, hL5, hK5⟩, hb5⟩
     obtain ⟨oa, oc, rfl⟩ := own_form hI5
     obtain ⟨sa, sc, rfl⟩ := own_form hL5.kr
     have hwk5 := HWK.out.below hb5 HWK.out.lt
     have hlo : w.heap.size < w4.heap.size + 1 := by have := HWK.out.lt; omega
     have HW9 := hid (hwk5.set (.slice oa (r.reverse.map Int.ofNat).length oc) (.slice sa KL.length sc))
     have HI9 := hid (Ints.of_owns (pl_far (pl_far hI5 (p := ⟨w.heap.size, 0, none⟩) hlo (.slice oa (r.reverse.map Int.ofNat).length oc)) (p := ⟨w.heap.size, 1, none⟩) hlo (.slice sa KL.length sc)))
     have HL9 := hid (OwnK.lists ((hL5.far (p := ⟨w.heap.size, 0, none⟩) hlo (.slice oa (r.reverse.map Int.ofNat).length oc)).far (p := ⟨w.heap.size, 1, none⟩) hlo (.slice sa KL.length sc)))
     have HO9 : Hid (OwnW _ w.heap.size _ _ _ _) := hid ⟨own_base' (pl_far (pl_far hI5 (p := ⟨w.heap.size, 0, none⟩) hlo (.slice oa (r.reverse.map Int.ofNat).length oc)) (p := ⟨w.heap.size, 1, none⟩) hlo (.slice sa KL.length sc)) (show w.heap.size ≤ w4.heap.size + 1 by omega), KL, ((hL5.far (p := ⟨w.heap.size, 0, none⟩) hlo (.slice oa (r.reverse.map Int.ofNat).length oc)).far (p := ⟨w.heap.size, 1, none⟩) hlo (.slice sa KL.length sc)).base (show w.heap.size ≤ w4.heap.size + 1 by omega), hK5⟩
     rw [hK5] at HL9
     have HG9 := hid (grown_setc (grown_setc (grown_below HGW.out hb5) (p := ⟨w.heap.size, 0, none⟩) (Nat.le_refl _) (.slice oa (r.reverse.map Int.ofNat).length oc)) (p := ⟨w.heap.size, 1, none⟩) (Nat.le_refl _) (.slice sa KL.length sc))
     have HM9 := hid (((HMT.out.below hb5 HMT.out.lt).block (Below.heap_setCell w5 ⟨w.heap.size, 0, none⟩ (.slice oa (r.reverse.map Int.ofNat).length oc) T (by show T ≠ w.heap.size; omega))).block (Below.heap_setCell _ ⟨w.heap.size, 1, none⟩ (.slice sa KL.length sc) T (by show T ≠ w.heap.size; omega)))
     simp only [List.length_map, List.length_reverse] at HW9 HI9 HL9 HO9 HG9 HM9 ⊢
     obtain ⟨k0, k1, k2, k3⟩ := hwk5
     clear hI5 hL5 hK5 hb5 CWT
     go_wp2_with fail
     obtain ⟨d0, d1, _, _⟩ := HW9.out
     refine bodyPost_ret (v := .tuple #[.agg #[.slice oa r.length oc, .slice sa KL.length sc], .bool true, .int .i64 0]) ?_ rfl (HF.out _ _ _ HI9.out HL9.out HO9.out HG9.out HM9.out)
     simp [results, Tryz.results96, go_sem, d0, d1]
   ·have HMT := hid hm4
    have HF : Hid (∀ wx, w.grownBy wx (some T) → MtAt wx T F F → SdRes h lv T F U w (.returned (.tuple #[.agg #[.slice none 0 0, .slice none 0 0], .bool false, .int .i64 4])) wx) := hid (fun wx hg hm => ⟨hg, .inr ⟨hla, hm, rfl⟩⟩)
    clear hm4 hla
    have HW9 := hid (HWK.out.set (.slice none 0 0) (.slice none 0 0))
    have HG9 := hid (grown_setc (grown_setc HGW.out (p := ⟨w.heap.size, 0, none⟩) (Nat.le_refl _) (.slice none 0 0)) (p := ⟨w.heap.size, 1, none⟩) (Nat.le_refl _) (.slice none 0 0))
    have HM9 := hid (fun u (hm : MtAt w4 T F u) => (hm.block (Below.heap_setCell w4 ⟨w.heap.size, 0, none⟩ (.slice none 0 0) T (by show T ≠ w.heap.size; omega))).block (Below.heap_setCell _ ⟨w.heap.size, 1, none⟩ (.slice none 0 0) T (by show T ≠ w.heap.size; omega)))
    obtain ⟨k0, k1, k2, k3⟩ := HWK.out
    go_wp2_with fail
    obtain ⟨d0, d1, _, _⟩ := HW9.out
    refine bodyPost_ret (v := .tuple #[.agg #[.slice none 0 0, .slice none 0 0], .bool false, .int .i64 4]) ?_ rfl (HF.out _ HG9.out (HM9.out _ HMT.out))
    simp [results, Tryz.results96, go_sem, d0, d1]
end

section
open Go.RowKit
structure WitT (g : Nat) (vo vs : Value) (w : World) : Prop where
 c0 : w.cell? ⟨g, 0, none⟩ = some vo
 c1 : w.cell? ⟨g, 1, none⟩ = some vs
theorem WitT.below {g : Nat} {vo vs : Value} {w w' : World} (h : WitT g vo vs w) (hb : Below w.heap.size w w') : WitT g vo vs w' := by
 have hl := block_lt h.c0
 exact ⟨(hb.cell (p := ⟨g, 0, none⟩) hl).trans h.c0, (hb.cell (p := ⟨g, 1, none⟩) hl).trans h.c1⟩
theorem WitT.made (w : World) (vo vs : Value) (t : TypeId) : WitT w.heap.size vo vs (w.alloc (.cells #[vo, vs] t)) := by
 have hn := heap_alloc_new w (.cells #[vo, vs] t)
 refine ⟨?_, ?_⟩ <;> (rw [cell_of_row _ _ _ _ _ _ hn]; rfl)
end

section
open Go.RowKit
theorem takeQ {P : Program} {ops : Array Oper} {Q : Exit → Act → World → Prop} {md : Region.Mode} {S : World → Prop} (d : Option Tmp) {i : Nat} {oi : Oper} {v : Value} {fuel : Nat} {listed : Array Bool} {a : Act} {w : World} (hi : ops[i]? = some oi) (hd : oi.dst = d)
  (hs : Region.noSelect ops = true) (hf : Region.free md ops listed i = true) (hr : (Region.ready md ops listed).contains i = true)
  (hQ : ∀ c a w, Q (.panic c) (a.put oi.dst v) w → Q (.panic c) a w) (hy : YieldsIf P ops S oi v a) (hS : S w)
  (h : wpAnyH P md ops Q S fuel (listed.setIfInBounds i true) (a.put d v) w) : wpAnyH P md ops Q S (fuel + 1) listed a w := by
 subst hd; exact wpAnyH_take hi hs hf hr hQ hy hS h
theorem of_done (va : Value) (h : List TxnV) (w : World) (hT : Txns w va h) (hok : ∀ t ∈ h, t.ok) (hsh : Short h) (hc : checkI h = 0) :
  Calls Tryz.prog 25 #[va] w fun e w' => (∃ B, e = .returned (.tuple #[.pointer (some ⟨B, 0, none⟩), .int .i64 0]) ∧ w.heap.size ≤ B ∧ OrdIs w' B (B + 2) h) ∧ Below w.heap.size w w' := by
 obtain ⟨ao, cap, rfl, hal⟩ := hT.form
 obtain ⟨hlen, hops, hW, hks⟩ := check_zero hc
 have hb0 := box_below w (.cells #[.slice ao h.length cap] 22)
 have CH := hid (hcheck_any _ h _ (hT.below hb0) hok hsh)
 rw [hc] at CH
 have CW := hid (fun wx (hx : Below w.heap.size w wx) => hwrites_any _ h wx (hT.below hx) hok hks (by omega) (by omega))
 have HT := hid (fun wx (hx : Below w.heap.size w wx) => hT.below hx)
 have HOK := hid hok
 have HKS := hid hks
 have HW := hid hW
 have HOPS := hid hops
 obtain ⟨i1, hi1, hza1, hzb1, hzc1⟩ := info_parts infoLI
 obtain ⟨i2, hi2, hza2, hzb2, hzc2⟩ := info_parts infoLR
 have hA0 : (w.alloc (.cells #[.slice ao h.length cap] 22)).cell? ⟨w.heap.size, 0, none⟩ = some (.slice ao h.length cap) := by rw [cell_of_row _ _ _ _ _ _ (heap_alloc_new w _)]; rfl
 clear hT hok hsh hks hW hc hops
 go_enter Tryz.func25, Tryz.ntmps25
 go_wp2_with fail
 refine (CH.out).mono ?_
 rintro e w1 ⟨rfl, hb1⟩
 have hA1 := (hb1.cell (p := ⟨w.heap.size, 0, none⟩) (block_lt hA0)).trans hA0
 have hb2 := below_then hb0 hb1
 clear CH hb1 hb0 hA0
 go_wp2_with fail
 refine (CW.out _ hb2).mono ?_
 rintro e w2 ⟨hb3, ⟨hno, _⟩ | ⟨_, bm, m, rfl, hbm, hM⟩⟩
 ·exact absurd hno (by rw [HW.out]; simp)
 have hA2 := (hb3.cell (p := ⟨w.heap.size, 0, none⟩) (block_lt hA1)).trans hA1
 have hb4 := below_then hb2 hb3
 clear CW hb3 hb2 hA1
 have hlt := block_lt hA2
 simp only at hlt
 have hO3 := (OrdAt.made w2 (h.length : Int) 112 rfl rfl).alloc (.cells #[.pointer (some ⟨w2.heap.size, 0, none⟩)] 36)
 have hb3 := ((Below.refl w2.heap.size w2).alloc (Nat.le_refl _) (.cells ((Tryz.zeroCells112.setIfInBounds 0 (.int .i64 h.length)).setIfInBounds 196 (.bool true)) 112)).alloc (by simp) (.cells #[.pointer (some ⟨w2.heap.size, 0, none⟩)] 36)
 have hA3 := (hb3.cell (p := ⟨w.heap.size, 0, none⟩) hlt).trans hA2
 have hC3 : ((w2.alloc (.cells ((Tryz.zeroCells112.setIfInBounds 0 (.int .i64 h.length)).setIfInBounds 196 (.bool true)) 112)).alloc (.cells #[.pointer (some ⟨w2.heap.size, 0, none⟩)] 36)).cell? ⟨w2.heap.size + 1, 0, none⟩ = some (.pointer (some ⟨w2.heap.size, 0, none⟩)) := by
  rw [cell_of_row _ _ _ _ _ _ (heap_alloc2_new w2 _ _)]; rfl
 have hs3 : w2.heap.size + 2 ≤ ((w2.alloc (.cells ((Tryz.zeroCells112.setIfInBounds 0 (.int .i64 h.length)).setIfInBounds 196 (.bool true)) 112)).alloc (.cells #[.pointer (some ⟨w2.heap.size, 0, none⟩)] 36)).heap.size := by simp
 go_wp2_with fail
 generalize ((w2.alloc (.cells ((Tryz.zeroCells112.setIfInBounds 0 (.int .i64 h.length)).setIfInBounds 196 (.bool true)) 112)).alloc (.cells #[.pointer (some ⟨w2.heap.size, 0, none⟩)] 36)) = w3 at *
 generalize (Tryz.zeroCells112.setIfInBounds 0 (.int .i64 h.length)).setIfInBounds 196 (.bool true) = Z at *
 go_loopw [26] (fun i wr => ∃ (k : Nat) (vk vr : Value) (sd : Bool) (K : List KRow) (R : List RRow), k ≤ h.length ∧ i = .int .i64 k ∧ K.map (·.2) = keysTo h k ∧ R.map (·.2) = readsTo h k ∧ sd = soundTo h k ∧ OrdAt wr w2.heap.size h.length noR noR noR (.map none) vk vr sd ∧
   wr.cell? ⟨w2.heap.size + 1, 0, none⟩ = some (.pointer (some ⟨w2.heap.size, 0, none⟩)) ∧ OfR (w2.heap.size + 2) wr vk vr K R ∧ Below w2.heap.size w2 wr ∧ w2.heap.size + 2 ≤ wr.heap.size) (fun i _ => h.length - (intOf i).toNat)
 case atStart => exact ⟨0, _, _, _, [], [], by omega, rfl, rfl, rfl, rfl, hO3, hC3, OfR.nil _ _, hb3, hs3⟩
 case round =>
  clear hO3 hC3 hb3 hs3 hA3
  obtain ⟨k, vk, vr, sd, K, R, hk, rfl, hK, hR, hsd, hO, hC, hF, hb, hsz⟩ := hrel
  have HK := hid (And.intro hK (And.intro hR hsd))
  clear hK hR hsd
  by_cases hlk : k < h.length
  ·have hki : (k : Int) < (h.length : Int) := by omega
   have hbw := below_then hb4 hb
   obtain ⟨g, o, hao, c0, c1, c2, c3⟩ := (HT.out _ hbw).at hlk
   cases hao
   have hOps := (HT.out _ hbw).ops hlk
   have HOPF := hid (fun wx (hx : Below w2.heap.size w2 wx) => (HT.out wx (below_then hb4 hx)).ops hlk)
   generalize h[k].s = ts at *
   generalize h[k].b = tb at *
   generalize h[k].c = tc at *
   have HLK : Hid (opsAt h k = h[k].l) := hid (opsAt_eq hlk)
   have hll : h[k].l.length ≤ 1024 := by
    have h1 := opsN_take h k hlk
    have h2 := opsN_le h (k + 1)
    have h3 := HOPS.out
    omega
   have HOL := hid (HOK.out _ (List.getElem_mem hlk)).2
   have HKL := hid (HKS.out _ (List.getElem_mem hlk))
   generalize h[k].v = tv at *
   generalize h[k].l = l at *
   obtain ⟨a2, cap2, rfl, hl2⟩ := hOps.form
   obtain ⟨b0, b1, b2, b3⟩ := txnBlock wr (.int .i64 ts) (.int .i64 tb) (.int .i64 tc) (.slice a2 l.length cap2) 83
   have hbx := (Below.refl wr.heap.size wr).alloc (Nat.le_refl _) (.cells #[.int .i64 ts, .int .i64 tb, .int .i64 tc, .slice a2 l.length cap2] 83)
   have hOps1 := hOps.below hbx
   have hO1 := hO.below hbx hO.lt
   have hC1 := (hbx.cell (p := ⟨w2.heap.size + 1, 0, none⟩) (block_lt hC)).trans hC
   have hF1 := hF.below hbx
   have hb1 := hb.trans (hbx.mono hb.size)
   have hs1 : w2.heap.size + 2 ≤ (wr.alloc (.cells #[.int .i64 ts, .int .i64 tb, .int .i64 tc, .slice a2 l.length cap2] 83)).heap.size := by simp; omega
   have hgx : w2.heap.size + 2 ≤ wr.heap.size := hsz
   have hX1 := heap_alloc_new wr (.cells #[.int .i64 ts, .int .i64 tb, .int .i64 tc, .slice a2 l.length cap2] 83)
   have hX : OfS w2 wr.heap.size ts tb tc (.slice a2 l.length cap2) h.length vk vr sd K R (wr.alloc (.cells #[.int .i64 ts, .int .i64 tb, .int .i64 tc, .slice a2 l.length cap2] 83)) := ⟨hO1, ⟨hC1, b0, b1, b2, b3⟩, hF1, hb1, hs1, ⟨_, hX1⟩, hgx⟩
   have hTf := fun wx (hx : Below w2.heap.size w2 wx) => HT.out wx (below_then hb4 hx)
   go_upto_region 9 with fail
   clear hOps hO hC hF hb hbx hbw hsz c0 c1 c2 c3 hO1 hC1 hF1 hb1 hs1 hX1 b0 b1 b2 b3
   generalize wr.alloc (.cells #[.int .i64 ts, .int .i64 tb, .int .i64 tc, .slice a2 l.length cap2] 83) = w4 at *
   generalize wr.heap.size = gx at *
   clear wr
   have hKl : K.length ≤ 64 := by have := congrArg List.length HK.out.1; simp [keysTo] at this; omega
   have hRl : R.length ≤ 64 := by have := congrArg List.length HK.out.2.1; simp [readsTo] at this; omega
   obtain ⟨aK, cK, rfl⟩ := owns_form hX.r.kr
   obtain ⟨aR, cR, rfl⟩ := owns_form hX.r.rr
   go_cut [41] from 31 to 41 (fun u wx => ∃ (v5 : Value) (vx : Value), u = .pointer (some ⟨w2.heap.size, 194, none⟩) ∧ OfS w2 gx ts tb tc (.slice a2 l.length cap2) h.length v5 (.slice aR R.length cR) sd (K ++ [(vx, keysOf l)]) R wx)
   case first =>
    have kd := (Below.refl w4.heap.size w4).drew
    have CK : Hid (∀ wx, Below w4.heap.size w4 wx → Calls Tryz.prog 53 #[.agg #[.int .i64 ts, .int .i64 tb, .int .i64 tc, .slice a2 l.length cap2]] wx fun e w' => ∃ v, e = .returned v ∧ w'.ownsRow (w2.heap.size + 2) 3 1 v (keysOf l).length ((keysOf l).map (Value.int .i64)) ∧ Below wx.heap.size wx w') := hid (fun wx hx => (okeys_any ts tb tc _ l wx (hOps1.below hx) HOL.out (by omega)).mono (fun e w' ⟨v, out, he, ho, hr, _, hbb⟩ => by
     obtain rfl := hr.eq (refWrites_rise HKL.out)
     refine ⟨v, he, own_base' ?_ (show w2.heap.size + 2 ≤ wx.heap.size by have h1 := hx.size; have h2 := hX.z; omega), hbb⟩
     unfold keysOf
     rw [List.length_map, List.map_map]
     exact ho))
    have HS : Hid (∀ wx, Below w4.heap.size w4 wx → SB (w2.heap.size + 1) w2.heap.size gx ts tb tc (.slice a2 l.length cap2) wx) := hid (fun wx hx => hX.s.below hx)
    have hc0 := hX.o.cK
    have HCL : Hid (∀ wx, Below w4.heap.size w4 wx → wx.cell? ⟨w2.heap.size, 194, none⟩ = some (.slice aK K.length cK)) := hid (fun wx hx => (hx.cell (p := ⟨w2.heap.size, 194, none⟩) (block_lt hc0)).trans hc0)
    have HCA : Hid (∀ wx, Below w4.heap.size w4 wx → ∀ o, (wx.alloc o).cell? ⟨w2.heap.size, 194, none⟩ = some (.slice aK K.length cK)) := hid (fun wx hx o => HCL.out _ (hx.alloc hx.size o))
    have HRO : Hid (∀ wx, Below w4.heap.size w4 wx → wx.ownsRow (w2.heap.size + 2) 24 1 (.slice aK K.length cK) K.length (K.map (·.1))) := hid (fun wx hx => owns_below hX.r.kr hx)
    have HSZ : Hid (∀ wx (o : Obj), Below w4.heap.size w4 wx → w2.heap.size + 2 ≤ (wx.alloc o).heap.size) := hid (fun wx o hx => by have h1 := hx.size; have h2 := hX.z; simp; omega)
    have HFIN := hid (fun wx w5 v v5 hx => hX.addK (wx := wx) (w5 := w5) (v := v) (v5 := v5) (t := 24) (l := keysOf l) hx)
    have n3 : Hid (K.length + 1 ≤ maxLen) := hid (by unfold maxLen; omega)
    have n4 : Hid ((K.length + 1) * 24 ≤ 140737488355328) := hid (by omega)
    refine wp_region_held_drew (S := SB (w2.heap.size + 1) w2.heap.size gx ts tb tc (.slice a2 l.length cap2)) (by kernel_rfl) hX.s.drew (fun hS0 => ?_)
    refine takeQ (some 31) (i := 0) (v := ?v1) rfl rfl (by kernel_rfl) (by kernel_rfl) (by kernel_rfl) (fun _ _ _ h => h) (Or.inl ⟨by rfl, ?h1⟩) hS0 ?r1
    case h1 => (intro w hw; obtain ⟨q0, q1, q2, q3, q4⟩ := hw; go_simp; try (with_reducible rfl))
    try simp only [Act.put, zA, zB, zC]
    refine takeQ (some 32) (i := 1) (v := ?v2) rfl rfl (by kernel_rfl) (by kernel_rfl) (by kernel_rfl) (fun _ _ _ h => h) (Or.inl ⟨by rfl, ?h2⟩) hS0 ?r2
    case h2 => (intro w hw; obtain ⟨q0, q1, q2, q3, q4⟩ := hw; go_simp; try (with_reducible rfl))
    try simp only [Act.put, zA, zB, zC]
    refine takeQ (some 36) (i := 5) (v := ?v3) rfl rfl (by kernel_rfl) (by kernel_rfl) (by kernel_rfl) (fun _ _ _ h => h) (Or.inl ⟨by rfl, ?h3⟩) hS0 ?r3
    case h3 => (intro w hw; obtain ⟨q0, q1, q2, q3, q4⟩ := hw; go_simp; try (with_reducible rfl))
    try simp only [Act.put, zA, zB, zC]
    refine takeQ (some 33) (i := 2) (v := ?v4) rfl rfl (by kernel_rfl) (by kernel_rfl) (by kernel_rfl) (fun _ _ _ h => h) (Or.inl ⟨by rfl, ?h4⟩) hS0 ?r4
    case h4 => (intro w hw; obtain ⟨q0, q1, q2, q3, q4⟩ := hw; go_simp; try (with_reducible rfl))
    try simp only [Act.put, zA, zB, zC]
    refine takeQ (some 34) (i := 3) (v := ?v5) rfl rfl (by kernel_rfl) (by kernel_rfl) (by kernel_rfl) (fun _ _ _ h => h) (Or.inl ⟨by rfl, ?h5⟩) hS0 ?r5
    case h5 => (intro w hw; obtain ⟨q0, q1, q2, q3, q4⟩ := hw; go_simp; try (with_reducible rfl))
    try simp only [Act.put, zA, zB, zC]
    refine wpAnyH_ready (rs := [4, 6]) (by kernel_rfl) (by simp) ?_
    refine AllReadyH.cons rfl ?_ (AllReadyH.cons rfl ?_ AllReadyH.nil)
    ·intro KK hKK
     go_simp
     refine hKK.out _ _ hS0 (fun _ => ?_)
     clear hKK KK
     refine wpAnyH_ready (rs := [6]) (by kernel_rfl) (by simp) ?_
     refine AllReadyH.cons rfl ?_ AllReadyH.nil
     intro KK hKK
     go_simp
     refine (CK.out _ kd).mono ?_
     rintro e wx ⟨vx, rfl, hox, hbx⟩
     obtain ⟨ax, cx, hvx⟩ := owns_form hox
     subst hvx
     show KK _ _
     have kk := below_then kd hbx
     have hS1 := HS.out _ kk
     have hcw := HCL.out _ kk
     refine hKK.out _ _ hS1 (fun _ => ?_)
     clear hKK KK
     refine wpAnyH_ready (rs := [7]) (by kernel_rfl) (by simp) ?_
     refine AllReadyH.cons rfl ?_ AllReadyH.nil
     intro KK hKK
     go_simp
     have hS2 := hS1.alloc (.cells #[.slice ax (keysOf l).length cx] 24)
     have hcw := HCA.out _ kk (.cells #[.slice ax (keysOf l).length cx] 24)
     refine hKK.out _ _ hS2 (fun _ => ?_)
     clear hKK KK
     refine wpAnyH_ready (rs := [8]) (by kernel_rfl) (by simp) ?_
     refine AllReadyH.cons rfl ?_ AllReadyH.nil
     intro KK hKK
     refine step_app _ rfl (.tmp 35) (.tmp 38) 39 rfl (w2.heap.size + 2) 24 i1 (.slice none 0 0) 1 24 Tryz.underlying39 hi1 hza1 hzb1 hzc1 rfl (by decide) (.slice aK K.length cK) K.length (K.map (·.1)) (by simp [Act.eval]) ((HRO.out _ kk).alloc _) ⟨_, 0, none⟩ 1 1 [.slice ax (keysOf l).length cx] (by rfl) rfl (cell_one_new _ _ _) (by intro u hu; simp at hu; subst hu; rfl) n3.out n4.out (HSZ.out _ _ kk) ?_
     intro v5 w5 hown5 hg5
     obtain ⟨a5, c5, hv5⟩ := owns_form hown5
     subst hv5
     obtain ⟨hfin, hS5, hfz, hcz⟩ := HFIN.out _ _ _ _ kk hox hown5 hg5
     show KK _ _
     refine hKK.out _ _ hS5 (fun _ => ?_)
     clear hKK KK
     refine takeQ (some 40) (i := 9) (v := ?v6) rfl rfl (by kernel_rfl) (by kernel_rfl) (by kernel_rfl) (fun _ _ _ h => h) (Or.inl ⟨by rfl, ?h6⟩) hS5 ?r6
     case h6 => (intro w hw; obtain ⟨q0, q1, q2, q3, q4⟩ := hw; go_simp; try (with_reducible rfl))
     try simp only [Act.put, List.setIfInBounds_toArray]
     refine takeQ (some 41) (i := 10) (v := ?v7) rfl rfl (by kernel_rfl) (by kernel_rfl) (by kernel_rfl) (fun _ _ _ h => h) (Or.inl ⟨by rfl, ?h7⟩) hS5 ?r7
     case h7 => (intro w hw; obtain ⟨q0, q1, q2, q3, q4⟩ := hw; go_simp; try (with_reducible rfl))
     try simp only [Act.put]
     refine wpAnyH_ready (rs := [11]) (by kernel_rfl) (by simp) ?_
     refine AllReadyH.cons rfl ?_ AllReadyH.nil
     intro KK hKK
     go_simp
     refine hKK.out _ _ hfin.s (fun _ => ?_)
     clear hKK KK
     refine wpAnyH_done (by kernel_rfl) ?_ _
     go_wp2_with fail
     go_meet
     exact ⟨_, _, rfl, hfin⟩
    ·intro KK hKK
     go_simp
     refine (CK.out _ kd).mono ?_
     rintro e wx ⟨vx, rfl, hox, hbx⟩
     obtain ⟨ax, cx, hvx⟩ := owns_form hox
     subst hvx
     show KK _ _
     have kk := below_then kd hbx
     have hS1 := HS.out _ kk
     have hcw := HCL.out _ kk
     refine hKK.out _ _ hS1 (fun _ => ?_)
     clear hKK KK
     refine wpAnyH_ready (rs := [4, 7]) (by kernel_rfl) (by simp) ?_
     refine AllReadyH.cons rfl ?_ (AllReadyH.cons rfl ?_ AllReadyH.nil)
     ·intro KK hKK
      go_simp
      refine hKK.out _ _ hS1 (fun _ => ?_)
      clear hKK KK
      refine wpAnyH_ready (rs := [7]) (by kernel_rfl) (by simp) ?_
      refine AllReadyH.cons rfl ?_ AllReadyH.nil
      intro KK hKK
      go_simp
      have hS2 := hS1.alloc (.cells #[.slice ax (keysOf l).length cx] 24)
      have hcw := HCA.out _ kk (.cells #[.slice ax (keysOf l).length cx] 24)
      refine hKK.out _ _ hS2 (fun _ => ?_)
      clear hKK KK
      refine wpAnyH_ready (rs := [8]) (by kernel_rfl) (by simp) ?_
      refine AllReadyH.cons rfl ?_ AllReadyH.nil
      intro KK hKK
      refine step_app _ rfl (.tmp 35) (.tmp 38) 39 rfl (w2.heap.size + 2) 24 i1 (.slice none 0 0) 1 24 Tryz.underlying39 hi1 hza1 hzb1 hzc1 rfl (by decide) (.slice aK K.length cK) K.length (K.map (·.1)) (by simp [Act.eval]) ((HRO.out _ kk).alloc _) ⟨_, 0, none⟩ 1 1 [.slice ax (keysOf l).length cx] (by rfl) rfl (cell_one_new _ _ _) (by intro u hu; simp at hu; subst hu; rfl) n3.out n4.out (HSZ.out _ _ kk) ?_
      intro v5 w5 hown5 hg5
      obtain ⟨a5, c5, hv5⟩ := owns_form hown5
      subst hv5
      obtain ⟨hfin, hS5, hfz, hcz⟩ := HFIN.out _ _ _ _ kk hox hown5 hg5
      show KK _ _
      refine hKK.out _ _ hS5 (fun _ => ?_)
      clear hKK KK
      refine takeQ (some 40) (i := 9) (v := ?v8) rfl rfl (by kernel_rfl) (by kernel_rfl) (by kernel_rfl) (fun _ _ _ h => h) (Or.inl ⟨by rfl, ?h8⟩) hS5 ?r8
      case h8 => (intro w hw; obtain ⟨q0, q1, q2, q3, q4⟩ := hw; go_simp; try (with_reducible rfl))
      try simp only [Act.put, List.setIfInBounds_toArray]
      refine takeQ (some 41) (i := 10) (v := ?v9) rfl rfl (by kernel_rfl) (by kernel_rfl) (by kernel_rfl) (fun _ _ _ h => h) (Or.inl ⟨by rfl, ?h9⟩) hS5 ?r9
      case h9 => (intro w hw; obtain ⟨q0, q1, q2, q3, q4⟩ := hw; go_simp; try (with_reducible rfl))
      try simp only [Act.put]
      refine wpAnyH_ready (rs := [11]) (by kernel_rfl) (by simp) ?_
      refine AllReadyH.cons rfl ?_ AllReadyH.nil
      intro KK hKK
      go_simp
      refine hKK.out _ _ hfin.s (fun _ => ?_)
      clear hKK KK
      refine wpAnyH_done (by kernel_rfl) ?_ _
      go_wp2_with fail
      go_meet
      exact ⟨_, _, rfl, hfin⟩
     ·intro KK hKK
      go_simp
      have hS2 := hS1.alloc (.cells #[.slice ax (keysOf l).length cx] 24)
      have hcw := HCA.out _ kk (.cells #[.slice ax (keysOf l).length cx] 24)
      refine hKK.out _ _ hS2 (fun _ => ?_)
      clear hKK KK
      refine wpAnyH_ready (rs := [4]) (by kernel_rfl) (by simp) ?_
      refine AllReadyH.cons rfl ?_ AllReadyH.nil
      intro KK hKK
      go_simp
      refine hKK.out _ _ hS2 (fun _ => ?_)
      clear hKK KK
      refine wpAnyH_ready (rs := [8]) (by kernel_rfl) (by simp) ?_
      refine AllReadyH.cons rfl ?_ AllReadyH.nil
      intro KK hKK
      refine step_app _ rfl (.tmp 35) (.tmp 38) 39 rfl (w2.heap.size + 2) 24 i1 (.slice none 0 0) 1 24 Tryz.underlying39 hi1 hza1 hzb1 hzc1 rfl (by decide) (.slice aK K.length cK) K.length (K.map (·.1)) (by simp [Act.eval]) ((HRO.out _ kk).alloc _) ⟨_, 0, none⟩ 1 1 [.slice ax (keysOf l).length cx] (by rfl) rfl (cell_one_new _ _ _) (by intro u hu; simp at hu; subst hu; rfl) n3.out n4.out (HSZ.out _ _ kk) ?_
      intro v5 w5 hown5 hg5
      obtain ⟨a5, c5, hv5⟩ := owns_form hown5
      subst hv5
      obtain ⟨hfin, hS5, hfz, hcz⟩ := HFIN.out _ _ _ _ kk hox hown5 hg5
      show KK _ _
      refine hKK.out _ _ hS5 (fun _ => ?_)
      clear hKK KK
      refine takeQ (some 40) (i := 9) (v := ?v10) rfl rfl (by kernel_rfl) (by kernel_rfl) (by kernel_rfl) (fun _ _ _ h => h) (Or.inl ⟨by rfl, ?h10⟩) hS5 ?r10
      case h10 => (intro w hw; obtain ⟨q0, q1, q2, q3, q4⟩ := hw; go_simp; try (with_reducible rfl))
      try simp only [Act.put, List.setIfInBounds_toArray]
      refine takeQ (some 41) (i := 10) (v := ?v11) rfl rfl (by kernel_rfl) (by kernel_rfl) (by kernel_rfl) (fun _ _ _ h => h) (Or.inl ⟨by rfl, ?h11⟩) hS5 ?r11
      case h11 => (intro w hw; obtain ⟨q0, q1, q2, q3, q4⟩ := hw; go_simp; try (with_reducible rfl))
      try simp only [Act.put]
      refine wpAnyH_ready (rs := [11]) (by kernel_rfl) (by simp) ?_
      refine AllReadyH.cons rfl ?_ AllReadyH.nil
      intro KK hKK
      go_simp
      refine hKK.out _ _ hfin.s (fun _ => ?_)
      clear hKK KK
      refine wpAnyH_done (by kernel_rfl) ?_ _
      go_wp2_with fail
      go_meet
      exact ⟨_, _, rfl, hfin⟩
   case rest =>
    obtain ⟨vk5, vx, rfl, hX5⟩ := hcut
    clear hX hOps1
    have hX := hX5
    clear hX5
    have HRD : Hid (∃ rd, rd = rdFr (wrTo h h.length) (k : Int) (refReads l)) := hid ⟨_, rfl⟩
    obtain ⟨rd, hrd⟩ := HRD.out
    have HRD2 := hid hrd
    clear hrd HRD
    go_upto_region 10 with fail
    go_cut [54] from 42 to 54 (fun u wx => ∃ (v5 : Value) (vy : Value), u = .pointer (some ⟨w2.heap.size, 195, none⟩) ∧ OfS w2 gx ts tb tc (.slice a2 l.length cap2) h.length vk5 v5 sd (K ++ [(vx, keysOf l)]) (R ++ [(vy, rd)]) wx)
    case first =>
     have hOps1 := HOPF.out wc hX.b
     have hMc := hM.below hX.b
     have kd := (Below.refl wc.heap.size wc).drew
     have CK : Hid (∀ wx, Below wc.heap.size wc wx → Calls Tryz.prog 54 #[.int .i64 k, .agg #[.int .i64 ts, .int .i64 tb, .int .i64 tc, .slice a2 l.length cap2], .map (some bm)] wx fun e w' => ∃ v, e = .returned v ∧ w'.ownsRow (w2.heap.size + 2) 121 2 v rd.length (frV rd) ∧ Below wx.heap.size wx w') := hid (fun wx hx => (oreads_any (k : Int) ts tb tc _ l (wrTo h h.length) bm _ _ wx (hOps1.below hx) HOL.out (by omega) (hMc.below hx)).mono (fun e w' ⟨v, out, he, ho, hr, _, hbb⟩ => by
      obtain rfl := hr.eq (refReads_rise HKL.out)
      rw [← HRD2.out] at ho
      exact ⟨v, he, own_base' ho (show w2.heap.size + 2 ≤ wx.heap.size by have h1 := hx.size; have h2 := hX.z; omega), hbb⟩))
     have HS : Hid (∀ wx, Below wc.heap.size wc wx → SB (w2.heap.size + 1) w2.heap.size gx ts tb tc (.slice a2 l.length cap2) wx) := hid (fun wx hx => hX.s.below hx)
     have hc0 := hX.o.cR
     have HCL : Hid (∀ wx, Below wc.heap.size wc wx → wx.cell? ⟨w2.heap.size, 195, none⟩ = some (.slice aR R.length cR)) := hid (fun wx hx => (hx.cell (p := ⟨w2.heap.size, 195, none⟩) (block_lt hc0)).trans hc0)
     have HCA : Hid (∀ wx, Below wc.heap.size wc wx → ∀ o, (wx.alloc o).cell? ⟨w2.heap.size, 195, none⟩ = some (.slice aR R.length cR)) := hid (fun wx hx o => HCL.out _ (hx.alloc hx.size o))
     have HRO : Hid (∀ wx, Below wc.heap.size wc wx → wx.ownsRow (w2.heap.size + 2) 114 1 (.slice aR R.length cR) R.length (R.map (·.1))) := hid (fun wx hx => owns_below hX.r.rr hx)
     have HSZ : Hid (∀ wx (o : Obj), Below wc.heap.size wc wx → w2.heap.size + 2 ≤ (wx.alloc o).heap.size) := hid (fun wx o hx => by have h1 := hx.size; have h2 := hX.z; simp; omega)
     have HFIN := hid (fun wx w5 v v5 hx => hX.addR (wx := wx) (w5 := w5) (v := v) (v5 := v5) (t := 114) (l := rd) hx)
     have n3 : Hid (R.length + 1 ≤ maxLen) := hid (by unfold maxLen; omega)
     have n4 : Hid ((R.length + 1) * 24 ≤ 140737488355328) := hid (by omega)
     refine wp_region_held_drew (S := SB (w2.heap.size + 1) w2.heap.size gx ts tb tc (.slice a2 l.length cap2)) (by kernel_rfl) hX.s.drew (fun hS0 => ?_)
     refine takeQ (some 42) (i := 0) (v := ?v101) rfl rfl (by kernel_rfl) (by kernel_rfl) (by kernel_rfl) (fun _ _ _ h => h) (Or.inl ⟨by rfl, ?h101⟩) hS0 ?r101
     case h101 => (intro w hw; obtain ⟨q0, q1, q2, q3, q4⟩ := hw; go_simp; try (with_reducible rfl))
     try simp only [Act.put, zA, zB, zC]
     refine takeQ (some 43) (i := 1) (v := ?v102) rfl rfl (by kernel_rfl) (by kernel_rfl) (by kernel_rfl) (fun _ _ _ h => h) (Or.inl ⟨by rfl, ?h102⟩) hS0 ?r102
     case h102 => (intro w hw; obtain ⟨q0, q1, q2, q3, q4⟩ := hw; go_simp; try (with_reducible rfl))
     try simp only [Act.put, zA, zB, zC]
     refine takeQ (some 47) (i := 5) (v := ?v103) rfl rfl (by kernel_rfl) (by kernel_rfl) (by kernel_rfl) (fun _ _ _ h => h) (Or.inl ⟨by rfl, ?h103⟩) hS0 ?r103
     case h103 => (intro w hw; obtain ⟨q0, q1, q2, q3, q4⟩ := hw; go_simp; try (with_reducible rfl))
     try simp only [Act.put, zA, zB, zC]
     refine takeQ (some 48) (i := 6) (v := ?v104) rfl rfl (by kernel_rfl) (by kernel_rfl) (by kernel_rfl) (fun _ _ _ h => h) (Or.inl ⟨by rfl, ?h104⟩) hS0 ?r104
     case h104 => (intro w hw; obtain ⟨q0, q1, q2, q3, q4⟩ := hw; go_simp; try (with_reducible rfl))
     try simp only [Act.put, zA, zB, zC]
     refine takeQ (some 49) (i := 7) (v := ?v105) rfl rfl (by kernel_rfl) (by kernel_rfl) (by kernel_rfl) (fun _ _ _ h => h) (Or.inl ⟨by rfl, ?h105⟩) hS0 ?r105
     case h105 => (intro w hw; obtain ⟨q0, q1, q2, q3, q4⟩ := hw; go_simp; try (with_reducible rfl))
     try simp only [Act.put, zA, zB, zC]
     refine takeQ (some 44) (i := 2) (v := ?v106) rfl rfl (by kernel_rfl) (by kernel_rfl) (by kernel_rfl) (fun _ _ _ h => h) (Or.inl ⟨by rfl, ?h106⟩) hS0 ?r106
     case h106 => (intro w hw; obtain ⟨q0, q1, q2, q3, q4⟩ := hw; go_simp; try (with_reducible rfl))
     try simp only [Act.put, zA, zB, zC]
     refine takeQ (some 45) (i := 3) (v := ?v107) rfl rfl (by kernel_rfl) (by kernel_rfl) (by kernel_rfl) (fun _ _ _ h => h) (Or.inl ⟨by rfl, ?h107⟩) hS0 ?r107
     case h107 => (intro w hw; obtain ⟨q0, q1, q2, q3, q4⟩ := hw; go_simp; try (with_reducible rfl))
     try simp only [Act.put, zA, zB, zC]
     refine wpAnyH_ready (rs := [4, 8]) (by kernel_rfl) (by simp) ?_
     refine AllReadyH.cons rfl ?_ (AllReadyH.cons rfl ?_ AllReadyH.nil)
     ·intro KK hKK
      go_simp
      refine hKK.out _ _ hS0 (fun _ => ?_)
      clear hKK KK
      refine wpAnyH_ready (rs := [8]) (by kernel_rfl) (by simp) ?_
      refine AllReadyH.cons rfl ?_ AllReadyH.nil
      intro KK hKK
      go_simp
      refine (CK.out _ kd).mono ?_
      rintro e wx ⟨vx, rfl, hox, hbx⟩
      obtain ⟨ax, cx, hvx⟩ := owns_form hox
      subst hvx
      show KK _ _
      have kk := below_then kd hbx
      have hS1 := HS.out _ kk
      have hcw := HCL.out _ kk
      refine hKK.out _ _ hS1 (fun _ => ?_)
      clear hKK KK
      refine wpAnyH_ready (rs := [9]) (by kernel_rfl) (by simp) ?_
      refine AllReadyH.cons rfl ?_ AllReadyH.nil
      intro KK hKK
      go_simp
      have hS2 := hS1.alloc (.cells #[.slice ax rd.length cx] 114)
      have hcw := HCA.out _ kk (.cells #[.slice ax rd.length cx] 114)
      refine hKK.out _ _ hS2 (fun _ => ?_)
      clear hKK KK
      refine wpAnyH_ready (rs := [10]) (by kernel_rfl) (by simp) ?_
      refine AllReadyH.cons rfl ?_ AllReadyH.nil
      intro KK hKK
      refine step_app _ rfl (.tmp 46) (.tmp 51) 110 rfl (w2.heap.size + 2) 114 i2 (.slice none 0 0) 1 24 Tryz.underlying110 hi2 hza2 hzb2 hzc2 rfl (by decide) (.slice aR R.length cR) R.length (R.map (·.1)) (by simp [Act.eval]) ((HRO.out _ kk).alloc _) ⟨_, 0, none⟩ 1 1 [.slice ax rd.length cx] (by rfl) rfl (cell_one_new _ _ _) (by intro u hu; simp at hu; subst hu; rfl) n3.out n4.out (HSZ.out _ _ kk) ?_
      intro v5 w5 hown5 hg5
      obtain ⟨a5, c5, hv5⟩ := owns_form hown5
      subst hv5
      obtain ⟨hfin, hS5, hfz, hcz⟩ := HFIN.out _ _ _ _ kk hox hown5 hg5
      show KK _ _
      refine hKK.out _ _ hS5 (fun _ => ?_)
      clear hKK KK
      refine takeQ (some 53) (i := 11) (v := ?v108) rfl rfl (by kernel_rfl) (by kernel_rfl) (by kernel_rfl) (fun _ _ _ h => h) (Or.inl ⟨by rfl, ?h108⟩) hS5 ?r108
      case h108 => (intro w hw; obtain ⟨q0, q1, q2, q3, q4⟩ := hw; go_simp; try (with_reducible rfl))
      try simp only [Act.put, List.setIfInBounds_toArray]
      refine takeQ (some 54) (i := 12) (v := ?v109) rfl rfl (by kernel_rfl) (by kernel_rfl) (by kernel_rfl) (fun _ _ _ h => h) (Or.inl ⟨by rfl, ?h109⟩) hS5 ?r109
      case h109 => (intro w hw; obtain ⟨q0, q1, q2, q3, q4⟩ := hw; go_simp; try (with_reducible rfl))
      try simp only [Act.put]
      refine wpAnyH_ready (rs := [13]) (by kernel_rfl) (by simp) ?_
      refine AllReadyH.cons rfl ?_ AllReadyH.nil
      intro KK hKK
      go_simp
      refine hKK.out _ _ hfin.s (fun _ => ?_)
      clear hKK KK
      refine wpAnyH_done (by kernel_rfl) ?_ _
      go_wp2_with fail
      go_meet
      exact ⟨_, _, rfl, hfin⟩
     ·intro KK hKK
      go_simp
      refine (CK.out _ kd).mono ?_
      rintro e wx ⟨vx, rfl, hox, hbx⟩
      obtain ⟨ax, cx, hvx⟩ := owns_form hox
      subst hvx
      show KK _ _
      have kk := below_then kd hbx
      have hS1 := HS.out _ kk
      have hcw := HCL.out _ kk
      refine hKK.out _ _ hS1 (fun _ => ?_)
      clear hKK KK
      refine wpAnyH_ready (rs := [4, 9]) (by kernel_rfl) (by simp) ?_
      refine AllReadyH.cons rfl ?_ (AllReadyH.cons rfl ?_ AllReadyH.nil)
      ·intro KK hKK
       go_simp
       refine hKK.out _ _ hS1 (fun _ => ?_)
       clear hKK KK
       refine wpAnyH_ready (rs := [9]) (by kernel_rfl) (by simp) ?_
       refine AllReadyH.cons rfl ?_ AllReadyH.nil
       intro KK hKK
       go_simp
       have hS2 := hS1.alloc (.cells #[.slice ax rd.length cx] 114)
       have hcw := HCA.out _ kk (.cells #[.slice ax rd.length cx] 114)
       refine hKK.out _ _ hS2 (fun _ => ?_)
       clear hKK KK
       refine wpAnyH_ready (rs := [10]) (by kernel_rfl) (by simp) ?_
       refine AllReadyH.cons rfl ?_ AllReadyH.nil
       intro KK hKK
       refine step_app _ rfl (.tmp 46) (.tmp 51) 110 rfl (w2.heap.size + 2) 114 i2 (.slice none 0 0) 1 24 Tryz.underlying110 hi2 hza2 hzb2 hzc2 rfl (by decide) (.slice aR R.length cR) R.length (R.map (·.1)) (by simp [Act.eval]) ((HRO.out _ kk).alloc _) ⟨_, 0, none⟩ 1 1 [.slice ax rd.length cx] (by rfl) rfl (cell_one_new _ _ _) (by intro u hu; simp at hu; subst hu; rfl) n3.out n4.out (HSZ.out _ _ kk) ?_
       intro v5 w5 hown5 hg5
       obtain ⟨a5, c5, hv5⟩ := owns_form hown5
       subst hv5
       obtain ⟨hfin, hS5, hfz, hcz⟩ := HFIN.out _ _ _ _ kk hox hown5 hg5
       show KK _ _
       refine hKK.out _ _ hS5 (fun _ => ?_)
       clear hKK KK
       refine takeQ (some 53) (i := 11) (v := ?v110) rfl rfl (by kernel_rfl) (by kernel_rfl) (by kernel_rfl) (fun _ _ _ h => h) (Or.inl ⟨by rfl, ?h110⟩) hS5 ?r110
       case h110 => (intro w hw; obtain ⟨q0, q1, q2, q3, q4⟩ := hw; go_simp; try (with_reducible rfl))
       try simp only [Act.put, List.setIfInBounds_toArray]
       refine takeQ (some 54) (i := 12) (v := ?v111) rfl rfl (by kernel_rfl) (by kernel_rfl) (by kernel_rfl) (fun _ _ _ h => h) (Or.inl ⟨by rfl, ?h111⟩) hS5 ?r111
       case h111 => (intro w hw; obtain ⟨q0, q1, q2, q3, q4⟩ := hw; go_simp; try (with_reducible rfl))
       try simp only [Act.put]
       refine wpAnyH_ready (rs := [13]) (by kernel_rfl) (by simp) ?_
       refine AllReadyH.cons rfl ?_ AllReadyH.nil
       intro KK hKK
       go_simp
       refine hKK.out _ _ hfin.s (fun _ => ?_)
       clear hKK KK
       refine wpAnyH_done (by kernel_rfl) ?_ _
       go_wp2_with fail
       go_meet
       exact ⟨_, _, rfl, hfin⟩
      ·intro KK hKK
       go_simp
       have hS2 := hS1.alloc (.cells #[.slice ax rd.length cx] 114)
       have hcw := HCA.out _ kk (.cells #[.slice ax rd.length cx] 114)
       refine hKK.out _ _ hS2 (fun _ => ?_)
       clear hKK KK
       refine wpAnyH_ready (rs := [4]) (by kernel_rfl) (by simp) ?_
       refine AllReadyH.cons rfl ?_ AllReadyH.nil
       intro KK hKK
       go_simp
       refine hKK.out _ _ hS2 (fun _ => ?_)
       clear hKK KK
       refine wpAnyH_ready (rs := [10]) (by kernel_rfl) (by simp) ?_
       refine AllReadyH.cons rfl ?_ AllReadyH.nil
       intro KK hKK
       refine step_app _ rfl (.tmp 46) (.tmp 51) 110 rfl (w2.heap.size + 2) 114 i2 (.slice none 0 0) 1 24 Tryz.underlying110 hi2 hza2 hzb2 hzc2 rfl (by decide) (.slice aR R.length cR) R.length (R.map (·.1)) (by simp [Act.eval]) ((HRO.out _ kk).alloc _) ⟨_, 0, none⟩ 1 1 [.slice ax rd.length cx] (by rfl) rfl (cell_one_new _ _ _) (by intro u hu; simp at hu; subst hu; rfl) n3.out n4.out (HSZ.out _ _ kk) ?_
       intro v5 w5 hown5 hg5
       obtain ⟨a5, c5, hv5⟩ := owns_form hown5
       subst hv5
       obtain ⟨hfin, hS5, hfz, hcz⟩ := HFIN.out _ _ _ _ kk hox hown5 hg5
       show KK _ _
       refine hKK.out _ _ hS5 (fun _ => ?_)
       clear hKK KK
       refine takeQ (some 53) (i := 11) (v := ?v112) rfl rfl (by kernel_rfl) (by kernel_rfl) (by kernel_rfl) (fun _ _ _ h => h) (Or.inl ⟨by rfl, ?h112⟩) hS5 ?r112
       case h112 => (intro w hw; obtain ⟨q0, q1, q2, q3, q4⟩ := hw; go_simp; try (with_reducible rfl))
       try simp only [Act.put, List.setIfInBounds_toArray]
       refine takeQ (some 54) (i := 12) (v := ?v113) rfl rfl (by kernel_rfl) (by kernel_rfl) (by kernel_rfl) (fun _ _ _ h => h) (Or.inl ⟨by rfl, ?h113⟩) hS5 ?r113
       case h113 => (intro w hw; obtain ⟨q0, q1, q2, q3, q4⟩ := hw; go_simp; try (with_reducible rfl))
       try simp only [Act.put]
       refine wpAnyH_ready (rs := [13]) (by kernel_rfl) (by simp) ?_
       refine AllReadyH.cons rfl ?_ AllReadyH.nil
       intro KK hKK
       go_simp
       refine hKK.out _ _ hfin.s (fun _ => ?_)
       clear hKK KK
       refine wpAnyH_done (by kernel_rfl) ?_ _
       go_wp2_with fail
       go_meet
       exact ⟨_, _, rfl, hfin⟩
    case rest =>
     obtain ⟨vr5, vy, rfl, hX5⟩ := hcut
     clear hX
     have hX := hX5
     clear hX5
     have hOps1 := HOPF.out wc hX.b
     have hMc := hM.below hX.b
     have kd := (Below.refl wc.heap.size wc).drew
     have HSO : Hid (∃ so, so = (!(refReads l).any (badFr (wrTo h h.length) (k : Int)) && steadyL l)) := hid ⟨_, rfl⟩
     obtain ⟨so, hso⟩ := HSO.out
     have HSO2 := hid hso
     clear hso HSO
     have CK : Hid (∀ wx, Below wc.heap.size wc wx → Calls Tryz.prog 55 #[.int .i64 k, .agg #[.int .i64 ts, .int .i64 tb, .int .i64 tc, .slice a2 l.length cap2], .map (some bm)] wx fun e w' => e = .returned (.bool so) ∧ Below wx.heap.size wx w') := hid (fun wx hx => (osound_any (k : Int) ts tb tc _ l (wrTo h h.length) bm _ _ wx (hOps1.below hx) HOL.out (by omega) (hMc.below hx)).mono (fun e w' ⟨out, he, hr, _, hbb⟩ => by
      obtain rfl := hr.eq (refReads_rise HKL.out)
      rw [← HSO2.out] at he
      exact ⟨he, hbb⟩))
     have HK0 : Hid ((K ++ [(vx, keysOf l)]).map (·.2) = keysTo h (k + 1) ∧ (R ++ [(vy, rd)]).map (·.2) = readsTo h (k + 1) ∧ (sd && so) = soundTo h (k + 1)) := hid (by
      refine ⟨?_, ?_, ?_⟩
      ·rw [List.map_append, keysTo_succ, ← HK.out.1, HLK.out]; rfl
      ·rw [List.map_append, readsTo_succ, ← HK.out.2.1]
       unfold readsOf
       rw [HLK.out, ← HRD2.out]; rfl
      ·rw [soundTo_succ, ← HK.out.2.2]
       unfold soundOf
       rw [HLK.out, ← HSO2.out])
     go_upto_region 11 with fail
     cases sd
     ·have HK1 : Hid ((K ++ [(vx, keysOf l)]).map (·.2) = keysTo h (k + 1) ∧ (R ++ [(vy, rd)]).map (·.2) = readsTo h (k + 1) ∧ false = soundTo h (k + 1)) := hid HK0.out
      clear HK0
      refine wp_region_held_drew (S := SB (w2.heap.size + 1) w2.heap.size gx ts tb tc (.slice a2 l.length cap2)) (by kernel_rfl) hX.s.drew (fun hS0 => ?_)
      have hc0 := hX.o.cS
      refine takeQ (some 55) (i := 0) (v := ?v201) rfl rfl (by kernel_rfl) (by kernel_rfl) (by kernel_rfl) (fun _ _ _ h => h) (Or.inl ⟨by rfl, ?h201⟩) hS0 ?r201
      case h201 => (intro w hw; obtain ⟨q0, q1, q2, q3, q4⟩ := hw; go_simp; try (with_reducible rfl))
      try simp only [Act.put, zA, zB, zC]
      refine takeQ (some 56) (i := 1) (v := ?v202) rfl rfl (by kernel_rfl) (by kernel_rfl) (by kernel_rfl) (fun _ _ _ h => h) (Or.inl ⟨by rfl, ?h202⟩) hS0 ?r202
      case h202 => (intro w hw; obtain ⟨q0, q1, q2, q3, q4⟩ := hw; go_simp; try (with_reducible rfl))
      try simp only [Act.put, zA, zB, zC]
      refine takeQ (some 57) (i := 2) (v := ?v203) rfl rfl (by kernel_rfl) (by kernel_rfl) (by kernel_rfl) (fun _ _ _ h => h) (Or.inl ⟨by rfl, ?h203⟩) hS0 ?r203
      case h203 => (intro w hw; obtain ⟨q0, q1, q2, q3, q4⟩ := hw; go_simp; try (with_reducible rfl))
      try simp only [Act.put, zA, zB, zC]
      refine takeQ (some 58) (i := 3) (v := ?v204) rfl rfl (by kernel_rfl) (by kernel_rfl) (by kernel_rfl) (fun _ _ _ h => h) (Or.inl ⟨by rfl, ?h204⟩) hS0 ?r204
      case h204 => (intro w hw; obtain ⟨q0, q1, q2, q3, q4⟩ := hw; go_simp; try (with_reducible rfl))
      try simp only [Act.put, zA, zB, zC]
      refine wpAnyH_ready (rs := [4]) (by kernel_rfl) (by simp) ?_
      refine AllReadyH.cons rfl ?_ AllReadyH.nil
      intro KK hKK
      go_simp
      refine hKK.out _ _ hS0 (fun _ => ?_)
      clear hKK KK
      refine takeQ (some 60) (i := 5) (v := ?v205) rfl rfl (by kernel_rfl) (by kernel_rfl) (by kernel_rfl) (fun _ _ _ h => h) (Or.inl ⟨by rfl, ?h205⟩) hS0 ?r205
      case h205 => (intro w hw; obtain ⟨q0, q1, q2, q3, q4⟩ := hw; go_simp; try (with_reducible rfl))
      try simp only [Act.put, zA, zB, zC]
      refine takeQ (some 61) (i := 6) (v := undef) rfl rfl (by kernel_rfl) (by kernel_rfl) (by kernel_rfl) (fun _ _ _ h => h) (Or.inr ⟨by rfl, rfl⟩) hS0 ?_
      try simp only [Act.put, zA, zB, zC]
      refine takeQ (some 62) (i := 7) (v := undef) rfl rfl (by kernel_rfl) (by kernel_rfl) (by kernel_rfl) (fun _ _ _ h => h) (Or.inr ⟨by rfl, rfl⟩) hS0 ?_
      try simp only [Act.put, zA, zB, zC]
      refine takeQ (some 63) (i := 8) (v := undef) rfl rfl (by kernel_rfl) (by kernel_rfl) (by kernel_rfl) (fun _ _ _ h => h) (Or.inr ⟨by rfl, rfl⟩) hS0 ?_
      try simp only [Act.put, zA, zB, zC]
      refine wpAnyH_ready (rs := [9]) (by kernel_rfl) (by simp) ?_
      refine AllReadyH.cons rfl ?_ AllReadyH.nil
      intro KK hKK
      go_simp
      have hY := hX.below kd
      have hf := hY.o.free (i := 196) (by omega)
      have hc := hY.o.cS
      refine hKK.out _ _ hS0 (fun _ => ?_)
      clear hKK KK
      refine takeQ (some 65) (i := 10) (v := ?v206) rfl rfl (by kernel_rfl) (by kernel_rfl) (by kernel_rfl) (fun _ _ _ h => h) (Or.inl ⟨by rfl, ?h206⟩) hS0 ?r206
      case h206 => (intro w hw; obtain ⟨q0, q1, q2, q3, q4⟩ := hw; go_simp; try (with_reducible rfl))
      try simp only [Act.put, zA, zB, zC]
      refine takeQ (some 66) (i := 11) (v := ?v207) rfl rfl (by kernel_rfl) (by kernel_rfl) (by kernel_rfl) (fun _ _ _ h => h) (Or.inl ⟨by rfl, ?h207⟩) hS0 ?r207
      case h207 => (intro w hw; obtain ⟨q0, q1, q2, q3, q4⟩ := hw; go_simp; try (with_reducible rfl))
      try simp only [Act.put, zA, zB, zC]
      refine takeQ (some 67) (i := 12) (v := ?v208) rfl rfl (by kernel_rfl) (by kernel_rfl) (by kernel_rfl) (fun _ _ _ h => h) (Or.inl ⟨by rfl, ?h208⟩) hS0 ?r208
      case h208 => (intro w hw; obtain ⟨q0, q1, q2, q3, q4⟩ := hw; go_simp; try (with_reducible rfl))
      try simp only [Act.put, zA, zB, zC]
      refine wpAnyH_ready (rs := [13]) (by kernel_rfl) (by simp) ?_
      refine AllReadyH.cons rfl ?_ AllReadyH.nil
      intro KK hKK
      go_simp
      have hZ := hY.setS false
      refine hKK.out _ _ hZ.s (fun _ => ?_)
      clear hKK KK
      refine wpAnyH_done (by kernel_rfl) ?_ _
      clear hX hY CK kd hc hf hS0
      go_wp2_with fail
      go_roundw
      case rel => exact ⟨k + 1, _, _, _, _, _, by omega, by go_num, HK1.out.1, HK1.out.2.1, HK1.out.2.2, hZ.o, hZ.s.1, hZ.r, hZ.b, hZ.z⟩
      case measure => simp [intOf]; omega
     ·have HK1 : Hid ((K ++ [(vx, keysOf l)]).map (·.2) = keysTo h (k + 1) ∧ (R ++ [(vy, rd)]).map (·.2) = readsTo h (k + 1) ∧ so = soundTo h (k + 1)) := hid HK0.out
      clear HK0
      refine wp_region_held_drew (S := SB (w2.heap.size + 1) w2.heap.size gx ts tb tc (.slice a2 l.length cap2)) (by kernel_rfl) hX.s.drew (fun hS0 => ?_)
      have hc0 := hX.o.cS
      refine takeQ (some 55) (i := 0) (v := ?v301) rfl rfl (by kernel_rfl) (by kernel_rfl) (by kernel_rfl) (fun _ _ _ h => h) (Or.inl ⟨by rfl, ?h301⟩) hS0 ?r301
      case h301 => (intro w hw; obtain ⟨q0, q1, q2, q3, q4⟩ := hw; go_simp; try (with_reducible rfl))
      try simp only [Act.put, zA, zB, zC]
      refine takeQ (some 56) (i := 1) (v := ?v302) rfl rfl (by kernel_rfl) (by kernel_rfl) (by kernel_rfl) (fun _ _ _ h => h) (Or.inl ⟨by rfl, ?h302⟩) hS0 ?r302
      case h302 => (intro w hw; obtain ⟨q0, q1, q2, q3, q4⟩ := hw; go_simp; try (with_reducible rfl))
      try simp only [Act.put, zA, zB, zC]
      refine takeQ (some 57) (i := 2) (v := ?v303) rfl rfl (by kernel_rfl) (by kernel_rfl) (by kernel_rfl) (fun _ _ _ h => h) (Or.inl ⟨by rfl, ?h303⟩) hS0 ?r303
      case h303 => (intro w hw; obtain ⟨q0, q1, q2, q3, q4⟩ := hw; go_simp; try (with_reducible rfl))
      try simp only [Act.put, zA, zB, zC]
      refine takeQ (some 58) (i := 3) (v := ?v304) rfl rfl (by kernel_rfl) (by kernel_rfl) (by kernel_rfl) (fun _ _ _ h => h) (Or.inl ⟨by rfl, ?h304⟩) hS0 ?r304
      case h304 => (intro w hw; obtain ⟨q0, q1, q2, q3, q4⟩ := hw; go_simp; try (with_reducible rfl))
      try simp only [Act.put, zA, zB, zC]
      refine wpAnyH_ready (rs := [4]) (by kernel_rfl) (by simp) ?_
      refine AllReadyH.cons rfl ?_ AllReadyH.nil
      intro KK hKK
      go_simp
      refine hKK.out _ _ hS0 (fun _ => ?_)
      clear hKK KK
      refine takeQ (some 60) (i := 5) (v := ?v305) rfl rfl (by kernel_rfl) (by kernel_rfl) (by kernel_rfl) (fun _ _ _ h => h) (Or.inl ⟨by rfl, ?h305⟩) hS0 ?r305
      case h305 => (intro w hw; obtain ⟨q0, q1, q2, q3, q4⟩ := hw; go_simp; try (with_reducible rfl))
      try simp only [Act.put, zA, zB, zC]
      refine takeQ (some 61) (i := 6) (v := ?v306) rfl rfl (by kernel_rfl) (by kernel_rfl) (by kernel_rfl) (fun _ _ _ h => h) (Or.inl ⟨by rfl, ?h306⟩) hS0 ?r306
      case h306 => (intro w hw; obtain ⟨q0, q1, q2, q3, q4⟩ := hw; go_simp; try (with_reducible rfl))
      try simp only [Act.put, zA, zB, zC]
      refine takeQ (some 62) (i := 7) (v := ?v307) rfl rfl (by kernel_rfl) (by kernel_rfl) (by kernel_rfl) (fun _ _ _ h => h) (Or.inl ⟨by rfl, ?h307⟩) hS0 ?r307
      case h307 => (intro w hw; obtain ⟨q0, q1, q2, q3, q4⟩ := hw; go_simp; try (with_reducible rfl))
      try simp only [Act.put, zA, zB, zC]
      refine takeQ (some 63) (i := 8) (v := ?v308) rfl rfl (by kernel_rfl) (by kernel_rfl) (by kernel_rfl) (fun _ _ _ h => h) (Or.inl ⟨by rfl, ?h308⟩) hS0 ?r308
      case h308 => (intro w hw; obtain ⟨q0, q1, q2, q3, q4⟩ := hw; go_simp; try (with_reducible rfl))
      try simp only [Act.put, zA, zB, zC]
      refine wpAnyH_ready (rs := [9]) (by kernel_rfl) (by simp) ?_
      refine AllReadyH.cons rfl ?_ AllReadyH.nil
      intro KK hKK
      go_simp
      refine (CK.out _ kd).mono ?_
      rintro e wx ⟨rfl, hbx⟩
      show KK _ _
      have kk := below_then kd hbx
      have hY := hX.below kk
      have hf := hY.o.free (i := 196) (by omega)
      have hc := hY.o.cS
      refine hKK.out _ _ hY.s (fun _ => ?_)
      clear hKK KK
      refine takeQ (some 65) (i := 10) (v := ?v309) rfl rfl (by kernel_rfl) (by kernel_rfl) (by kernel_rfl) (fun _ _ _ h => h) (Or.inl ⟨by rfl, ?h309⟩) hY.s ?r309
      case h309 => (intro w hw; obtain ⟨q0, q1, q2, q3, q4⟩ := hw; go_simp; try (with_reducible rfl))
      try simp only [Act.put, zA, zB, zC]
      refine takeQ (some 66) (i := 11) (v := ?v310) rfl rfl (by kernel_rfl) (by kernel_rfl) (by kernel_rfl) (fun _ _ _ h => h) (Or.inl ⟨by rfl, ?h310⟩) hY.s ?r310
      case h310 => (intro w hw; obtain ⟨q0, q1, q2, q3, q4⟩ := hw; go_simp; try (with_reducible rfl))
      try simp only [Act.put, zA, zB, zC]
      refine takeQ (some 67) (i := 12) (v := ?v311) rfl rfl (by kernel_rfl) (by kernel_rfl) (by kernel_rfl) (fun _ _ _ h => h) (Or.inl ⟨by rfl, ?h311⟩) hY.s ?r311
      case h311 => (intro w hw; obtain ⟨q0, q1, q2, q3, q4⟩ := hw; go_simp; try (with_reducible rfl))
      try simp only [Act.put, zA, zB, zC]
      refine wpAnyH_ready (rs := [13]) (by kernel_rfl) (by simp) ?_
      refine AllReadyH.cons rfl ?_ AllReadyH.nil
      intro KK hKK
      go_simp
      have hZ := hY.setS so
      refine hKK.out _ _ hZ.s (fun _ => ?_)
      clear hKK KK
      refine wpAnyH_done (by kernel_rfl) ?_ _
      clear hX hY CK kd hc hf hS0 kk hbx
      go_wp2_with fail
      go_roundw
      case rel => exact ⟨k + 1, _, _, _, _, _, by omega, by go_num, HK1.out.1, HK1.out.2.1, HK1.out.2.2, hZ.o, hZ.s.1, hZ.r, hZ.b, hZ.z⟩
      case measure => simp [intOf]; omega
  ·have hkl : k = h.length := by omega
   subst hkl
   have hA4 := (hb.cell (p := ⟨w.heap.size, 0, none⟩) hlt).trans hA2
   have hbw := below_then hb4 hb
   have hX : OfT w2 w.heap.size (.slice ao h.length cap) h.length noR noR noR (.map none) vk vr sd K R wr := ⟨hO, ⟨hC, hA4⟩, hF, hb, hlt⟩
   have hKl : K.length ≤ 64 := by have := congrArg List.length HK.out.1; simp [keysTo] at this; omega
   obtain ⟨aK, cK, rfl⟩ := owns_form hX.r.kr
   obtain ⟨aR, cR, rfl⟩ := owns_form hX.r.rr
   have HKE : Hid (∀ p ∈ K, p.2.length ≤ 64 ∧ ∀ x ∈ p.2, InI x) := hid (fun p hp => by
    have hm : p.2 ∈ keysTo h h.length := by rw [← HK.out.1]; exact List.mem_map.2 ⟨p, hp, rfl⟩
    unfold keysTo at hm
    obtain ⟨i, hi, he⟩ := List.mem_map.1 hm
    have hil := List.mem_range.1 hi
    rw [← he]
    unfold keysOf
    refine ⟨by rw [List.length_map]; exact upTo_len _ 64, fun x hx => ?_⟩
    obtain ⟨q, hq, rfl⟩ := List.mem_map.1 hx
    have hq2 := lastW_key ((((refWrites_rise (by rw [opsAt_eq hil]; exact HKS.out _ (List.getElem_mem hil))).2 q).1 hq).1)
    exact inI_of (((HOK.out _ (List.getElem_mem hil)).2 q (by rw [← opsAt_eq hil]; exact hq2.2.2)).1))
   have kd := (Below.refl wr.heap.size wr).drew
   have CWR : Hid (∀ wx, Below wr.heap.size wr wx → Calls Tryz.prog 56 #[.slice aK K.length cK] wx fun e w' => ∃ b n c, e = .returned (.map (some b)) ∧ wx.heap.size ≤ b ∧ MapI eS Tryz.prog 3 w' b n (wrsTo K K.length) c ∧ AllSet (wrsTo K K.length) ∧ Below wx.heap.size wx w') := hid (fun wx hx => owriters_any _ K wx ((hX.r.below hx).rws) (by omega) (fun p hp => by have := (HKE.out p hp).1; omega) (fun p hp => (HKE.out p hp).2))
   have hmf : ∀ (fn : Fn) (first cap : Array Value) (w : World), (Instr.makeFunc fn first cap).run Tryz.prog w = .ok (.func fn first cap) w := fun _ _ _ _ => rfl
   clear hO hC hF hb hA4 hbw
   go_wp2_with fail
   refine wp_region_held_drew (S := SA (w2.heap.size + 1) w2.heap.size w.heap.size (.slice ao h.length cap)) (by kernel_rfl) hX.drew.s (fun hS0 => ?_)
   have hc0 := hX.o.cK
   refine takeQ (some 69) (i := 0) (v := ?v401) rfl rfl (by kernel_rfl) (by kernel_rfl) (by kernel_rfl) (fun _ _ _ h => h) (Or.inl ⟨by rfl, ?h401⟩) hS0 ?r401
   case h401 => (intro w hw; obtain ⟨q0, q1⟩ := hw; go_simp; try (with_reducible rfl))
   try simp only [Act.put, zA, zB, zC]
   refine takeQ (some 70) (i := 1) (v := ?v402) rfl rfl (by kernel_rfl) (by kernel_rfl) (by kernel_rfl) (fun _ _ _ h => h) (Or.inl ⟨by rfl, ?h402⟩) hS0 ?r402
   case h402 => (intro w hw; obtain ⟨q0, q1⟩ := hw; go_simp; try (with_reducible rfl))
   try simp only [Act.put, zA, zB, zC]
   refine takeQ (some 71) (i := 2) (v := ?v403) rfl rfl (by kernel_rfl) (by kernel_rfl) (by kernel_rfl) (fun _ _ _ h => h) (Or.inl ⟨by rfl, ?h403⟩) hS0 ?r403
   case h403 => (intro w hw; obtain ⟨q0, q1⟩ := hw; go_simp; try (with_reducible rfl))
   try simp only [Act.put, zA, zB, zC]
   refine takeQ (some 72) (i := 3) (v := ?v404) rfl rfl (by kernel_rfl) (by kernel_rfl) (by kernel_rfl) (fun _ _ _ h => h) (Or.inl ⟨by rfl, ?h404⟩) hS0 ?r404
   case h404 => (intro w hw; obtain ⟨q0, q1⟩ := hw; go_simp; try (with_reducible rfl))
   try simp only [Act.put, zA, zB, zC]
   refine wpAnyH_ready (rs := [4]) (by kernel_rfl) (by simp) ?_
   refine AllReadyH.cons rfl ?_ AllReadyH.nil
   intro KK hKK
   go_simp
   refine hKK.out _ _ hS0 (fun _ => ?_)
   clear hKK KK
   refine wpAnyH_ready (rs := [5]) (by kernel_rfl) (by simp) ?_
   refine AllReadyH.cons rfl ?_ AllReadyH.nil
   intro KK hKK
   go_simp
   refine (CWR.out _ kd).mono ?_
   rintro e wx ⟨bw, nw, cw, rfl, hbw, hMw, hAw, hbx⟩
   show KK _ _
   have hY := hX.below (below_then kd hbx)
   have hbB : w2.heap.size < bw := by have h1 := hX.b.size; have h2 := hX.o.lt; have h3 := kd.size; omega
   have hf := hY.o.free (i := 193) (by omega)
   have hc := hY.o.cM
   refine hKK.out _ _ hY.s (fun _ => ?_)
   clear hKK KK
   refine takeQ (some 75) (i := 6) (v := ?v405) rfl rfl (by kernel_rfl) (by kernel_rfl) (by kernel_rfl) (fun _ _ _ h => h) (Or.inl ⟨by rfl, ?h405⟩) hY.s ?r405
   case h405 => (intro w hw; obtain ⟨q0, q1⟩ := hw; go_simp; try (with_reducible rfl))
   try simp only [Act.put, zA, zB, zC]
   refine takeQ (some 76) (i := 7) (v := ?v406) rfl rfl (by kernel_rfl) (by kernel_rfl) (by kernel_rfl) (fun _ _ _ h => h) (Or.inl ⟨by rfl, ?h406⟩) hY.s ?r406
   case h406 => (intro w hw; obtain ⟨q0, q1⟩ := hw; go_simp; try (with_reducible rfl))
   try simp only [Act.put, zA, zB, zC]
   refine wpAnyH_ready (rs := [8]) (by kernel_rfl) (by simp) ?_
   refine AllReadyH.cons rfl ?_ AllReadyH.nil
   intro KK hKK
   go_simp
   have hX13 := hY.setM (.map (some bw))
   have hM13 := hMw.cell (a := ⟨w2.heap.size, 193, none⟩) (by simp; omega) (.map (some bw))
   refine hKK.out _ _ hX13.s (fun _ => ?_)
   clear hKK KK
   refine wpAnyH_done (by kernel_rfl) ?_ _
   clear hX hY kd CWR hc hf hc0 hS0 hMw
   generalize wx.setCell ⟨w2.heap.size, 193, none⟩ (.map (some bw)) = w3 at *
   have hX := hX13
   have hM3 := hM13
   clear hX13 hM13
   have kd := (Below.refl w3.heap.size w3).drew
   have CP : Hid (∀ wx, Below w3.heap.size w3 wx → Calls Tryz.prog 57 #[.int .i64 h.length, .func (.func 58) #[] #[.pointer (some ⟨w.heap.size, 0, none⟩)]] wx fun e w' => e = .returned (.agg (rowsA (sesM h))) ∧ Below wx.heap.size wx w') := hid (fun wx hx => pairs_any (sesP h) h.length (by omega) _ _ wx enters_ses (fun a b wy ha hb hy => ses_calls _ h _ a b wy ((hX.below (below_then hx hy)).s.2) (HT.out _ (below_then hb4 (hX.below (below_then hx hy)).b)) ha hb))
   go_wp2_with fail
   refine wp_region_held_drew (S := SA (w2.heap.size + 1) w2.heap.size w.heap.size (.slice ao h.length cap)) (by kernel_rfl) hX.drew.s (fun hS0 => ?_)
   refine takeQ (some 77) (i := 0) (v := ?v501) rfl rfl (by kernel_rfl) (by kernel_rfl) (by kernel_rfl) (fun _ _ _ h => h) (Or.inl ⟨by rfl, ?h501⟩) hS0 ?r501
   case h501 => (intro w hw; obtain ⟨q0, q1⟩ := hw; go_simp; try (with_reducible rfl))
   try simp only [Act.put, zA, zB, zC]
   refine takeQ (some 78) (i := 1) (v := ?v502) rfl rfl (by kernel_rfl) (by kernel_rfl) (by kernel_rfl) (fun _ _ _ h => h) (Or.inl ⟨by rfl, ?h502⟩) hS0 ?r502
   case h502 => (intro w hw; obtain ⟨q0, q1⟩ := hw; go_simp; try (with_reducible rfl))
   try simp only [Act.put, zA, zB, zC]
   refine takeQ (some 79) (i := 2) (v := ?v503) rfl rfl (by kernel_rfl) (by kernel_rfl) (by kernel_rfl) (fun _ _ _ h => h) (Or.inl ⟨by rfl, ?h503⟩) hS0 ?r503
   case h503 => (intro w hw; obtain ⟨q0, q1⟩ := hw; go_simp; try (with_reducible rfl))
   try simp only [Act.put, zA, zB, zC]
   refine takeQ (some 80) (i := 3) (v := ?v504) rfl rfl (by kernel_rfl) (by kernel_rfl) (by kernel_rfl) (fun _ _ _ h => h) (Or.inl ⟨by rfl, ?h504⟩) hS0 ?r504
   case h504 => (intro w hw; obtain ⟨q0, q1⟩ := hw; go_simp; try (with_reducible rfl))
   try simp only [Act.put, zA, zB, zC]
   refine wpAnyH_ready (rs := [4]) (by kernel_rfl) (by simp) ?_
   refine AllReadyH.cons rfl ?_ AllReadyH.nil
   intro KK hKK
   go_simp
   refine (CP.out _ kd).mono ?_
   rintro e wx ⟨rfl, hbx⟩
   show KK _ _
   have kk := below_then kd hbx
   have hY := hX.below kk
   have hMY := hM3.below kk
   refine hKK.out _ _ hY.s (fun _ => ?_)
   clear hKK KK
   refine takeQ (some 82) (i := 5) (v := ?v505) rfl rfl (by kernel_rfl) (by kernel_rfl) (by kernel_rfl) (fun _ _ _ h => h) (Or.inl ⟨by rfl, ?h505⟩) hY.s ?r505
   case h505 => (intro w hw; obtain ⟨q0, q1⟩ := hw; go_simp; try (with_reducible rfl))
   try simp only [Act.put, List.setIfInBounds_toArray]
   refine takeQ (some 83) (i := 6) (v := ?v506) rfl rfl (by kernel_rfl) (by kernel_rfl) (by kernel_rfl) (fun _ _ _ h => h) (Or.inl ⟨by rfl, ?h506⟩) hY.s ?r506
   case h506 => (intro w hw; obtain ⟨q0, q1⟩ := hw; go_simp; try (with_reducible rfl))
   try simp only [Act.put]
   refine wpAnyH_ready (rs := [7]) (by kernel_rfl) (by simp) ?_
   refine AllReadyH.cons rfl ?_ AllReadyH.nil
   intro KK hKK
   rw [if_pos (by rfl)]
   refine wp_store_mid 108 (.tmp 83) (.tmp 81) rfl w2.heap.size 1 (rowsA (sesM h)) rfl rfl (by rw [rowsA_size]; exact hY.o.there 1 (by omega)) (infoRel' _) (rows_one _) ?_
   have hXn := hY.setS (sesM h)
   have hMn := MapI.cells (g := w2.heap.size) (by omega) (rowsA (sesM h)).toList 1 _ hMY
   refine hKK.out _ _ hXn.s (fun _ => ?_)
   clear hKK KK
   refine wpAnyH_done (by kernel_rfl) ?_ _
   clear hX hM3 hY kd CP hS0 hMY kk hbx
   generalize wx.setCells w2.heap.size 1 (rowsA (sesM h)).toList = w3 at *
   have hX := hXn
   have hM3 := hMn
   clear hXn hMn
   have kd := (Below.refl w3.heap.size w3).drew
   have CP : Hid (∀ wx, Below w3.heap.size w3 wx → Calls Tryz.prog 57 #[.int .i64 h.length, .func (.func 59) #[] #[.pointer (some ⟨w.heap.size, 0, none⟩)]] wx fun e w' => e = .returned (.agg (rowsA (timM h))) ∧ Below wx.heap.size wx w') := hid (fun wx hx => pairs_any (timP h) h.length (by omega) _ _ wx enters_tim (fun a b wy ha hb hy => tim_calls _ h _ a b wy ((hX.below (below_then hx hy)).s.2) (HT.out _ (below_then hb4 (hX.below (below_then hx hy)).b)) ha hb))
   go_wp2_with fail
   refine wp_region_held_drew (S := SA (w2.heap.size + 1) w2.heap.size w.heap.size (.slice ao h.length cap)) (by kernel_rfl) hX.drew.s (fun hS0 => ?_)
   refine takeQ (some 84) (i := 0) (v := ?v601) rfl rfl (by kernel_rfl) (by kernel_rfl) (by kernel_rfl) (fun _ _ _ h => h) (Or.inl ⟨by rfl, ?h601⟩) hS0 ?r601
   case h601 => (intro w hw; obtain ⟨q0, q1⟩ := hw; go_simp; try (with_reducible rfl))
   try simp only [Act.put, zA, zB, zC]
   refine takeQ (some 85) (i := 1) (v := ?v602) rfl rfl (by kernel_rfl) (by kernel_rfl) (by kernel_rfl) (fun _ _ _ h => h) (Or.inl ⟨by rfl, ?h602⟩) hS0 ?r602
   case h602 => (intro w hw; obtain ⟨q0, q1⟩ := hw; go_simp; try (with_reducible rfl))
   try simp only [Act.put]
   refine takeQ (some 86) (i := 2) (v := ?v603) rfl rfl (by kernel_rfl) (by kernel_rfl) (by kernel_rfl) (fun _ _ _ h => h) (Or.inl ⟨by rfl, ?h603⟩) hS0 ?r603
   case h603 => (intro w hw; obtain ⟨q0, q1⟩ := hw; go_simp; try (with_reducible rfl))
   try simp only [Act.put]
   refine takeQ (some 87) (i := 3) (v := ?v604) rfl rfl (by kernel_rfl) (by kernel_rfl) (by kernel_rfl) (fun _ _ _ h => h) (Or.inl ⟨by rfl, ?h604⟩) hS0 ?r604
   case h604 => (intro w hw; obtain ⟨q0, q1⟩ := hw; go_simp; try (with_reducible rfl))
   try simp only [Act.put]
   refine wpAnyH_ready (rs := [4]) (by kernel_rfl) (by simp) ?_
   refine AllReadyH.cons rfl ?_ AllReadyH.nil
   intro KK hKK
   go_simp
   refine (CP.out _ kd).mono ?_
   rintro e wx ⟨rfl, hbx⟩
   show KK _ _
   have kk := below_then kd hbx
   have hY := hX.below kk
   have hMY := hM3.below kk
   refine hKK.out _ _ hY.s (fun _ => ?_)
   clear hKK KK
   refine takeQ (some 89) (i := 5) (v := ?v605) rfl rfl (by kernel_rfl) (by kernel_rfl) (by kernel_rfl) (fun _ _ _ h => h) (Or.inl ⟨by rfl, ?h605⟩) hY.s ?r605
   case h605 => (intro w hw; obtain ⟨q0, q1⟩ := hw; go_simp; try (with_reducible rfl))
   try simp only [Act.put, List.setIfInBounds_toArray]
   refine takeQ (some 90) (i := 6) (v := ?v606) rfl rfl (by kernel_rfl) (by kernel_rfl) (by kernel_rfl) (fun _ _ _ h => h) (Or.inl ⟨by rfl, ?h606⟩) hY.s ?r606
   case h606 => (intro w hw; obtain ⟨q0, q1⟩ := hw; go_simp; try (with_reducible rfl))
   try simp only [Act.put]
   refine wpAnyH_ready (rs := [7]) (by kernel_rfl) (by simp) ?_
   refine AllReadyH.cons rfl ?_ AllReadyH.nil
   intro KK hKK
   rw [if_pos (by rfl)]
   refine wp_store_mid 108 (.tmp 90) (.tmp 88) rfl w2.heap.size 65 (rowsA (timM h)) rfl rfl (by rw [rowsA_size]; exact hY.o.there 65 (by omega)) (infoRel' _) (rows_one _) ?_
   have hXn := hY.setT (timM h)
   have hMn := MapI.cells (g := w2.heap.size) (by omega) (rowsA (timM h)).toList 65 _ hMY
   refine hKK.out _ _ hXn.s (fun _ => ?_)
   clear hKK KK
   refine wpAnyH_done (by kernel_rfl) ?_ _
   clear hX hM3 hY kd CP hS0 hMY kk hbx
   generalize wx.setCells w2.heap.size 65 (rowsA (timM h)).toList = w3 at *
   have hX := hXn
   have hM3 := hMn
   clear hXn hMn
   have kd := (Below.refl w3.heap.size w3).drew
   have CP : Hid (∀ wx, Below w3.heap.size w3 wx → Calls Tryz.prog 57 #[.int .i64 h.length, .func (.func 60) #[] #[.pointer (some ⟨w2.heap.size + 1, 0, none⟩)]] wx fun e w' => e = .returned (.agg (rowsA (froM h))) ∧ Below wx.heap.size wx w') := hid (fun wx hx => pairs_any (froP h) h.length (by omega) _ _ wx enters_fro (fun a b wy ha hb hy => fro_calls _ h R _ _ a b wy ((hX.below (below_then hx hy)).s.1) ((hX.below (below_then hx hy)).o.cR) ((hX.below (below_then hx hy)).r.frws) HK.out.2.1 hb))
   go_wp2_with fail
   refine wp_region_held_drew (S := SA (w2.heap.size + 1) w2.heap.size w.heap.size (.slice ao h.length cap)) (by kernel_rfl) hX.drew.s (fun hS0 => ?_)
   refine takeQ (some 91) (i := 0) (v := ?v701) rfl rfl (by kernel_rfl) (by kernel_rfl) (by kernel_rfl) (fun _ _ _ h => h) (Or.inl ⟨by rfl, ?h701⟩) hS0 ?r701
   case h701 => (intro w hw; obtain ⟨q0, q1⟩ := hw; go_simp; try (with_reducible rfl))
   try simp only [Act.put, zA, zB, zC]
   refine takeQ (some 92) (i := 1) (v := ?v702) rfl rfl (by kernel_rfl) (by kernel_rfl) (by kernel_rfl) (fun _ _ _ h => h) (Or.inl ⟨by rfl, ?h702⟩) hS0 ?r702
   case h702 => (intro w hw; obtain ⟨q0, q1⟩ := hw; go_simp; try (with_reducible rfl))
   try simp only [Act.put]
   refine takeQ (some 93) (i := 2) (v := ?v703) rfl rfl (by kernel_rfl) (by kernel_rfl) (by kernel_rfl) (fun _ _ _ h => h) (Or.inl ⟨by rfl, ?h703⟩) hS0 ?r703
   case h703 => (intro w hw; obtain ⟨q0, q1⟩ := hw; go_simp; try (with_reducible rfl))
   try simp only [Act.put]
   refine takeQ (some 94) (i := 3) (v := ?v704) rfl rfl (by kernel_rfl) (by kernel_rfl) (by kernel_rfl) (fun _ _ _ h => h) (Or.inl ⟨by rfl, ?h704⟩) hS0 ?r704
   case h704 => (intro w hw; obtain ⟨q0, q1⟩ := hw; go_simp; try (with_reducible rfl))
   try simp only [Act.put]
   refine wpAnyH_ready (rs := [4]) (by kernel_rfl) (by simp) ?_
   refine AllReadyH.cons rfl ?_ AllReadyH.nil
   intro KK hKK
   go_simp
   refine (CP.out _ kd).mono ?_
   rintro e wx ⟨rfl, hbx⟩
   show KK _ _
   have kk := below_then kd hbx
   have hY := hX.below kk
   have hMY := hM3.below kk
   refine hKK.out _ _ hY.s (fun _ => ?_)
   clear hKK KK
   refine takeQ (some 96) (i := 5) (v := ?v705) rfl rfl (by kernel_rfl) (by kernel_rfl) (by kernel_rfl) (fun _ _ _ h => h) (Or.inl ⟨by rfl, ?h705⟩) hY.s ?r705
   case h705 => (intro w hw; obtain ⟨q0, q1⟩ := hw; go_simp; try (with_reducible rfl))
   try simp only [Act.put, List.setIfInBounds_toArray]
   refine takeQ (some 97) (i := 6) (v := ?v706) rfl rfl (by kernel_rfl) (by kernel_rfl) (by kernel_rfl) (fun _ _ _ h => h) (Or.inl ⟨by rfl, ?h706⟩) hY.s ?r706
   case h706 => (intro w hw; obtain ⟨q0, q1⟩ := hw; go_simp; try (with_reducible rfl))
   try simp only [Act.put]
   refine wpAnyH_ready (rs := [7]) (by kernel_rfl) (by simp) ?_
   refine AllReadyH.cons rfl ?_ AllReadyH.nil
   intro KK hKK
   rw [if_pos (by rfl)]
   refine wp_store_mid 108 (.tmp 97) (.tmp 95) rfl w2.heap.size 129 (rowsA (froM h)) rfl rfl (by rw [rowsA_size]; exact hY.o.there 129 (by omega)) (infoRel' _) (rows_one _) ?_
   have hXn := hY.setF (froM h)
   have hMn := MapI.cells (g := w2.heap.size) (by omega) (rowsA (froM h)).toList 129 _ hMY
   refine hKK.out _ _ hXn.s (fun _ => ?_)
   clear hKK KK
   refine wpAnyH_done (by kernel_rfl) ?_ _
   clear hX hM3 hY kd CP hS0 hMY kk hbx
   generalize wx.setCells w2.heap.size 129 (rowsA (froM h)).toList = w3 at *
   have hq := hXn.s.1
   go_wp2_with fail
   go_ret2
   exact ⟨⟨_, rfl, by have := hb4.size; omega, _, _, _, _, _, K, R, HK.out.2.2 ▸ hXn.o, hMn, hAw, hXn.r, HK.out.1, HK.out.2.1⟩, below_then hb4 hXn.b⟩
end

section
open Go.RowKit
def decW (h : List TxnV) (lv : Int) : List Int × List (List Int) × Bool := match (decN h lv).1 with
 | none => ([], [], false)
 | some r => (r.reverse.map Int.ofNat, seesL (seesR h (clI ((askN lv : Nat) : Int)) r) h.length, true)
theorem decW_yes (h : List TxnV) (lv : Int) : (decW h lv).2.2 = (decN h lv).1.isSome := by
 unfold decW
 cases (decN h lv).1 <;> rfl
section
variable {w0 w : World} {B b : Nat} {h : List TxnV}
theorem sdecide_no (lv : Int) (T F U : Nat) (hO : OrdIs w0 B b h) (ht : Tab w0) (hK : Kinds w0) (hc : checkI h = 0) (hb : Below w0.heap.size w0 w) (hT : w0.heap.size ≤ T) (hm : MtAt w T F U)
  (hM : (decN h lv).2.2 + 2 ≤ 1099511627776) (hl : ¬ Lasts F U (decN h lv).2.2) :
  Calls Tryz.prog 96 #[.pointer (some ⟨B, 0, none⟩), .int .i64 lv, .pointer (some ⟨T, 0, none⟩)] w fun e w' =>
   e = .returned (.tuple #[.agg #[.slice none 0 0, .slice none 0 0], .bool false, .int .i64 4]) ∧ MtAt w' T F F ∧ w.grownBy w' (some T) ∧ Below w0.heap.size w0 w' := by
 refine (sdecide_any lv T F U hO ht hK hc hb hT hm hM (fun e => (hl (.inl e)).elim)).mono ?_
 rintro e w' ⟨hg, hr⟩
 have hb' : Below w0.heap.size w0 w' := hb.grown hg hb.size (fun j hj => by cases hj; exact hT)
 rcases hr with ⟨hy, _⟩ | ⟨_, hm', rfl⟩
 ·exact (hl hy).elim
 ·exact ⟨rfl, hm', hg, hb'⟩
end
end

section
open Go.RowKit
theorem tr_le : ∀ k, k ≤ 7 → trN k ≤ 20000 := by decide +kernel
end

section
open Go.RowKit
theorem decW_some {h : List TxnV} {lv : Int} (hc : checkI h = 0) : (decW h lv).2.2 = ((ordersN h.length).find? (keptL h lv)).isSome := by
 rw [decW_yes, ← dec_first hc, Option.isSome_map]
theorem decW_none (h : List TxnV) (lv : Int) : (decW h lv).2.2 = false → (decW h lv).1 = [] ∧ (decW h lv).2.1 = [] := by
 unfold decW
 cases (decN h lv).1 with
 | none => intro _; exact ⟨rfl, rfl⟩
 | some r => intro e; cases e
end

end Go.Proofs.YtnhkjehfmbfmmaaGreatDoor
