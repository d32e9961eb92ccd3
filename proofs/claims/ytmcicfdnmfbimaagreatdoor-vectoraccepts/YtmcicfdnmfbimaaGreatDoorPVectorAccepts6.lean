/- Walks and plain facts that the proof of the statement VectorAccepts uses, joined: PlaH PlaI PlaF AxiH OrdP LesA LesB. Conditions: each theorem's own. -/
import Derived.Deep.AppendLies
import Derived.BigQuiet
import Derived.Deep.QuietTactic
import Derived.Test.YtmcicfdnmfbimaaGreatDoorPVectorAccepts0
import Derived.Test.YtmcicfdnmfbimaaGreatDoorPVectorAccepts1
import Derived.Test.YtmcicfdnmfbimaaGreatDoorPVectorAccepts2
import Derived.Test.YtmcicfdnmfbimaaGreatDoorPVectorAccepts3
import Derived.Test.YtmcicfdnmfbimaaGreatDoorPVectorAccepts4
import Derived.Test.YtmcicfdnmfbimaaGreatDoorPVectorAccepts5
namespace Go.Proofs.YtmcicfdnmfbimaaGreatDoor
set_option maxHeartbeats 32000000
set_option maxRecDepth 100000
open Lib (hid)
section
open Go.RowKit
theorem heap_set_far (w : World) (p : Addr) (u : Value) (k : Nat) (hk : k ≠ p.block) : (w.setCell p u).heap[k]? = w.heap[k]? := Below.heap_setCell w p u k (fun e => hk e)
theorem PlStep.setCell {S : Nat} {v1 v2 : Value} {w w' : World} (h : PlStep S v1 v2 w w') (o : Nat) (u : Value) : PlStep S v1 v2 w (w'.setCell ⟨S, o, none⟩ u) := by
 refine ⟨h.os, h.tape, h.output, by have := h.size; simpa using this, fun k hk hs hv => ?_, h.own⟩
 rw [heap_set_far w' ⟨S, o, none⟩ u k hs]
 exact h.block k hk hs hv
theorem PlStep.below {S : Nat} {v1 v2 : Value} {w w' w'' : World} (h : PlStep S v1 v2 w w') (hb : Below w'.heap.size w' w'') : PlStep S v1 v2 w w'' := h.trans (.of_below hb)
theorem PlStep.grown {S : Nat} {v1 v2 v3 : Value} {w w' w'' : World} (h : PlStep S v1 v2 w w') (hg : w'.grownBy w'' v2.ownBlock) (ho : ∀ g, v3.ownBlock = some g → v2.ownBlock = some g ∨ g = w'.heap.size) : PlStep S v1 v3 w w'' := by
 refine ⟨hg.os.trans h.os, hg.tape.trans h.tape, hg.output.trans h.output, Nat.le_trans h.size hg.size, fun k hk hs hv => ?_, fun g hgo => ?_⟩
 ·refine (hg.block k (Nat.lt_of_lt_of_le hk h.size) (fun e => ?_)).trans (h.block k hk hs hv)
  rcases h.own k e.symm with q | q
  ·exact hv q
  ·omega
 ·rcases ho g hgo with q | q
  ·exact h.own g q
  ·exact .inr (by have := h.size; omega)
theorem PlStep.as {S : Nat} {v1 v2 v3 : Value} {w w' : World} (h : PlStep S v1 v2 w w') (e : v3.ownBlock = v2.ownBlock) : PlStep S v1 v3 w w' := ⟨h.os, h.tape, h.output, h.size, h.block, fun g hg => h.own g (by rw [← e]; exact hg)⟩
theorem owns_less {w : World} {base n cap : Nat} {e : TypeId} {ao : Option Addr} {xs : List Value} {x : Value} (h : w.ownsRow base e 1 (.slice ao (n + 1) cap) (n + 1) (xs ++ [x])) : w.ownsRow base e 1 (.slice ao n cap) n xs := by
 obtain ⟨hl, h⟩ := h
 have hn : xs.length = n := by simp at hl; omega
 refine ⟨by omega, ?_⟩
 rcases h with ⟨hv, h0⟩ | ⟨g, cap', cur, hv, hb, hh, hc, hm, hs, ht⟩
 ·omega
 ·obtain ⟨e1, e2, e3⟩ : ao = some ⟨g, 0, none⟩ ∧ n + 1 = n + 1 ∧ cap = cap' := by simpa using hv
  subst e1 e3
  refine .inr ⟨g, cap, cur, rfl, hb, hh, by omega, hm, hs, ?_⟩
  have := congrArg (List.take (n * 1)) ht
  rw [List.take_take, Nat.min_eq_left (by omega)] at this
  rw [this, Nat.mul_one, ← hn, List.take_left]
theorem own_len (ao : Option Addr) (n m c d : Nat) : (Value.slice ao n c).ownBlock = (Value.slice ao m d).ownBlock := by cases ao <;> rfl
section
variable {W : World} {S B b : Nat} {h : List TxnV} {C : Nat} {r : List Nat} {vb vr : Value} {aF sF : Nat → Nat} {w : World}
theorem PlIs.undo {i : Nat} {ao : Option Addr} {cap : Nat} (p : PlIs W S B b h C (i :: r) vb (.slice ao (r.length + 1) cap) aF sF w) :
  PlIs W S B b h C r vb (.slice ao r.length cap) aF sF ((w.setCell ⟨S, 3, none⟩ (.slice ao r.length cap)).setCell ⟨S, 4, none⟩ (.int .u64 ((plS r : Nat) : Int))) ∧
  PlStep S (.slice ao (r.length + 1) cap) (.slice ao r.length cap) w ((w.setCell ⟨S, 3, none⟩ (.slice ao r.length cap)).setCell ⟨S, 4, none⟩ (.int .u64 ((plS r : Nat) : Int))) := by
 obtain ⟨hi, hnd⟩ := List.nodup_cons.1 p.nd
 have hrw := p.rw
 rw [List.reverse_cons, List.map_append, List.length_cons] at hrw
 have hne : ∀ k ∈ r, k ≠ i := fun k hk e => hi (by rw [← e]; exact hk)
 refine ⟨⟨p.o, p.t, (p.bel.setCell (p := ⟨S, 3, none⟩) p.low _).setCell (p := ⟨S, 4, none⟩) p.low _, p.low, (p.a.setR _).setP _, pl_far (pl_far p.ba (by simp) _) (by simp) _, pl_far (pl_far (owns_less hrw) (by simp) _) (by simp) _, fun g hg e => p.ne g hg (by rw [own_len ao (r.length + 1) r.length cap cap]; exact e), p.set, fun k hk => ?_, hnd, fun k hk => p.lt k (List.mem_cons_of_mem _ hk), (base_tail hi p.base).1⟩, ?_⟩
 ·have := p.eq k (List.mem_cons_of_mem _ hk)
  rw [aheadL_tail (hne k hk), plSee_tail (hne k hk)] at this
  exact this
 ·exact (((PlStep.refl S _ w).setCell 3 _).setCell 4 _).as (own_len _ _ _ _ _)
structure PlRaw (W : World) (S B C : Nat) (h : List TxnV) (r : List Nat) (vb vr : Value) (aF sF : Nat → Nat) (w0 w : World) : Prop where
 bel : Below W.heap.size W w
 low : W.heap.size ≤ S
 a : PlAt w S B C vb vr (plS r) aF sF
 ba : w.ownsRow (S + 1) 96 1 vb h.length ((List.range h.length).map fun i => .int .u64 ((baseN h C i : Nat) : Int))
 rw : w.ownsRow (S + 1) 3 1 vr r.length (r.reverse.map fun i : Nat => .int .i64 (i : Int))
 st : PlStep S vr vr w0 w
theorem PlIs.raw (p : PlIs W S B b h C r vb vr aF sF w) : PlRaw W S B C h r vb vr aF sF w w := ⟨p.bel, p.low, p.a, p.ba, p.rw, .refl _ _ _⟩
section
variable {w0 w' : World}
theorem PlRaw.below (p : PlRaw W S B C h r vb vr aF sF w0 w) (hb : Below w.heap.size w w') : PlRaw W S B C h r vb vr aF sF w0 w' :=
 ⟨p.bel.trans (hb.mono p.bel.size), p.low, p.a.below hb p.a.lt, owns_below p.ba hb, owns_below p.rw hb, p.st.below hb⟩
theorem PlRaw.setA (p : PlRaw W S B C h r vb vr aF sF w0 w) {k : Nat} (hk : k < 64) (s : Nat) : PlRaw W S B C h r vb vr (updN aF k s) sF w0 (w.setCell ⟨S, 5 + k, none⟩ (.int .u64 (s : Int))) :=
 ⟨p.bel.setCell (p := ⟨S, 5 + k, none⟩) p.low _, p.low, p.a.setA hk s, pl_far p.ba (by simp) _, pl_far p.rw (by simp) _, p.st.setCell _ _⟩
theorem PlRaw.setS (p : PlRaw W S B C h r vb vr aF sF w0 w) {k : Nat} (hk : k < 64) (s : Nat) : PlRaw W S B C h r vb vr aF (updN sF k s) w0 (w.setCell ⟨S, 69 + k, none⟩ (.int .u64 (s : Int))) :=
 ⟨p.bel.setCell (p := ⟨S, 69 + k, none⟩) p.low _, p.low, p.a.setS hk s, pl_far p.ba (by simp) _, pl_far p.rw (by simp) _, p.st.setCell _ _⟩
theorem updN_same (F : Nat → Nat) (i s : Nat) : updN F i s i = s := by unfold updN; rw [if_pos rfl]
theorem updN_other (F : Nat → Nat) {i k : Nat} (s : Nat) (hk : k ≠ i) : updN F i s k = F k := by unfold updN; rw [if_neg hk]
theorem PlRaw.app (p : PlRaw W S B C h r vb vr aF sF w0 w) (hne : ∀ g, vb.ownBlock = some g → vr.ownBlock ≠ some g) {w5 : World} {g cap n : Nat} {xs : List Value} (hown : w5.ownsRow (S + 1) 3 1 (.slice (some ⟨g, 0, none⟩) n cap) n xs) (hg : w.grownBy w5 vr.ownBlock) (hl : vr.ownBlock = some g ∨ g = w.heap.size) :
  Below W.heap.size W w5 ∧ PlAt w5 S B C vb vr (plS r) aF sF ∧ w5.ownsRow (S + 1) 96 1 vb h.length ((List.range h.length).map fun i => .int .u64 ((baseN h C i : Nat) : Int)) ∧ PlStep S vr (.slice (some ⟨g, 0, none⟩) n cap) w0 w5 ∧ ∀ k, vb.ownBlock = some k → k ≠ g := by
 have hS : vr.ownBlock ≠ some S := fun e => by have := (p.rw.lt _ e).1; omega
 refine ⟨p.bel.grown hg p.bel.size (fun k hk => ?_), p.a.grown hg (fun e => hS e.symm), p.ba.kept hg ?_, p.st.grown hg (fun k hk => ?_), fun k hk e => ?_⟩
 ·have := (p.rw.lt _ hk).1
  have := p.low
  omega
 ·cases hb : vb.ownBlock with
  | none => exact .inl rfl
  | some k => exact .inr (fun e => hne k hb e.symm)
 ·have e : g = k := by injection hk
  rcases hl with q | q
  ·exact .inl (by rw [← e]; exact q)
  ·exact .inr (by omega)
 ·subst e
  rcases hl with q | q
  ·exact hne k hk q
  ·have := (p.ba.lt _ hk).2
   omega
theorem PlIs.done (p : PlIs W S B b h C r vb vr aF sF w) {i s : Nat} (hi : i < h.length) (hin : i ∉ r) (hbs : ∀ j, (baseN h C i).testBit j = true → (plS r).testBit j = true) (h64 : h.length ≤ 64) (hs : s = nextN h C r i) {w4 w5 : World} (q : PlRaw W S B C h r vb vr (updN aF i (plS r)) (updN sF i s) w w4)
  {g cap : Nat} (hown : w5.ownsRow (S + 1) 3 1 (.slice (some ⟨g, 0, none⟩) (r.length + 1) cap) (r.length + 1) ((r.reverse.map fun i : Nat => .int .i64 (i : Int)) ++ [.int .i64 (i : Int)])) (hg : w4.grownBy w5 vr.ownBlock) (hl : vr.ownBlock = some g ∨ g = w4.heap.size) :
  PlIs W S B b h C (i :: r) vb (.slice (some ⟨g, 0, none⟩) (r.length + 1) cap) (updN aF i (plS r)) (updN sF i s) ((w5.setCell ⟨S, 3, none⟩ (.slice (some ⟨g, 0, none⟩) (r.length + 1) cap)).setCell ⟨S, 4, none⟩ (.int .u64 ((plS (i :: r) : Nat) : Int))) ∧
  PlStep S vr (.slice (some ⟨g, 0, none⟩) (r.length + 1) cap) w ((w5.setCell ⟨S, 3, none⟩ (.slice (some ⟨g, 0, none⟩) (r.length + 1) cap)).setCell ⟨S, 4, none⟩ (.int .u64 ((plS (i :: r) : Nat) : Int))) := by
 obtain ⟨b5, a5, v5, s5, n5⟩ := q.app p.ne hown hg hl
 have hi64 : i < 64 := by omega
 have hset : IsSet s := by rw [hs]; exact wld4_set (baseN_set h C i) (plS_set r) (rivN_set h i) (fun k _ => plSee_set h C r k) (fun k _ => aheadL_set r k)
 refine ⟨⟨p.o, p.t, (b5.setCell (p := ⟨S, 3, none⟩) p.low _).setCell (p := ⟨S, 4, none⟩) p.low _, p.low, (a5.setR _).setP _, pl_far (pl_far v5 (by simp) _) (by simp) _, ?_, fun k hk e => n5 k hk (by injection e with e; exact e.symm), fun k hk => ?_, fun k hk => ?_, List.nodup_cons.2 ⟨hin, p.nd⟩, fun k hk => ?_, fun k hk j hj => ?_⟩, (s5.setCell 3 _).setCell 4 _⟩
 ·rw [List.reverse_cons, List.map_append, List.length_cons]
  exact pl_far (pl_far hown (by simp) _) (by simp) _
 ·by_cases e : k = i
  ·subst e; rw [updN_same, updN_same]; exact ⟨plS_set r, hset⟩
  ·rw [updN_other _ _ e, updN_other _ _ e]; exact p.set k hk
 ·by_cases e : k = i
  ·subst e
   rw [updN_same, updN_same, aheadL, if_pos rfl, plSee, if_pos rfl, hs]
   exact ⟨rfl, rfl⟩
  ·rw [updN_other _ _ e, updN_other _ _ e, aheadL_tail e, plSee_tail e]
   rcases List.mem_cons.1 hk with q | q
   ·exact (e q).elim
   ·exact p.eq k q
 ·rcases List.mem_cons.1 hk with q | q
  ·omega
  ·exact p.lt k q
 ·by_cases e : k = i
  ·subst e
   rw [aheadL, if_pos rfl]
   exact hbs j hj
  ·rw [aheadL_tail e]
   rcases List.mem_cons.1 hk with q | q
   ·exact (e q).elim
   ·exact p.base k q j hj
end
end
end

section
open Go.RowKit
section
variable {W : World} {S B b : Nat} {h : List TxnV} {C : Nat} {r : List Nat} {vb vr : Value} {aF sF : Nat → Nat} {w : World}
theorem pundo_cons {i : Nat} (p : PlIs W S B b h C (i :: r) vb vr aF sF w) (h64 : h.length ≤ 64) : Calls Tryz.prog 115 #[.pointer (some ⟨S, 0, none⟩)] w fun e w' => e = .returned (.bool true) ∧ ∃ vr', PlIs W S B b h C r vb vr' aF sF w' ∧ PlStep S vr vr' w w' := by
 obtain ⟨ao, cap, rfl⟩ := p.form
 have hlen := p.len
 simp only [List.length_cons] at p hlen ⊢
 have HU := hid (fun wx (hx : Below w.heap.size w wx) => (p.below hx).undo)
 have HX := hid (fun wx (hx : Below w.heap.size w wx) => PlStep.of_below (S := S) (vr := .slice ao (r.length + 1) cap) hx)
 have hrow := p.row
 have hl1 : ((i :: r).reverse.map Int.ofNat).length = r.length + 1 := by simp
 obtain ⟨g, o, hao, hcell⟩ := Ints.at (ao := ao) (n := r.length + 1) (cap := cap) hrow (k := r.length) (by rw [hl1]; omega)
 subst hao
 have hval : ((i :: r).reverse.map Int.ofNat)[r.length]'(by rw [hl1]; omega) = (i : Int) := by simp
 rw [hval] at hcell
 have HS := hid (fun wx (hx : Below w.heap.size w wx) => And.intro (p.below hx).a.cR (And.intro (p.below hx).a.cP (And.intro ((hx.cell (p := ⟨g, o + r.length, none⟩) (block_lt hcell)).trans hcell) (And.intro ((p.below hx).a.free (i := 3) (by omega)) ((p.below hx).a.free (i := 4) (by omega))))))
 have hpop := plS_pop (i := i) (r := r) (List.nodup_cons.1 p.nd).1 (fun a ha => by have := p.lt a ha; omega)
 have CW := hid (fun wx => wo_any (plS (i :: r)) (i : Int) wx (plS_set _))
 rw [hpop] at CW
 have hr64 : (r.length : Int) < 64 := by omega
 have hr1 : (r.length : Int) + 1 - 1 = (r.length : Int) := by omega
 have hr2 : (r.length : Int) < (r.length : Int) + 1 := by omega
 have hc1 : r.length ≤ cap := by
  have := p.rw.2
  rcases this with ⟨e, _⟩ | ⟨_, _, _, e, _, _, hh, _⟩
  ·cases e
  ·simp only [Value.slice.injEq] at e
   simp only [List.length_cons] at hh
   omega
 have hc2 : (r.length : Int) ≤ (cap : Int) := by omega
 have kd0 := Below.refl w.heap.size w
 obtain ⟨n3, n4, _, _, _⟩ := HS.out _ kd0
 clear p hrow hl1 hval hcell hpop hlen
 generalize plS (i :: r) = s1 at *
 generalize plS r = s0 at *
 generalize r.length = n at *
 go_enter Tryz.func115, Tryz.ntmps115
 go_upto_region 4 with fail
 have kd := kd0.drew
 clear n3 n4 kd0
 refine wp_region_held_drew (S := fun _ => True) (by kernel_rfl) trivial (fun hS0 => ?_)
 generalize w.drew = wd at *
 obtain ⟨n3, n4, n5, f3, f4⟩ := HS.out _ kd
 refine tA (some 16) 0 rfl rfl hS0 ?_
 try simp only [Act.put, zA, zB, zC]
 refine tA (some 17) 1 rfl rfl hS0 ?_
 try simp only [Act.put, zA, zB, zC]
 refine tA (some 18) 2 rfl rfl hS0 ?_
 try simp only [Act.put, zA, zB, zC]
 refine tA (some 19) 3 rfl rfl hS0 ?_
 try simp only [Act.put, zA, zB, zC]
 refine tA (some 20) 4 rfl rfl hS0 ?_
 try simp only [Act.put, zA, zB, zC]
 refine tA (some 22) 6 rfl rfl hS0 ?_
 try simp only [Act.put, zA, zB, zC]
 refine tA (some 24) 8 rfl rfl hS0 ?_
 try simp only [Act.put, zA, zB, zC]
 refine tA (some 25) 9 rfl rfl hS0 ?_
 try simp only [Act.put, zA, zB, zC]
 refine tA (some 26) 10 rfl rfl hS0 ?_
 try simp only [Act.put, zA, zB, zC]
 refine tA (some 28) 12 rfl rfl hS0 ?_
 try simp only [Act.put, zA, zB, zC]
 refine tA (some 29) 13 rfl rfl hS0 ?_
 try simp only [Act.put, zA, zB, zC]
 refine tA (some 30) 14 rfl rfl hS0 ?_
 try simp only [Act.put, zA, zB, zC]
 refine tA (some 32) 16 rfl rfl hS0 ?_
 try simp only [Act.put, zA, zB, zC]
 refine wpAnyH_ready (rs := [5, 11, 15]) (by kernel_rfl) (by simp) ?_
 refine AllReadyH.cons rfl (fun K hK => ?_) (AllReadyH.cons rfl (fun K hK => ?_) (AllReadyH.cons rfl (fun K hK => ?_) AllReadyH.nil))
 ·
  go_simp
  refine hK.out _ _ trivial (fun _ => ?_)
  clear hK K
  refine tA (some 23) 7 rfl rfl hS0 ?_
  try simp only [Act.put, zA, zB, zC]
  refine wpAnyH_ready (rs := [11, 15]) (by kernel_rfl) (by simp) ?_
  refine AllReadyH.cons rfl (fun K hK => ?_) (AllReadyH.cons rfl (fun K hK => ?_) AllReadyH.nil)
  ·
   go_simp
   refine hK.out _ _ trivial (fun _ => ?_)
   clear hK K
   refine rD 15 rfl (fun K hK => ?_)
   go_simp
   refine hK.out _ _ trivial (fun _ => ?_)
   clear hK K
   refine tA (some 33) 17 rfl rfl hS0 ?_
   try simp only [Act.put, zA, zB, zC]
   refine rD 18 rfl (fun K hK => ?_)
   go_simp
   refine hK.out _ _ trivial (fun _ => ?_)
   clear hK K
   refine rD 19 rfl (fun K hK => ?_)
   go_simp
   refine (CW.out _).mono ?_
   rintro e y1 ⟨rfl, rfl⟩
   show K _ _
   refine hK.out _ _ trivial (fun _ => ?_)
   clear hK K
   refine tA (some 36) 20 rfl rfl hS0 ?_
   try simp only [Act.put, zA, zB, zC]
   refine tA (some 37) 21 rfl rfl hS0 ?_
   try simp only [Act.put, zA, zB, zC]
   refine rD 22 rfl (fun K hK => ?_)
   go_simp
   refine hK.out _ _ trivial (fun _ => ?_)
   clear hK K
   refine tA (some 38) 23 rfl rfl hS0 ?_
   try simp only [Act.put, zA, zB, zC]
   refine tA (some 39) 24 rfl rfl hS0 ?_
   try simp only [Act.put, zA, zB, zC]
   refine rD 25 rfl (fun K hK => ?_)
   have q4 : (World.setCell wd ⟨S, 3, none⟩ (.slice (some ⟨g, o, none⟩) n cap)).cell? ⟨S, 4, none⟩ = some (.int .u64 (s1 : Int)) := by rw [World.cell?_setCell_other _ _ _ _ (by simp)]; exact n4
   go_simp
   refine hK.out _ _ trivial (fun _ => ?_)
   clear hK K
   refine wpAnyH_done (by kernel_rfl) ?_ _
   have hu := HU.out _ kd
   have hx := HX.out _ kd
   go_wp2_with fail
   go_ret
   exact ⟨rfl, _, hu.1, hx.trans hu.2⟩
  ·
   go_simp
   refine hK.out _ _ trivial (fun _ => ?_)
   clear hK K
   refine tA (some 33) 17 rfl rfl hS0 ?_
   try simp only [Act.put, zA, zB, zC]
   refine wpAnyH_ready (rs := [11, 18]) (by kernel_rfl) (by simp) ?_
   refine AllReadyH.cons rfl (fun K hK => ?_) (AllReadyH.cons rfl (fun K hK => ?_) AllReadyH.nil)
   ·
    go_simp
    refine hK.out _ _ trivial (fun _ => ?_)
    clear hK K
    refine rD 18 rfl (fun K hK => ?_)
    go_simp
    refine hK.out _ _ trivial (fun _ => ?_)
    clear hK K
    refine rD 19 rfl (fun K hK => ?_)
    go_simp
    refine (CW.out _).mono ?_
    rintro e y1 ⟨rfl, rfl⟩
    show K _ _
    refine hK.out _ _ trivial (fun _ => ?_)
    clear hK K
    refine tA (some 36) 20 rfl rfl hS0 ?_
    try simp only [Act.put, zA, zB, zC]
    refine tA (some 37) 21 rfl rfl hS0 ?_
    try simp only [Act.put, zA, zB, zC]
    refine rD 22 rfl (fun K hK => ?_)
    go_simp
    refine hK.out _ _ trivial (fun _ => ?_)
    clear hK K
    refine tA (some 38) 23 rfl rfl hS0 ?_
    try simp only [Act.put, zA, zB, zC]
    refine tA (some 39) 24 rfl rfl hS0 ?_
    try simp only [Act.put, zA, zB, zC]
    refine rD 25 rfl (fun K hK => ?_)
    have q4 : (World.setCell wd ⟨S, 3, none⟩ (.slice (some ⟨g, o, none⟩) n cap)).cell? ⟨S, 4, none⟩ = some (.int .u64 (s1 : Int)) := by rw [World.cell?_setCell_other _ _ _ _ (by simp)]; exact n4
    go_simp
    refine hK.out _ _ trivial (fun _ => ?_)
    clear hK K
    refine wpAnyH_done (by kernel_rfl) ?_ _
    have hu := HU.out _ kd
    have hx := HX.out _ kd
    go_wp2_with fail
    go_ret
    exact ⟨rfl, _, hu.1, hx.trans hu.2⟩
   ·
    go_simp
    refine hK.out _ _ trivial (fun _ => ?_)
    clear hK K
    refine rD 11 rfl (fun K hK => ?_)
    go_simp
    refine hK.out _ _ trivial (fun _ => ?_)
    clear hK K
    refine rD 19 rfl (fun K hK => ?_)
    go_simp
    refine (CW.out _).mono ?_
    rintro e y1 ⟨rfl, rfl⟩
    show K _ _
    refine hK.out _ _ trivial (fun _ => ?_)
    clear hK K
    refine tA (some 36) 20 rfl rfl hS0 ?_
    try simp only [Act.put, zA, zB, zC]
    refine tA (some 37) 21 rfl rfl hS0 ?_
    try simp only [Act.put, zA, zB, zC]
    refine rD 22 rfl (fun K hK => ?_)
    go_simp
    refine hK.out _ _ trivial (fun _ => ?_)
    clear hK K
    refine tA (some 38) 23 rfl rfl hS0 ?_
    try simp only [Act.put, zA, zB, zC]
    refine tA (some 39) 24 rfl rfl hS0 ?_
    try simp only [Act.put, zA, zB, zC]
    refine rD 25 rfl (fun K hK => ?_)
    have q4 : (World.setCell wd ⟨S, 3, none⟩ (.slice (some ⟨g, o, none⟩) n cap)).cell? ⟨S, 4, none⟩ = some (.int .u64 (s1 : Int)) := by rw [World.cell?_setCell_other _ _ _ _ (by simp)]; exact n4
    go_simp
    refine hK.out _ _ trivial (fun _ => ?_)
    clear hK K
    refine wpAnyH_done (by kernel_rfl) ?_ _
    have hu := HU.out _ kd
    have hx := HX.out _ kd
    go_wp2_with fail
    go_ret
    exact ⟨rfl, _, hu.1, hx.trans hu.2⟩
 ·
  go_simp
  refine hK.out _ _ trivial (fun _ => ?_)
  clear hK K
  refine wpAnyH_ready (rs := [5, 15]) (by kernel_rfl) (by simp) ?_
  refine AllReadyH.cons rfl (fun K hK => ?_) (AllReadyH.cons rfl (fun K hK => ?_) AllReadyH.nil)
  ·
   go_simp
   refine hK.out _ _ trivial (fun _ => ?_)
   clear hK K
   refine tA (some 23) 7 rfl rfl hS0 ?_
   try simp only [Act.put, zA, zB, zC]
   refine rD 15 rfl (fun K hK => ?_)
   go_simp
   refine hK.out _ _ trivial (fun _ => ?_)
   clear hK K
   refine tA (some 33) 17 rfl rfl hS0 ?_
   try simp only [Act.put, zA, zB, zC]
   refine rD 18 rfl (fun K hK => ?_)
   go_simp
   refine hK.out _ _ trivial (fun _ => ?_)
   clear hK K
   refine rD 19 rfl (fun K hK => ?_)
   go_simp
   refine (CW.out _).mono ?_
   rintro e y1 ⟨rfl, rfl⟩
   show K _ _
   refine hK.out _ _ trivial (fun _ => ?_)
   clear hK K
   refine tA (some 36) 20 rfl rfl hS0 ?_
   try simp only [Act.put, zA, zB, zC]
   refine tA (some 37) 21 rfl rfl hS0 ?_
   try simp only [Act.put, zA, zB, zC]
   refine rD 22 rfl (fun K hK => ?_)
   go_simp
   refine hK.out _ _ trivial (fun _ => ?_)
   clear hK K
   refine tA (some 38) 23 rfl rfl hS0 ?_
   try simp only [Act.put, zA, zB, zC]
   refine tA (some 39) 24 rfl rfl hS0 ?_
   try simp only [Act.put, zA, zB, zC]
   refine rD 25 rfl (fun K hK => ?_)
   have q4 : (World.setCell wd ⟨S, 3, none⟩ (.slice (some ⟨g, o, none⟩) n cap)).cell? ⟨S, 4, none⟩ = some (.int .u64 (s1 : Int)) := by rw [World.cell?_setCell_other _ _ _ _ (by simp)]; exact n4
   go_simp
   refine hK.out _ _ trivial (fun _ => ?_)
   clear hK K
   refine wpAnyH_done (by kernel_rfl) ?_ _
   have hu := HU.out _ kd
   have hx := HX.out _ kd
   go_wp2_with fail
   go_ret
   exact ⟨rfl, _, hu.1, hx.trans hu.2⟩
  ·
   go_simp
   refine hK.out _ _ trivial (fun _ => ?_)
   clear hK K
   refine tA (some 33) 17 rfl rfl hS0 ?_
   try simp only [Act.put, zA, zB, zC]
   refine wpAnyH_ready (rs := [5, 18]) (by kernel_rfl) (by simp) ?_
   refine AllReadyH.cons rfl (fun K hK => ?_) (AllReadyH.cons rfl (fun K hK => ?_) AllReadyH.nil)
   ·
    go_simp
    refine hK.out _ _ trivial (fun _ => ?_)
    clear hK K
    refine tA (some 23) 7 rfl rfl hS0 ?_
    try simp only [Act.put, zA, zB, zC]
    refine rD 18 rfl (fun K hK => ?_)
    go_simp
    refine hK.out _ _ trivial (fun _ => ?_)
    clear hK K
    refine rD 19 rfl (fun K hK => ?_)
    go_simp
    refine (CW.out _).mono ?_
    rintro e y1 ⟨rfl, rfl⟩
    show K _ _
    refine hK.out _ _ trivial (fun _ => ?_)
    clear hK K
    refine tA (some 36) 20 rfl rfl hS0 ?_
    try simp only [Act.put, zA, zB, zC]
    refine tA (some 37) 21 rfl rfl hS0 ?_
    try simp only [Act.put, zA, zB, zC]
    refine rD 22 rfl (fun K hK => ?_)
    go_simp
    refine hK.out _ _ trivial (fun _ => ?_)
    clear hK K
    refine tA (some 38) 23 rfl rfl hS0 ?_
    try simp only [Act.put, zA, zB, zC]
    refine tA (some 39) 24 rfl rfl hS0 ?_
    try simp only [Act.put, zA, zB, zC]
    refine rD 25 rfl (fun K hK => ?_)
    have q4 : (World.setCell wd ⟨S, 3, none⟩ (.slice (some ⟨g, o, none⟩) n cap)).cell? ⟨S, 4, none⟩ = some (.int .u64 (s1 : Int)) := by rw [World.cell?_setCell_other _ _ _ _ (by simp)]; exact n4
    go_simp
    refine hK.out _ _ trivial (fun _ => ?_)
    clear hK K
    refine wpAnyH_done (by kernel_rfl) ?_ _
    have hu := HU.out _ kd
    have hx := HX.out _ kd
    go_wp2_with fail
    go_ret
    exact ⟨rfl, _, hu.1, hx.trans hu.2⟩
   ·
    go_simp
    refine hK.out _ _ trivial (fun _ => ?_)
    clear hK K
    refine wpAnyH_ready (rs := [5, 19]) (by kernel_rfl) (by simp) ?_
    refine AllReadyH.cons rfl (fun K hK => ?_) (AllReadyH.cons rfl (fun K hK => ?_) AllReadyH.nil)
    ·
     go_simp
     refine hK.out _ _ trivial (fun _ => ?_)
     clear hK K
     refine tA (some 23) 7 rfl rfl hS0 ?_
     try simp only [Act.put, zA, zB, zC]
     refine rD 19 rfl (fun K hK => ?_)
     go_simp
     refine (CW.out _).mono ?_
     rintro e y1 ⟨rfl, rfl⟩
     show K _ _
     refine hK.out _ _ trivial (fun _ => ?_)
     clear hK K
     refine tA (some 36) 20 rfl rfl hS0 ?_
     try simp only [Act.put, zA, zB, zC]
     refine tA (some 37) 21 rfl rfl hS0 ?_
     try simp only [Act.put, zA, zB, zC]
     refine rD 22 rfl (fun K hK => ?_)
     go_simp
     refine hK.out _ _ trivial (fun _ => ?_)
     clear hK K
     refine tA (some 38) 23 rfl rfl hS0 ?_
     try simp only [Act.put, zA, zB, zC]
     refine tA (some 39) 24 rfl rfl hS0 ?_
     try simp only [Act.put, zA, zB, zC]
     refine rD 25 rfl (fun K hK => ?_)
     have q4 : (World.setCell wd ⟨S, 3, none⟩ (.slice (some ⟨g, o, none⟩) n cap)).cell? ⟨S, 4, none⟩ = some (.int .u64 (s1 : Int)) := by rw [World.cell?_setCell_other _ _ _ _ (by simp)]; exact n4
     go_simp
     refine hK.out _ _ trivial (fun _ => ?_)
     clear hK K
     refine wpAnyH_done (by kernel_rfl) ?_ _
     have hu := HU.out _ kd
     have hx := HX.out _ kd
     go_wp2_with fail
     go_ret
     exact ⟨rfl, _, hu.1, hx.trans hu.2⟩
    ·
     go_simp
     refine (CW.out _).mono ?_
     rintro e y1 ⟨rfl, rfl⟩
     show K _ _
     refine hK.out _ _ trivial (fun _ => ?_)
     clear hK K
     refine rD 5 rfl (fun K hK => ?_)
     go_simp
     refine hK.out _ _ trivial (fun _ => ?_)
     clear hK K
     refine tA (some 23) 7 rfl rfl hS0 ?_
     try simp only [Act.put, zA, zB, zC]
     refine tA (some 36) 20 rfl rfl hS0 ?_
     try simp only [Act.put, zA, zB, zC]
     refine tA (some 37) 21 rfl rfl hS0 ?_
     try simp only [Act.put, zA, zB, zC]
     refine rD 22 rfl (fun K hK => ?_)
     go_simp
     refine hK.out _ _ trivial (fun _ => ?_)
     clear hK K
     refine tA (some 38) 23 rfl rfl hS0 ?_
     try simp only [Act.put, zA, zB, zC]
     refine tA (some 39) 24 rfl rfl hS0 ?_
     try simp only [Act.put, zA, zB, zC]
     refine rD 25 rfl (fun K hK => ?_)
     have q4 : (World.setCell wd ⟨S, 3, none⟩ (.slice (some ⟨g, o, none⟩) n cap)).cell? ⟨S, 4, none⟩ = some (.int .u64 (s1 : Int)) := by rw [World.cell?_setCell_other _ _ _ _ (by simp)]; exact n4
     go_simp
     refine hK.out _ _ trivial (fun _ => ?_)
     clear hK K
     refine wpAnyH_done (by kernel_rfl) ?_ _
     have hu := HU.out _ kd
     have hx := HX.out _ kd
     go_wp2_with fail
     go_ret
     exact ⟨rfl, _, hu.1, hx.trans hu.2⟩
 ·
  go_simp
  refine hK.out _ _ trivial (fun _ => ?_)
  clear hK K
  refine tA (some 33) 17 rfl rfl hS0 ?_
  try simp only [Act.put, zA, zB, zC]
  refine wpAnyH_ready (rs := [5, 11, 18]) (by kernel_rfl) (by simp) ?_
  refine AllReadyH.cons rfl (fun K hK => ?_) (AllReadyH.cons rfl (fun K hK => ?_) (AllReadyH.cons rfl (fun K hK => ?_) AllReadyH.nil))
  ·
   go_simp
   refine hK.out _ _ trivial (fun _ => ?_)
   clear hK K
   refine tA (some 23) 7 rfl rfl hS0 ?_
   try simp only [Act.put, zA, zB, zC]
   refine wpAnyH_ready (rs := [11, 18]) (by kernel_rfl) (by simp) ?_
   refine AllReadyH.cons rfl (fun K hK => ?_) (AllReadyH.cons rfl (fun K hK => ?_) AllReadyH.nil)
   ·
    go_simp
    refine hK.out _ _ trivial (fun _ => ?_)
    clear hK K
    refine rD 18 rfl (fun K hK => ?_)
    go_simp
    refine hK.out _ _ trivial (fun _ => ?_)
    clear hK K
    refine rD 19 rfl (fun K hK => ?_)
    go_simp
    refine (CW.out _).mono ?_
    rintro e y1 ⟨rfl, rfl⟩
    show K _ _
    refine hK.out _ _ trivial (fun _ => ?_)
    clear hK K
    refine tA (some 36) 20 rfl rfl hS0 ?_
    try simp only [Act.put, zA, zB, zC]
    refine tA (some 37) 21 rfl rfl hS0 ?_
    try simp only [Act.put, zA, zB, zC]
    refine rD 22 rfl (fun K hK => ?_)
    go_simp
    refine hK.out _ _ trivial (fun _ => ?_)
    clear hK K
    refine tA (some 38) 23 rfl rfl hS0 ?_
    try simp only [Act.put, zA, zB, zC]
    refine tA (some 39) 24 rfl rfl hS0 ?_
    try simp only [Act.put, zA, zB, zC]
    refine rD 25 rfl (fun K hK => ?_)
    have q4 : (World.setCell wd ⟨S, 3, none⟩ (.slice (some ⟨g, o, none⟩) n cap)).cell? ⟨S, 4, none⟩ = some (.int .u64 (s1 : Int)) := by rw [World.cell?_setCell_other _ _ _ _ (by simp)]; exact n4
    go_simp
    refine hK.out _ _ trivial (fun _ => ?_)
    clear hK K
    refine wpAnyH_done (by kernel_rfl) ?_ _
    have hu := HU.out _ kd
    have hx := HX.out _ kd
    go_wp2_with fail
    go_ret
    exact ⟨rfl, _, hu.1, hx.trans hu.2⟩
   ·
    go_simp
    refine hK.out _ _ trivial (fun _ => ?_)
    clear hK K
    refine rD 11 rfl (fun K hK => ?_)
    go_simp
    refine hK.out _ _ trivial (fun _ => ?_)
    clear hK K
    refine rD 19 rfl (fun K hK => ?_)
    go_simp
    refine (CW.out _).mono ?_
    rintro e y1 ⟨rfl, rfl⟩
    show K _ _
    refine hK.out _ _ trivial (fun _ => ?_)
    clear hK K
    refine tA (some 36) 20 rfl rfl hS0 ?_
    try simp only [Act.put, zA, zB, zC]
    refine tA (some 37) 21 rfl rfl hS0 ?_
    try simp only [Act.put, zA, zB, zC]
    refine rD 22 rfl (fun K hK => ?_)
    go_simp
    refine hK.out _ _ trivial (fun _ => ?_)
    clear hK K
    refine tA (some 38) 23 rfl rfl hS0 ?_
    try simp only [Act.put, zA, zB, zC]
    refine tA (some 39) 24 rfl rfl hS0 ?_
    try simp only [Act.put, zA, zB, zC]
    refine rD 25 rfl (fun K hK => ?_)
    have q4 : (World.setCell wd ⟨S, 3, none⟩ (.slice (some ⟨g, o, none⟩) n cap)).cell? ⟨S, 4, none⟩ = some (.int .u64 (s1 : Int)) := by rw [World.cell?_setCell_other _ _ _ _ (by simp)]; exact n4
    go_simp
    refine hK.out _ _ trivial (fun _ => ?_)
    clear hK K
    refine wpAnyH_done (by kernel_rfl) ?_ _
    have hu := HU.out _ kd
    have hx := HX.out _ kd
    go_wp2_with fail
    go_ret
    exact ⟨rfl, _, hu.1, hx.trans hu.2⟩
  ·
   go_simp
   refine hK.out _ _ trivial (fun _ => ?_)
   clear hK K
   refine wpAnyH_ready (rs := [5, 18]) (by kernel_rfl) (by simp) ?_
   refine AllReadyH.cons rfl (fun K hK => ?_) (AllReadyH.cons rfl (fun K hK => ?_) AllReadyH.nil)
   ·
    go_simp
    refine hK.out _ _ trivial (fun _ => ?_)
    clear hK K
    refine tA (some 23) 7 rfl rfl hS0 ?_
    try simp only [Act.put, zA, zB, zC]
    refine rD 18 rfl (fun K hK => ?_)
    go_simp
    refine hK.out _ _ trivial (fun _ => ?_)
    clear hK K
    refine rD 19 rfl (fun K hK => ?_)
    go_simp
    refine (CW.out _).mono ?_
    rintro e y1 ⟨rfl, rfl⟩
    show K _ _
    refine hK.out _ _ trivial (fun _ => ?_)
    clear hK K
    refine tA (some 36) 20 rfl rfl hS0 ?_
    try simp only [Act.put, zA, zB, zC]
    refine tA (some 37) 21 rfl rfl hS0 ?_
    try simp only [Act.put, zA, zB, zC]
    refine rD 22 rfl (fun K hK => ?_)
    go_simp
    refine hK.out _ _ trivial (fun _ => ?_)
    clear hK K
    refine tA (some 38) 23 rfl rfl hS0 ?_
    try simp only [Act.put, zA, zB, zC]
    refine tA (some 39) 24 rfl rfl hS0 ?_
    try simp only [Act.put, zA, zB, zC]
    refine rD 25 rfl (fun K hK => ?_)
    have q4 : (World.setCell wd ⟨S, 3, none⟩ (.slice (some ⟨g, o, none⟩) n cap)).cell? ⟨S, 4, none⟩ = some (.int .u64 (s1 : Int)) := by rw [World.cell?_setCell_other _ _ _ _ (by simp)]; exact n4
    go_simp
    refine hK.out _ _ trivial (fun _ => ?_)
    clear hK K
    refine wpAnyH_done (by kernel_rfl) ?_ _
    have hu := HU.out _ kd
    have hx := HX.out _ kd
    go_wp2_with fail
    go_ret
    exact ⟨rfl, _, hu.1, hx.trans hu.2⟩
   ·
    go_simp
    refine hK.out _ _ trivial (fun _ => ?_)
    clear hK K
    refine wpAnyH_ready (rs := [5, 19]) (by kernel_rfl) (by simp) ?_
    refine AllReadyH.cons rfl (fun K hK => ?_) (AllReadyH.cons rfl (fun K hK => ?_) AllReadyH.nil)
    ·
     go_simp
     refine hK.out _ _ trivial (fun _ => ?_)
     clear hK K
     refine tA (some 23) 7 rfl rfl hS0 ?_
     try simp only [Act.put, zA, zB, zC]
     refine rD 19 rfl (fun K hK => ?_)
     go_simp
     refine (CW.out _).mono ?_
     rintro e y1 ⟨rfl, rfl⟩
     show K _ _
     refine hK.out _ _ trivial (fun _ => ?_)
     clear hK K
     refine tA (some 36) 20 rfl rfl hS0 ?_
     try simp only [Act.put, zA, zB, zC]
     refine tA (some 37) 21 rfl rfl hS0 ?_
     try simp only [Act.put, zA, zB, zC]
     refine rD 22 rfl (fun K hK => ?_)
     go_simp
     refine hK.out _ _ trivial (fun _ => ?_)
     clear hK K
     refine tA (some 38) 23 rfl rfl hS0 ?_
     try simp only [Act.put, zA, zB, zC]
     refine tA (some 39) 24 rfl rfl hS0 ?_
     try simp only [Act.put, zA, zB, zC]
     refine rD 25 rfl (fun K hK => ?_)
     have q4 : (World.setCell wd ⟨S, 3, none⟩ (.slice (some ⟨g, o, none⟩) n cap)).cell? ⟨S, 4, none⟩ = some (.int .u64 (s1 : Int)) := by rw [World.cell?_setCell_other _ _ _ _ (by simp)]; exact n4
     go_simp
     refine hK.out _ _ trivial (fun _ => ?_)
     clear hK K
     refine wpAnyH_done (by kernel_rfl) ?_ _
     have hu := HU.out _ kd
     have hx := HX.out _ kd
     go_wp2_with fail
     go_ret
     exact ⟨rfl, _, hu.1, hx.trans hu.2⟩
    ·
     go_simp
     refine (CW.out _).mono ?_
     rintro e y1 ⟨rfl, rfl⟩
     show K _ _
     refine hK.out _ _ trivial (fun _ => ?_)
     clear hK K
     refine rD 5 rfl (fun K hK => ?_)
     go_simp
     refine hK.out _ _ trivial (fun _ => ?_)
     clear hK K
     refine tA (some 23) 7 rfl rfl hS0 ?_
     try simp only [Act.put, zA, zB, zC]
     refine tA (some 36) 20 rfl rfl hS0 ?_
     try simp only [Act.put, zA, zB, zC]
     refine tA (some 37) 21 rfl rfl hS0 ?_
     try simp only [Act.put, zA, zB, zC]
     refine rD 22 rfl (fun K hK => ?_)
     go_simp
     refine hK.out _ _ trivial (fun _ => ?_)
     clear hK K
     refine tA (some 38) 23 rfl rfl hS0 ?_
     try simp only [Act.put, zA, zB, zC]
     refine tA (some 39) 24 rfl rfl hS0 ?_
     try simp only [Act.put, zA, zB, zC]
     refine rD 25 rfl (fun K hK => ?_)
     have q4 : (World.setCell wd ⟨S, 3, none⟩ (.slice (some ⟨g, o, none⟩) n cap)).cell? ⟨S, 4, none⟩ = some (.int .u64 (s1 : Int)) := by rw [World.cell?_setCell_other _ _ _ _ (by simp)]; exact n4
     go_simp
     refine hK.out _ _ trivial (fun _ => ?_)
     clear hK K
     refine wpAnyH_done (by kernel_rfl) ?_ _
     have hu := HU.out _ kd
     have hx := HX.out _ kd
     go_wp2_with fail
     go_ret
     exact ⟨rfl, _, hu.1, hx.trans hu.2⟩
  ·
   go_simp
   refine hK.out _ _ trivial (fun _ => ?_)
   clear hK K
   refine wpAnyH_ready (rs := [5, 11]) (by kernel_rfl) (by simp) ?_
   refine AllReadyH.cons rfl (fun K hK => ?_) (AllReadyH.cons rfl (fun K hK => ?_) AllReadyH.nil)
   ·
    go_simp
    refine hK.out _ _ trivial (fun _ => ?_)
    clear hK K
    refine tA (some 23) 7 rfl rfl hS0 ?_
    try simp only [Act.put, zA, zB, zC]
    refine rD 11 rfl (fun K hK => ?_)
    go_simp
    refine hK.out _ _ trivial (fun _ => ?_)
    clear hK K
    refine rD 19 rfl (fun K hK => ?_)
    go_simp
    refine (CW.out _).mono ?_
    rintro e y1 ⟨rfl, rfl⟩
    show K _ _
    refine hK.out _ _ trivial (fun _ => ?_)
    clear hK K
    refine tA (some 36) 20 rfl rfl hS0 ?_
    try simp only [Act.put, zA, zB, zC]
    refine tA (some 37) 21 rfl rfl hS0 ?_
    try simp only [Act.put, zA, zB, zC]
    refine rD 22 rfl (fun K hK => ?_)
    go_simp
    refine hK.out _ _ trivial (fun _ => ?_)
    clear hK K
    refine tA (some 38) 23 rfl rfl hS0 ?_
    try simp only [Act.put, zA, zB, zC]
    refine tA (some 39) 24 rfl rfl hS0 ?_
    try simp only [Act.put, zA, zB, zC]
    refine rD 25 rfl (fun K hK => ?_)
    have q4 : (World.setCell wd ⟨S, 3, none⟩ (.slice (some ⟨g, o, none⟩) n cap)).cell? ⟨S, 4, none⟩ = some (.int .u64 (s1 : Int)) := by rw [World.cell?_setCell_other _ _ _ _ (by simp)]; exact n4
    go_simp
    refine hK.out _ _ trivial (fun _ => ?_)
    clear hK K
    refine wpAnyH_done (by kernel_rfl) ?_ _
    have hu := HU.out _ kd
    have hx := HX.out _ kd
    go_wp2_with fail
    go_ret
    exact ⟨rfl, _, hu.1, hx.trans hu.2⟩
   ·
    go_simp
    refine hK.out _ _ trivial (fun _ => ?_)
    clear hK K
    refine wpAnyH_ready (rs := [5, 19]) (by kernel_rfl) (by simp) ?_
    refine AllReadyH.cons rfl (fun K hK => ?_) (AllReadyH.cons rfl (fun K hK => ?_) AllReadyH.nil)
    ·
     go_simp
     refine hK.out _ _ trivial (fun _ => ?_)
     clear hK K
     refine tA (some 23) 7 rfl rfl hS0 ?_
     try simp only [Act.put, zA, zB, zC]
     refine rD 19 rfl (fun K hK => ?_)
     go_simp
     refine (CW.out _).mono ?_
     rintro e y1 ⟨rfl, rfl⟩
     show K _ _
     refine hK.out _ _ trivial (fun _ => ?_)
     clear hK K
     refine tA (some 36) 20 rfl rfl hS0 ?_
     try simp only [Act.put, zA, zB, zC]
     refine tA (some 37) 21 rfl rfl hS0 ?_
     try simp only [Act.put, zA, zB, zC]
     refine rD 22 rfl (fun K hK => ?_)
     go_simp
     refine hK.out _ _ trivial (fun _ => ?_)
     clear hK K
     refine tA (some 38) 23 rfl rfl hS0 ?_
     try simp only [Act.put, zA, zB, zC]
     refine tA (some 39) 24 rfl rfl hS0 ?_
     try simp only [Act.put, zA, zB, zC]
     refine rD 25 rfl (fun K hK => ?_)
     have q4 : (World.setCell wd ⟨S, 3, none⟩ (.slice (some ⟨g, o, none⟩) n cap)).cell? ⟨S, 4, none⟩ = some (.int .u64 (s1 : Int)) := by rw [World.cell?_setCell_other _ _ _ _ (by simp)]; exact n4
     go_simp
     refine hK.out _ _ trivial (fun _ => ?_)
     clear hK K
     refine wpAnyH_done (by kernel_rfl) ?_ _
     have hu := HU.out _ kd
     have hx := HX.out _ kd
     go_wp2_with fail
     go_ret
     exact ⟨rfl, _, hu.1, hx.trans hu.2⟩
    ·
     go_simp
     refine (CW.out _).mono ?_
     rintro e y1 ⟨rfl, rfl⟩
     show K _ _
     refine hK.out _ _ trivial (fun _ => ?_)
     clear hK K
     refine rD 5 rfl (fun K hK => ?_)
     go_simp
     refine hK.out _ _ trivial (fun _ => ?_)
     clear hK K
     refine tA (some 23) 7 rfl rfl hS0 ?_
     try simp only [Act.put, zA, zB, zC]
     refine tA (some 36) 20 rfl rfl hS0 ?_
     try simp only [Act.put, zA, zB, zC]
     refine tA (some 37) 21 rfl rfl hS0 ?_
     try simp only [Act.put, zA, zB, zC]
     refine rD 22 rfl (fun K hK => ?_)
     go_simp
     refine hK.out _ _ trivial (fun _ => ?_)
     clear hK K
     refine tA (some 38) 23 rfl rfl hS0 ?_
     try simp only [Act.put, zA, zB, zC]
     refine tA (some 39) 24 rfl rfl hS0 ?_
     try simp only [Act.put, zA, zB, zC]
     refine rD 25 rfl (fun K hK => ?_)
     have q4 : (World.setCell wd ⟨S, 3, none⟩ (.slice (some ⟨g, o, none⟩) n cap)).cell? ⟨S, 4, none⟩ = some (.int .u64 (s1 : Int)) := by rw [World.cell?_setCell_other _ _ _ _ (by simp)]; exact n4
     go_simp
     refine hK.out _ _ trivial (fun _ => ?_)
     clear hK K
     refine wpAnyH_done (by kernel_rfl) ?_ _
     have hu := HU.out _ kd
     have hx := HX.out _ kd
     go_wp2_with fail
     go_ret
     exact ⟨rfl, _, hu.1, hx.trans hu.2⟩
end
end

section
open Go.RowKit
theorem bit_ne (x k : Nat) (hx : x < 9223372036854775808) (hk : 2 ^ k < 9223372036854775808) {q : Int} (hq : bits .and .i64 (x : Int) ((2 ^ k : Nat) : Int) = q) : x.testBit k = !decide (q = 0) := by
 have := bit_zero x k hx hk
 rw [hq] at this
 cases hb : x.testBit k
 ·rw [decide_eq_true (this.2 hb)]; rfl
 ·rw [decide_eq_false (fun e => by rw [this.1 e] at hb; cases hb)]; rfl
theorem pwould_any {W : World} {S B b : Nat} {h : List TxnV} {C : Nat} {r : List Nat} {vb vr : Value} {aF sF : Nat → Nat} {w : World} (p : PlIs W S B b h C r vb vr aF sF w) (hc : checkI h = 0) (hC : C < 9223372036854775808) (i : Nat) (hi : i < h.length) :
  Calls Tryz.prog 149 #[.pointer (some ⟨S, 0, none⟩), .int .i64 i] w fun e w' => e = .returned (.int .u64 ((wld4 (baseN h C i) (plS r) (rivN h i) C sF aF : Nat) : Int)) ∧ Below w.heap.size w w' := by
 obtain ⟨q16, h16⟩ : ∃ q, bits .and .i64 (C : Int) 16 = q := ⟨_, rfl⟩
 obtain ⟨q8, h8⟩ : ∃ q, bits .and .i64 (C : Int) 8 = q := ⟨_, rfl⟩
 obtain ⟨q2, h2⟩ : ∃ q, bits .and .i64 (C : Int) 2 = q := ⟨_, rfl⟩
 obtain ⟨q4, h4⟩ : ∃ q, bits .and .i64 (C : Int) 4 = q := ⟨_, rfl⟩
 have H16 := hid (bit_ne C 4 hC (by omega) h16)
 have H8 := hid (bit_ne C 3 hC (by omega) h8)
 have H2 := hid (bit_ne C 1 hC (by omega) h2)
 have H4 := hid (bit_ne C 2 hC (by omega) h4)
 have hbs := baseN_set h C i
 have hps := plS_set r
 have hrs := rivN_set h i
 have E1 : Hid (wld1 (baseN h C i) (plS r) C = if q16 = 0 then baseN h C i else baseN h C i ||| plS r) := hid (by unfold wld1; rw [H16.out]; by_cases e : q16 = 0 <;> simp [e])
 have E2 : Hid (wld2 (baseN h C i) (plS r) (rivN h i) C = if q8 = 0 then wld1 (baseN h C i) (plS r) C else wld1 (baseN h C i) (plS r) C ||| (rivN h i &&& plS r)) := hid (by unfold wld2; rw [H8.out]; by_cases e : q8 = 0 <;> simp [e])
 have E3 : Hid (wld3 (baseN h C i) (plS r) (rivN h i) C sF = if q2 = 0 then wld2 (baseN h C i) (plS r) (rivN h i) C else wld2 (baseN h C i) (plS r) (rivN h i) C ||| joinN sF (wld2 (baseN h C i) (plS r) (rivN h i) C)) := hid (by unfold wld3; rw [H2.out]; by_cases e : q2 = 0 <;> simp [e])
 have E4 : Hid (wld4 (baseN h C i) (plS r) (rivN h i) C sF aF = if q4 = 0 then wld3 (baseN h C i) (plS r) (rivN h i) C sF else wld3 (baseN h C i) (plS r) (rivN h i) C sF ||| joinN aF (wld3 (baseN h C i) (plS r) (rivN h i) C sF)) := hid (by unfold wld4; rw [H4.out]; by_cases e : q4 = 0 <;> simp [e])
 have hsF : ∀ k, k < 64 → IsSet (sF k) := fun k hk => (p.set k hk).2
 have haF : ∀ k, k < 64 → IsSet (aF k) := fun k hk => (p.set k hk).1
 have s1 := wld1_set (C := C) hbs hps
 have s2 := wld2_set (C := C) hbs hps hrs
 have s3 := wld3_set (C := C) hbs hps hrs hsF
 have CJ1 := hid (fun s wx (hs : IsSet s) (hx : Below w.heap.size w wx) => joined_any S 69 sF s wx hs hsF (fun k hk => (p.below hx).a.cS hk) (p.below hx).tab)
 have CJ2 := hid (fun s wx (hs : IsSet s) (hx : Below w.heap.size w wx) => joined_any S 5 aF s wx hs haF (fun k hk => (p.below hx).a.cA hk) (p.below hx).tab)
 have CRV := hid (fun wx (hx : Below w.heap.size w wx) => ordis_rivals (p.below hx).ord hc i)
 have HS := hid (fun wx (hx : Below w.heap.size w wx) => And.intro (p.below hx).a.cO (And.intro (p.below hx).a.cC (p.below hx).a.cP))
 obtain ⟨gb, ob, cb, hvb, hcb⟩ : ∃ gb ob cb, vb = .slice (some ⟨gb, ob, none⟩) h.length cb ∧ w.cell? ⟨gb, ob + i, none⟩ = some (.int .u64 ((baseN h C i : Nat) : Int)) := by
  obtain ⟨hl, ao, cap, e, hm, hno, hcl⟩ := Row.of_owns p.ba
  obtain ⟨g, off, e2, hcell⟩ := hcl (by omega)
  refine ⟨g, off, cap, by rw [e, e2], ?_⟩
  rw [hcell i (by omega), List.getElem?_map, List.getElem?_range hi]; rfl
 have cB := p.a.cB
 rw [hvb] at cB
 obtain ⟨n0, n1, n2⟩ := HS.out w (Below.refl _ _)
 have hii : (i : Int) < (h.length : Int) := by omega
 have hb0 := Below.refl w.heap.size w
 have hr0 : IsSet (joinN sF (wld2 (baseN h C i) (plS r) (rivN h i) C)) := joinN_set hsF
 have hr1 : IsSet (joinN aF (wld3 (baseN h C i) (plS r) (rivN h i) C sF)) := joinN_set haF
 clear p H16 H8 H2 H4 hsF haF hvb hc hi
 generalize wld4 (baseN h C i) (plS r) (rivN h i) C sF aF = x4 at *
 generalize wld3 (baseN h C i) (plS r) (rivN h i) C sF = x3 at *
 generalize wld2 (baseN h C i) (plS r) (rivN h i) C = x2 at *
 generalize wld1 (baseN h C i) (plS r) C = x1 at *
 generalize baseN h C i = x0 at *
 generalize plS r = pl at *
 generalize rivN h i = rv at *
 have CJ1 := hid (fun wx (hx : Below w.heap.size w wx) => CJ1.out x2 wx s2 hx)
 have CJ2 := hid (fun wx (hx : Below w.heap.size w wx) => CJ2.out x3 wx s3 hx)
 generalize joinN sF x2 = j1 at *
 generalize joinN aF x3 = j2 at *
 have O1 := Go.bits_or_u64_nat _ _ hbs hps
 have O2 := Go.bits_and_u64_nat _ _ hrs hps
 have O3 := Go.bits_or_u64_nat _ _ s1 (isSet_and (t := pl) hrs)
 have O4 := Go.bits_or_u64_nat _ _ s2 hr0
 have O5 := Go.bits_or_u64_nat _ _ s3 hr1
 clear hbs hps hrs s1 s2 s3 hr0 hr1
 go_enter Tryz.func149, Tryz.ntmps149
 go_upto_if 18 with fail
 go_cut [5] from 13 to 24 (fun v wx => v = .int .u64 (x1 : Int) ∧ Below w.heap.size w wx)
 case first =>
  by_cases e : q16 = 0
  ·have HE : Hid (x0 = x1) := hid (by rw [E1.out, if_pos e])
   go_wp2_with fail
   go_meet
   exact ⟨by rw [HE.out], hb0⟩
  ·have HE : Hid (x0 ||| pl = x1) := hid (by rw [E1.out, if_neg e])
   have e2 := bne_iff_ne.2 e
   go_wp2_with fail
   go_meet
   exact ⟨by rw [← HE.out], hb0⟩
 obtain ⟨rfl, hb1⟩ := hcut
 generalize wc = w1 at *
 clear hb0 cB hcb n0 n1 n2
 obtain ⟨n0, n1, n2⟩ := HS.out _ hb1
 go_upto_if 30 with fail
 go_cut [5] from 25 to 43 (fun v wx => v = .int .u64 (x2 : Int) ∧ Below w.heap.size w wx)
 case first =>
  by_cases e : q8 = 0
  ·have HE : Hid (x1 = x2) := hid (by rw [E2.out, if_pos e])
   go_wp2_with fail
   go_meet
   exact ⟨by rw [HE.out], hb1⟩
  ·have HE : Hid (x1 ||| (rv &&& pl) = x2) := hid (by rw [E2.out, if_neg e])
   have e2 := bne_iff_ne.2 e
   go_upto_region 5 with fail
   refine wp_region_held_drew (S := Below w.heap.size w) (by kernel_rfl) hb1.drew (fun hS0 => ?_)
   refine tG (some 31) 0 ?vua0 rfl rfl (Or.inl ⟨by rfl, ?hua0⟩) hS0 ?rua0
   case hua0 => (intro w hw; obtain ⟨n0, n1, n2⟩ := HS.out _ hw; go_simp; try (with_reducible rfl))
   try simp only [Act.put, zA, zB, zC]
   refine tG (some 32) 1 ?vua1 rfl rfl (Or.inl ⟨by rfl, ?hua1⟩) hS0 ?rua1
   case hua1 => (intro w hw; obtain ⟨n0, n1, n2⟩ := HS.out _ hw; go_simp; try (with_reducible rfl))
   try simp only [Act.put, zA, zB, zC]
   refine tG (some 33) 2 ?vua2 rfl rfl (Or.inl ⟨by rfl, ?hua2⟩) hS0 ?rua2
   case hua2 => (intro w hw; obtain ⟨n0, n1, n2⟩ := HS.out _ hw; go_simp; try (with_reducible rfl))
   try simp only [Act.put, zA, zB, zC]
   refine tG (some 34) 3 ?vua3 rfl rfl (Or.inl ⟨by rfl, ?hua3⟩) hS0 ?rua3
   case hua3 => (intro w hw; obtain ⟨n0, n1, n2⟩ := HS.out _ hw; go_simp; try (with_reducible rfl))
   try simp only [Act.put, zA, zB, zC]
   refine tG (some 35) 4 ?vua4 rfl rfl (Or.inl ⟨by rfl, ?hua4⟩) hS0 ?rua4
   case hua4 => (intro w hw; obtain ⟨n0, n1, n2⟩ := HS.out _ hw; go_simp; try (with_reducible rfl))
   try simp only [Act.put, zA, zB, zC]
   refine tG (some 36) 5 ?vua5 rfl rfl (Or.inl ⟨by rfl, ?hua5⟩) hS0 ?rua5
   case hua5 => (intro w hw; obtain ⟨n0, n1, n2⟩ := HS.out _ hw; go_simp; try (with_reducible rfl))
   try simp only [Act.put, zA, zB, zC]
   refine tG (some 38) 7 ?vua7 rfl rfl (Or.inl ⟨by rfl, ?hua7⟩) hS0 ?rua7
   case hua7 => (intro w hw; obtain ⟨n0, n1, n2⟩ := HS.out _ hw; go_simp; try (with_reducible rfl))
   try simp only [Act.put, zA, zB, zC]
   refine tG (some 39) 8 ?vua8 rfl rfl (Or.inl ⟨by rfl, ?hua8⟩) hS0 ?rua8
   case hua8 => (intro w hw; obtain ⟨n0, n1, n2⟩ := HS.out _ hw; go_simp; try (with_reducible rfl))
   try simp only [Act.put, zA, zB, zC]
   refine tG (some 40) 9 ?vua9 rfl rfl (Or.inl ⟨by rfl, ?hua9⟩) hS0 ?rua9
   case hua9 => (intro w hw; obtain ⟨n0, n1, n2⟩ := HS.out _ hw; go_simp; try (with_reducible rfl))
   try simp only [Act.put, zA, zB, zC]
   refine tG (some 41) 10 ?vua10 rfl rfl (Or.inl ⟨by rfl, ?hua10⟩) hS0 ?rua10
   case hua10 => (intro w hw; obtain ⟨n0, n1, n2⟩ := HS.out _ hw; go_simp; try (with_reducible rfl))
   try simp only [Act.put, zA, zB, zC]
   refine rD 6 rfl (fun K hK => ?_)
   go_simp
   refine (CRV.out _ hS0).mono ?_
   rintro e y1 ⟨rfl, j1⟩
   show K _ _
   have s1 := below_then hS0 j1
   refine hK.out _ _ s1 (fun _ => ?_)
   clear hK K
   refine tG (some 42) 11 ?vua11 rfl rfl (Or.inl ⟨by rfl, ?hua11⟩) s1 ?rua11
   case hua11 => (intro w hw; obtain ⟨n0, n1, n2⟩ := HS.out _ hw; go_simp; try (with_reducible rfl))
   try simp only [Act.put, zA, zB, zC]
   refine tG (some 43) 12 ?vua12 rfl rfl (Or.inl ⟨by rfl, ?hua12⟩) s1 ?rua12
   case hua12 => (intro w hw; obtain ⟨n0, n1, n2⟩ := HS.out _ hw; go_simp; try (with_reducible rfl))
   try simp only [Act.put, zA, zB, zC]
   refine tG (some 5) 13 ?vua13 rfl rfl (Or.inl ⟨by rfl, ?hua13⟩) s1 ?rua13
   case hua13 => (intro w hw; obtain ⟨n0, n1, n2⟩ := HS.out _ hw; go_simp; try (with_reducible rfl))
   try simp only [Act.put, zA, zB, zC]
   refine wpAnyH_done (by kernel_rfl) ?_ _
   rw [HE.out]
   go_wp2_with fail
   go_meet
   exact ⟨rfl, s1⟩
 obtain ⟨rfl, hb2⟩ := hcut
 generalize wc = w2 at *
 clear hb1 n0 n1 n2
 obtain ⟨n0, n1, n2⟩ := HS.out _ hb2
 go_upto_if 49 with fail
 go_cut [5] from 44 to 56 (fun v wx => v = .int .u64 (x3 : Int) ∧ Below w.heap.size w wx)
 case first =>
  by_cases e : q2 = 0
  ·have HE : Hid (x2 = x3) := hid (by rw [E3.out, if_pos e])
   go_wp2_with fail
   go_meet
   exact ⟨by rw [HE.out], hb2⟩
  ·have HE : Hid (x2 ||| j1 = x3) := hid (by rw [E3.out, if_neg e])
   have e2 := bne_iff_ne.2 e
   go_wp2_with fail
   refine (CJ1.out _ hb2).mono ?_
   rintro e w3 ⟨rfl, h3⟩
   have hb3 := below_then hb2 h3
   go_wp2_with fail
   go_meet
   exact ⟨by rw [← HE.out], hb3⟩
 obtain ⟨rfl, hb3⟩ := hcut
 generalize wc = w3 at *
 clear hb2 n0 n1 n2
 obtain ⟨n0, n1, n2⟩ := HS.out _ hb3
 go_upto_region 8 with fail
 by_cases e : q4 = 0
 ·have HE : Hid ((x3 : Int) = ((x4 : Nat) : Int)) := hid (by rw [E4.out, if_pos e])
  go_wp2_with fail
  go_ret
  exact ⟨ret_i HE.out, hb3⟩
 ·have HE : Hid (((x3 ||| j2 : Nat) : Int) = ((x4 : Nat) : Int)) := hid (by rw [E4.out, if_neg e])
  have e2 := bne_iff_ne.2 e
  go_wp2_with fail
  refine (CJ2.out _ hb3).mono ?_
  rintro e w4 ⟨rfl, h4⟩
  have hb4 := below_then hb3 h4
  go_wp2_with fail
  go_ret
  exact ⟨ret_i HE.out, hb4⟩
end

section
open Go.RowKit
def placeF : List Int → Int → Nat → Int
 | [], _, _ => -1
 | a :: r, i, k => if a = i then (k : Int) else placeF r i (k + 1)
def placeI (l : List Int) (i : Int) : Int := placeF l i 0
theorem placeF_neg (i : Int) : ∀ (l : List Int) (k : Nat), placeF l i k < 0 ↔ i ∉ l
 | [], k => by simp [placeF]
 | a :: r, k => by
  unfold placeF
  by_cases h : a = i
  ·rw [if_pos h]
   constructor
   ·intro h2; omega
   ·intro h2; exact absurd (by rw [h]; exact List.mem_cons_self) h2
  ·rw [if_neg h, placeF_neg i r (k + 1), List.mem_cons]
   constructor
   ·intro h2 h3
    rcases h3 with h3 | h3
    ·exact h h3.symm
    ·exact h2 h3
   ·intro h2 h3; exact h2 (.inr h3)
theorem placeF_step {l : List Int} {i : Int} {k : Nat} (h : k < l.length) : placeF (l.drop k) i k = if l[k] = i then (k : Int) else placeF (l.drop (k + 1)) i (k + 1) := by
 rw [List.drop_eq_getElem_cons h]; rfl
theorem rplace_any (va : Value) (l : List Int) (i : Int) (w : World) (hl : Ints w va l) :
  Calls Tryz.prog 134 #[va, .int .i64 i] w fun e w' => e = .returned (.int .i64 (placeI l i)) ∧ w = w' := by
 have HL := hid hl
 obtain ⟨ao, cap, rfl, hal⟩ := hl.form
 have HR : Hid (placeI l i = placeF (l.drop 0) i 0) := hid (by rw [List.drop_zero]; rfl)
 generalize placeI l i = z at *
 clear hl
 go_enter Tryz.func134, Tryz.ntmps134
 go_wp2_with fail
 go_loopw [5] (fun v wr => ∃ k : Nat, k ≤ l.length ∧ v = .int .i64 k ∧ Hid (z = placeF (l.drop k) i k) ∧ w = wr) (fun v _ => l.length - (intOf v).toNat)
 case atStart => exact ⟨0, by omega, rfl, HR, rfl⟩
 case round =>
  clear HR
  obtain ⟨k, hk, rfl, HP, rfl⟩ := hrel
  by_cases hlt : k < l.length
  ·have hki : (k : Int) < (l.length : Int) := by omega
   obtain ⟨g, o, hao, e0⟩ := HL.out.at hlt
   cases hao
   have HN := hid (HP.out.trans (placeF_step hlt))
   clear HP
   generalize l[k] = x at *
   by_cases hx : x = i
   ·have HV : Hid ((k : Int) = z) := hid (by rw [HN.out, if_pos hx])
    subst hx
    clear HN
    go_wp2_with fail
    go_ret
    exact ⟨congrArg (fun q => Ending.returned (Value.int .i64 q)) HV.out, rfl⟩
   ·have HV : Hid (z = placeF (l.drop (k + 1)) i (k + 1)) := hid (by rw [HN.out, if_neg hx])
    clear HN
    go_wp2_with fail
    go_roundw
    case rel => exact ⟨k + 1, by omega, by go_num, HV, by first | rfl | trivial⟩
    case measure => simp [intOf]; omega
  ·have hk2 : k = l.length := by omega
   subst hk2
   have HV : Hid (z = -1) := hid (by rw [HP.out, List.drop_length]; rfl)
   clear HP
   go_wp2_with fail
   go_ret
   exact ⟨congrArg (fun q => Ending.returned (Value.int .i64 q)) HV.out.symm, rfl⟩
def rowTo (l : List Int) (k : Nat) : Bool := (List.range k).all fun i => decide ((i : Int) ∈ l)
theorem rowTo_succ (l : List Int) (k : Nat) : rowTo l (k + 1) = (rowTo l k && decide ((k : Int) ∈ l)) := by
 unfold rowTo; rw [List.range_succ, List.all_append]; simp
theorem rowTo_no {l : List Int} {k n : Nat} (h : k < n) (hn : ¬ (k : Int) ∈ l) : rowTo l n = false := by
 unfold rowTo
 rw [List.all_eq_false]
 exact ⟨k, List.mem_range.2 h, by simpa using hn⟩
def rowRef12 (n : Nat) (l : List Int) : Bool := rowTo l n && decide ((l.length : Int) = n)
theorem rrow12_any (n : Nat) (va : Value) (l : List Int) (w : World) (hn : n ≤ 1000) (hl : Ints w va l) :
  Calls Tryz.prog 85 #[.int .i64 n, va] w fun e w' => e = .returned (.bool (rowRef12 n l)) ∧ w = w' := by
 have CP := hid (fun i => rplace_any va l i w hl)
 obtain ⟨ao, cap, rfl, hal⟩ := hl.form
 have HR : Hid (rowRef12 n l = (rowTo l n && decide ((l.length : Int) = n))) := hid rfl
 generalize rowRef12 n l = z at *
 clear hl
 go_enter Tryz.func85, Tryz.ntmps85
 go_wp2_with fail
 go_loopw [5] (fun v wr => ∃ k : Nat, k ≤ n ∧ v = .int .i64 k ∧ Hid (rowTo l k = true) ∧ w = wr) (fun v _ => n - (intOf v).toNat)
 case atStart => exact ⟨0, by omega, rfl, hid rfl, rfl⟩
 case round =>
  obtain ⟨k, hk, rfl, HP, rfl⟩ := hrel
  by_cases hlt : k < n
  ·have hki : (k : Int) < (n : Int) := by omega
   have CK := hid (CP.out (k : Int))
   by_cases hm : (k : Int) ∈ l
   ·have hz : ¬ placeI l (k : Int) < 0 := fun h => (placeF_neg _ l 0).1 h hm
    have HV : Hid (rowTo l (k + 1) = true) := hid (by rw [rowTo_succ, HP.out, decide_eq_true hm]; rfl)
    clear HP HR CP hm
    generalize placeI l (k : Int) = p at *
    go_wp2_with fail
    refine (CK.out).mono ?_
    rintro e w1 ⟨rfl, rfl⟩
    go_wp2_with fail
    go_roundw
    case rel => exact ⟨k + 1, by omega, by go_num, HV, by first | rfl | trivial⟩
    case measure => simp [intOf]; omega
   ·have hz : placeI l (k : Int) < 0 := (placeF_neg _ l 0).2 hm
    have HV : Hid (false = z) := hid (by rw [HR.out, rowTo_no hlt hm]; rfl)
    clear HP HR CP hm
    generalize placeI l (k : Int) = p at *
    go_wp2_with fail
    refine (CK.out).mono ?_
    rintro e w1 ⟨rfl, rfl⟩
    go_wp2_with fail
    go_ret
    exact ⟨ret_b HV.out, rfl⟩
  ·have hk2 : k = n := by omega
   subst hk2
   by_cases hq : (l.length : Int) = (k : Int)
   ·have HV : Hid (true = z) := hid (by rw [HR.out, HP.out, decide_eq_true hq]; rfl)
    clear HP HR CP
    go_wp2_with fail
    go_ret
    exact ⟨ret_b HV.out, rfl⟩
   ·have HV : Hid (false = z) := hid (by rw [HR.out, HP.out, decide_eq_false hq]; rfl)
    clear HP HR CP
    go_wp2_with fail
    go_ret
    exact ⟨ret_b ((beq_eq_false_iff_ne.2 hq).trans HV.out), rfl⟩
theorem count_full : ∀ (n : Nat) (l : List Int), l.length = n → rowTo l n = true → ∀ a ∈ l, 0 ≤ a ∧ a < (n : Int)
 | 0, [], _, _, a, h => by cases h
 | n + 1, l, hl, hr, a, ha => by
  rw [rowTo_succ, Bool.and_eq_true, decide_eq_true_eq] at hr
  obtain ⟨h1, h2⟩ := hr
  have hle : (l.erase (n : Int)).length = n := by rw [List.length_erase_of_mem h2, hl]; rfl
  have hr2 : rowTo (l.erase (n : Int)) n = true := by
   unfold rowTo at h1 ⊢
   rw [List.all_eq_true] at h1 ⊢
   intro i hi
   have hin := List.mem_range.1 hi
   have h3 := h1 i hi
   rw [decide_eq_true_eq] at h3 ⊢
   exact (List.mem_erase_of_ne (by omega)).2 h3
  have ih := count_full n (l.erase (n : Int)) hle hr2
  by_cases hn : a = (n : Int)
  ·omega
  ·have := ih a ((List.mem_erase_of_ne hn).2 ha)
   omega
theorem row_same (n : Nat) (hn : n ≤ 64) (l : List Int) : rowOkA (n : Int) l = rowRef12 n l := by
 unfold rowOkA rowRef12
 rw [Bool.and_comm]
 by_cases hl : (l.length : Int) = n
 ·rw [decide_eq_true hl, Bool.and_true, Bool.and_true, Bool.eq_iff_iff, decide_eq_true_eq, setL_eq, ← below_eq]
  have hm : min 64 ((n : Int)).toNat = n := by omega
  rw [hm]
  have hb : ∀ (m : List Int) (i : Nat), i < 64 → ((ofL m).testBit i = true ↔ (i : Int) ∈ m) := fun m i hi => by
   rw [testBit_ofL, decide_eq_true hi, Bool.true_and]
   unfold hasL
   rw [List.any_eq_true]
   constructor
   ·rintro ⟨x, hx, he⟩
    have : x = (i : Int) := by simpa using he
    rw [← this]; exact hx
   ·intro h; exact ⟨_, h, by simp⟩
  have hr : ∀ i : Nat, ((i : Int) ∈ (List.range n).map Int.ofNat) ↔ i < n := fun i => by
   rw [List.mem_map]
   constructor
   ·rintro ⟨q, hq, e⟩
    have := List.mem_range.1 hq
    have e2 : (q : Int) = (i : Int) := e
    omega
   ·intro h; exact ⟨i, List.mem_range.2 h, rfl⟩
  constructor
  ·intro e
   unfold rowTo
   rw [List.all_eq_true]
   intro i hi
   have hin := List.mem_range.1 hi
   rw [decide_eq_true_eq]
   refine (hb l i (by omega)).1 ?_
   rw [e]
   exact (hb _ i (by omega)).2 ((hr i).2 hin)
  ·intro h
   refine set_ext (isSet_ofL l) (isSet_ofL _) fun i hi => ?_
   rw [Bool.eq_iff_iff, hb l i hi, hb _ i hi, hr i]
   constructor
   ·intro hm
    have := count_full n l (by omega) h _ hm
    omega
   ·intro hin
    unfold rowTo at h
    have := List.all_eq_true.1 h i (List.mem_range.2 hin)
    simpa using this
 ·rw [decide_eq_false hl, Bool.and_false, Bool.and_false]
end

section
open Go.RowKit
theorem rtime_any (va : Value) (h : List TxnV) (a b : Nat) (w : World) (hT : Txns w va h) (ha : a < h.length) (hb : b < h.length) :
  Calls Tryz.prog 193 #[va, .int .i64 a, .int .i64 b] w fun e w' => e = .returned (.bool (decide (h[a].c < h[b].b))) ∧ Below w.heap.size w w' := by
 obtain ⟨ao, cap, rfl, hal⟩ := hT.form
 obtain ⟨g, o, hao, c0, c1, c2, c3⟩ := hT.at ha
 cases hao
 obtain ⟨g', o', hao, d0, d1, d2, d3⟩ := hT.at hb
 cases hao
 have hai : (a : Int) < (h.length : Int) := by omega
 have hbi : (b : Int) < (h.length : Int) := by omega
 generalize h[a].c = x at *
 generalize h[b].b = y at *
 clear c0 c1 c3 d0 d2 d3 hT
 go_enter Tryz.func193, Tryz.ntmps193
 go_wp2_with fail
 go_quiet (fail)
 go_wp2_with fail
 go_ret
 exact ⟨rfl, below_drewN (Below.refl _ _) _⟩
theorem rsession_any (va : Value) (h : List TxnV) (a b : Nat) (w : World) (hT : Txns w va h) (ha : a < h.length) (hb : b < h.length) :
  Calls Tryz.prog 192 #[va, .int .i64 a, .int .i64 b] w fun e w' => e = .returned (.bool (decide (a < b) && decide (h[a].s = h[b].s))) ∧ Below w.heap.size w w' := by
 obtain ⟨ao, cap, rfl, hal⟩ := hT.form
 obtain ⟨g, o, hao, c0, c1, c2, c3⟩ := hT.at ha
 cases hao
 obtain ⟨g', o', hao, d0, d1, d2, d3⟩ := hT.at hb
 cases hao
 have hai : (a : Int) < (h.length : Int) := by omega
 have hbi : (b : Int) < (h.length : Int) := by omega
 generalize h[a].s = x at *
 generalize h[b].s = y at *
 clear c1 c2 c3 d1 d2 d3 hT
 by_cases hab : a < b
 ·have H : Hid ((decide (a < b) && decide (x = y)) = decide (x = y)) := hid (by rw [decide_eq_true hab]; rfl)
  have habi : (a : Int) < (b : Int) := by omega
  rw [H.out]
  clear hab H
  go_enter Tryz.func192, Tryz.ntmps192
  go_wp2_with fail
  go_quiet (fail)
  go_wp2_with fail
  go_ret
  exact ⟨rfl, below_drewN (Below.refl _ _) _⟩
 ·have H : Hid ((decide (a < b) && decide (x = y)) = false) := hid (by rw [decide_eq_false hab]; rfl)
  have habi : ¬ (a : Int) < (b : Int) := by omega
  have hd : decide ((a : Int) < (b : Int)) = false := decide_eq_false habi
  have hle : (b : Int) ≤ (a : Int) := by omega
  have hdn : decide (a < b) = false := decide_eq_false hab
  rw [H.out]
  clear H
  go_enter Tryz.func192, Tryz.ntmps192
  go_wp2_with fail
  go_quiet (fail)
  go_wp2_with fail
  go_ret
  exact ⟨rfl, below_drewN (Below.refl _ _) _⟩
end

section
open Go.RowKit
def ahR (l : List Int) (i k : Int) : Bool := decide (placeI l i < placeI l k)
theorem rahead_any (va : Value) (l : List Int) (i k : Int) (w : World) (hl : Ints w va l) :
  Calls Tryz.prog 194 #[va, .int .i64 i, .int .i64 k] w fun e w' => e = .returned (.bool (ahR l i k)) ∧ w = w' := by
 have C := hid (fun j => rplace_any va l j w hl)
 have HR : Hid (ahR l i k = decide (placeI l i < placeI l k)) := hid rfl
 obtain ⟨ao, cap, rfl, hal⟩ := hl.form
 have CI := hid (C.out i)
 have CK := hid (C.out k)
 generalize ahR l i k = z at *
 generalize placeI l i = x at *
 generalize placeI l k = y at *
 clear hl C
 go_enter Tryz.func194, Tryz.ntmps194
 go_wp2_with fail
 refine (CI.out).mono ?_
 rintro e w1 ⟨rfl, rfl⟩
 go_wp2_with fail
 refine (CK.out).mono ?_
 rintro e w1 ⟨rfl, rfl⟩
 go_wp2_with fail
 go_ret
 exact ⟨ret_b HR.out.symm, rfl⟩
def mustR (h : List TxnV) (x : Nat) (l : List Int) (i k : Nat) : Bool := ((froR h i k || (hasT x 1 && sesP h i k)) || (hasT x 32 && timP h i k)) || (ahR l (i : Int) (k : Int) && (hasT x 16 || (hasT x 8 && rivR h i k)))
theorem rmust_any (va vr : Value) (h : List TxnV) (x : Nat) (hx : x < 64) (l : List Int) (i k : Nat) (hi : i < h.length) (hk : k < h.length) (hne : i ≠ k) (w : World) (hT : Txns w va h) (hl : Ints w vr l) :
  Calls Tryz.prog 176 #[va, .int .i64 x, vr, .int .i64 i, .int .i64 k] w fun e w' => e = .returned (.bool (mustR h x l i k)) ∧ Below w.heap.size w w' := by
 have CF := hid (rfrom8_any va h i k hk w hT)
 have CS := hid (fun wx (hx : Below w.heap.size w wx) => rsession_any va h i k wx (hT.below hx) hi hk)
 have CT := hid (fun wx (hx : Below w.heap.size w wx) => rtime_any va h i k wx (hT.below hx) hi hk)
 have CR := hid (fun wx (hx : Below w.heap.size w wx) => rrivals_any va h i k hi hk hne wx (hT.below hx))
 have CA := hid (fun wx (hx : Below w.heap.size w wx) => rahead_any vr l (i : Int) (k : Int) wx (hl.below hx))
 have C1 := hid (fun wx => rl_has x 1 hx (by omega) (by omega) wx)
 have C32 := hid (fun wx => rl_has x 32 hx (by omega) (by omega) wx)
 have C16 := hid (fun wx => rl_has x 16 hx (by omega) (by omega) wx)
 have C8 := hid (fun wx => rl_has x 8 hx (by omega) (by omega) wx)
 have HR : Hid (mustR h x l i k = (((froR h i k || (hasT x 1 && sesP h i k)) || (hasT x 32 && timP h i k)) || (ahR l (i : Int) (k : Int) && (hasT x 16 || (hasT x 8 && rivR h i k))))) := hid rfl
 rw [show sesP h i k = (decide (i < k) && decide (h[i].s = h[k].s)) by unfold sesP; rw [sAt_eq hi, sAt_eq hk], show timP h i k = decide (h[i].c < h[k].b) by unfold timP; rw [cAt_eq hi, bAt_eq hk]] at HR
 obtain ⟨ao, cap, rfl, hal⟩ := hT.form
 obtain ⟨ro, rcap, rfl, hrl⟩ := hl.form
 clear hT hl
 generalize mustR h x l i k = z at *
 generalize froR h i k = p1 at *
 generalize (decide (i < k) && decide (h[i].s = h[k].s)) = p2 at *
 generalize decide (h[i].c < h[k].b) = p3 at *
 generalize rivR h i k = p4 at *
 generalize ahR l (i : Int) (k : Int) = p5 at *
 generalize hasT x 1 = b1 at *
 generalize hasT x 32 = b2 at *
 generalize hasT x 16 = b3 at *
 generalize hasT x 8 = b4 at *
 go_enter Tryz.func176, Tryz.ntmps176
 go_wp2_with fail
 refine (CF.out).mono ?_
 rintro e w1 ⟨rfl, hb⟩
 cases p1 with
 | true =>
  go_wp2_with fail
  go_ret
  exact ⟨ret_b (by rw [HR.out]; rfl), hb⟩
 | false =>
  go_wp2_with fail
  refine (C1.out _).mono ?_
  rintro e w2 ⟨rfl, rfl⟩
  cases b1 with
  | true =>
   go_wp2_with fail
   refine (CS.out _ hb).mono ?_
   rintro e w2 ⟨rfl, hn⟩
   have hb := below_then hb hn
   clear hn
   cases p2 with
   | true =>
    go_wp2_with fail
    go_ret
    exact ⟨ret_b (by rw [HR.out]; rfl), hb⟩
   | false =>
    go_wp2_with fail
    refine (C32.out _).mono ?_
    rintro e w2 ⟨rfl, rfl⟩
    cases b2 with
    | true =>
     go_wp2_with fail
     refine (CT.out _ hb).mono ?_
     rintro e w2 ⟨rfl, hn⟩
     have hb := below_then hb hn
     clear hn
     cases p3 with
     | true =>
      go_wp2_with fail
      go_ret
      exact ⟨ret_b (by rw [HR.out]; rfl), hb⟩
     | false =>
      go_wp2_with fail
      refine (CA.out _ hb).mono ?_
      rintro e w2 ⟨rfl, rfl⟩
      cases p5 with
      | true =>
       go_wp2_with fail
       refine (C16.out _).mono ?_
       rintro e w2 ⟨rfl, rfl⟩
       cases b3 with
       | true =>
        go_wp2_with fail
        go_ret
        exact ⟨ret_b (by rw [HR.out]; rfl), hb⟩
       | false =>
        go_wp2_with fail
        refine (C8.out _).mono ?_
        rintro e w2 ⟨rfl, rfl⟩
        cases b4 with
        | true =>
         go_wp2_with fail
         refine (CR.out _ hb).mono ?_
         rintro e w2 ⟨rfl, hn⟩
         have hb := below_then hb hn
         clear hn
         cases p4 with
         | true =>
          go_wp2_with fail
          go_ret
          exact ⟨ret_b (by rw [HR.out]; rfl), hb⟩
         | false =>
          go_wp2_with fail
          go_ret
          exact ⟨ret_b (by rw [HR.out]; rfl), hb⟩
        | false =>
         go_wp2_with fail
         go_ret
         exact ⟨ret_b (by rw [HR.out]; rfl), hb⟩
      | false =>
       go_wp2_with fail
       go_ret
       exact ⟨ret_b (by rw [HR.out]; rfl), hb⟩
    | false =>
     go_wp2_with fail
     refine (CA.out _ hb).mono ?_
     rintro e w2 ⟨rfl, rfl⟩
     cases p5 with
     | true =>
      go_wp2_with fail
      refine (C16.out _).mono ?_
      rintro e w2 ⟨rfl, rfl⟩
      cases b3 with
      | true =>
       go_wp2_with fail
       go_ret
       exact ⟨ret_b (by rw [HR.out]; rfl), hb⟩
      | false =>
       go_wp2_with fail
       refine (C8.out _).mono ?_
       rintro e w2 ⟨rfl, rfl⟩
       cases b4 with
       | true =>
        go_wp2_with fail
        refine (CR.out _ hb).mono ?_
        rintro e w2 ⟨rfl, hn⟩
        have hb := below_then hb hn
        clear hn
        cases p4 with
        | true =>
         go_wp2_with fail
         go_ret
         exact ⟨ret_b (by rw [HR.out]; rfl), hb⟩
        | false =>
         go_wp2_with fail
         go_ret
         exact ⟨ret_b (by rw [HR.out]; rfl), hb⟩
       | false =>
        go_wp2_with fail
        go_ret
        exact ⟨ret_b (by rw [HR.out]; rfl), hb⟩
     | false =>
      go_wp2_with fail
      go_ret
      exact ⟨ret_b (by rw [HR.out]; rfl), hb⟩
  | false =>
   go_wp2_with fail
   refine (C32.out _).mono ?_
   rintro e w2 ⟨rfl, rfl⟩
   cases b2 with
   | true =>
    go_wp2_with fail
    refine (CT.out _ hb).mono ?_
    rintro e w2 ⟨rfl, hn⟩
    have hb := below_then hb hn
    clear hn
    cases p3 with
    | true =>
     go_wp2_with fail
     go_ret
     exact ⟨ret_b (by rw [HR.out]; rfl), hb⟩
    | false =>
     go_wp2_with fail
     refine (CA.out _ hb).mono ?_
     rintro e w2 ⟨rfl, rfl⟩
     cases p5 with
     | true =>
      go_wp2_with fail
      refine (C16.out _).mono ?_
      rintro e w2 ⟨rfl, rfl⟩
      cases b3 with
      | true =>
       go_wp2_with fail
       go_ret
       exact ⟨ret_b (by rw [HR.out]; rfl), hb⟩
      | false =>
       go_wp2_with fail
       refine (C8.out _).mono ?_
       rintro e w2 ⟨rfl, rfl⟩
       cases b4 with
       | true =>
        go_wp2_with fail
        refine (CR.out _ hb).mono ?_
        rintro e w2 ⟨rfl, hn⟩
        have hb := below_then hb hn
        clear hn
        cases p4 with
        | true =>
         go_wp2_with fail
         go_ret
         exact ⟨ret_b (by rw [HR.out]; rfl), hb⟩
        | false =>
         go_wp2_with fail
         go_ret
         exact ⟨ret_b (by rw [HR.out]; rfl), hb⟩
       | false =>
        go_wp2_with fail
        go_ret
        exact ⟨ret_b (by rw [HR.out]; rfl), hb⟩
     | false =>
      go_wp2_with fail
      go_ret
      exact ⟨ret_b (by rw [HR.out]; rfl), hb⟩
   | false =>
    go_wp2_with fail
    refine (CA.out _ hb).mono ?_
    rintro e w2 ⟨rfl, rfl⟩
    cases p5 with
    | true =>
     go_wp2_with fail
     refine (C16.out _).mono ?_
     rintro e w2 ⟨rfl, rfl⟩
     cases b3 with
     | true =>
      go_wp2_with fail
      go_ret
      exact ⟨ret_b (by rw [HR.out]; rfl), hb⟩
     | false =>
      go_wp2_with fail
      refine (C8.out _).mono ?_
      rintro e w2 ⟨rfl, rfl⟩
      cases b4 with
      | true =>
       go_wp2_with fail
       refine (CR.out _ hb).mono ?_
       rintro e w2 ⟨rfl, hn⟩
       have hb := below_then hb hn
       clear hn
       cases p4 with
       | true =>
        go_wp2_with fail
        go_ret
        exact ⟨ret_b (by rw [HR.out]; rfl), hb⟩
       | false =>
        go_wp2_with fail
        go_ret
        exact ⟨ret_b (by rw [HR.out]; rfl), hb⟩
      | false =>
       go_wp2_with fail
       go_ret
       exact ⟨ret_b (by rw [HR.out]; rfl), hb⟩
    | false =>
     go_wp2_with fail
     go_ret
     exact ⟨ret_b (by rw [HR.out]; rfl), hb⟩
def folJ (m : List Pr) (x : Nat) (l : List Int) (i k j : Int) : Bool := hasP m j k && ((hasT x 2 && hasP m i j) || (hasT x 4 && ahR l i j))
def folR (m : List Pr) (x : Nat) (l : List Int) (i k : Int) (n : Nat) : Bool := (List.range n).any fun j => folJ m x l i k (j : Int)
theorem rfollows_any (vm vr : Value) (m : List Pr) (n x : Nat) (hx : x < 64) (hn : n ≤ 1000) (l : List Int) (i k : Int) (w : World) (hm : Prs w vm m) (hl : Ints w vr l) :
  Calls Tryz.prog 179 #[vm, .int .i64 n, .int .i64 x, vr, .int .i64 i, .int .i64 k] w fun e w' => e = .returned (.bool (folR m x l i k n)) ∧ w = w' := by
 have CH := hid (fun a b => phas_any vm m a b w hm)
 have CA := hid (fun j => rahead_any vr l i j w hl)
 have C2 := hid (rl_has x 2 hx (by omega) (by omega) w)
 have C4 := hid (rl_has x 4 hx (by omega) (by omega) w)
 have HJ := hid (fun j : Int => show folJ m x l i k j = (hasP m j k && ((hasT x 2 && hasP m i j) || (hasT x 4 && ahR l i j))) from rfl)
 have HR : Hid (folR m x l i k n = (List.range n).any fun j => folJ m x l i k (j : Int)) := hid rfl
 obtain ⟨ao, cap, rfl, hal⟩ := hm.form
 obtain ⟨ro, rcap, rfl, hrl⟩ := hl.form
 clear hm hl
 generalize folR m x l i k n = z at *
 generalize folJ m x l i k = F at *
 generalize hasT x 2 = b1 at *
 generalize hasT x 4 = b2 at *
 go_enter Tryz.func179, Tryz.ntmps179
 go_wp2_with fail
 go_loopw [13] (fun v wr => ∃ j : Nat, j ≤ n ∧ v = .int .i64 j ∧ Hid (((List.range j).any fun j => F (j : Int)) = false) ∧ w = wr) (fun v _ => n - (intOf v).toNat)
 case atStart => exact ⟨0, by omega, rfl, hid rfl, rfl⟩
 case round =>
  obtain ⟨j, hj, rfl, HP, rfl⟩ := hrel
  by_cases hlt : j < n
  ·have hji : (j : Int) < (n : Int) := by omega
   have HS := hid (show ((List.range (j + 1)).any fun j => F (j : Int)) = F (j : Int) by rw [List.range_succ, List.any_append, HP.out]; simp)
   have HY := hid (show F (j : Int) = true → z = true from fun h => by rw [HR.out]; exact List.any_eq_true.2 ⟨j, List.mem_range.2 hlt, h⟩)
   have HQ := hid (HJ.out (j : Int))
   have D1 := hid (CH.out (j : Int) k)
   have D2 := hid (CH.out i (j : Int))
   have D3 := hid (CA.out (j : Int))
   generalize hasP m (j : Int) k = p1 at *
   generalize hasP m i (j : Int) = p2 at *
   generalize ahR l i (j : Int) = p3 at *
   generalize F (j : Int) = q at *
   clear CH CA HJ HP HR
   go_wp2_with fail
   refine (D1.out).mono ?_
   rintro e w1 ⟨rfl, rfl⟩
   cases p1 with
   | true =>
    go_wp2_with fail
    refine (C2.out).mono ?_
    rintro e w1 ⟨rfl, rfl⟩
    cases b1 with
    | true =>
     go_wp2_with fail
     refine (D2.out).mono ?_
     rintro e w1 ⟨rfl, rfl⟩
     cases p2 with
     | true =>
      have HT : Hid (true = z) := hid (HY.out (by rw [HQ.out]; rfl)).symm
      clear HS HQ HY D1 D2 D3
      go_wp2_with fail
      go_ret
      exact ⟨ret_b HT.out, rfl⟩
     | false =>
      go_wp2_with fail
      refine (C4.out).mono ?_
      rintro e w1 ⟨rfl, rfl⟩
      cases b2 with
      | true =>
       go_wp2_with fail
       refine (D3.out).mono ?_
       rintro e w1 ⟨rfl, rfl⟩
       cases p3 with
       | true =>
        have HT : Hid (true = z) := hid (HY.out (by rw [HQ.out]; rfl)).symm
        clear HS HQ HY D1 D2 D3
        go_wp2_with fail
        go_ret
        exact ⟨ret_b HT.out, rfl⟩
       | false =>
        have HN : Hid (((List.range (j + 1)).any fun j => F (j : Int)) = false) := hid (by rw [HS.out, HQ.out]; rfl)
        clear HS HQ HY D1 D2 D3
        go_wp2_with fail
        go_roundw
        case rel => exact ⟨j + 1, by omega, by go_num, HN, by first | rfl | trivial⟩
        case measure => simp [intOf]; omega
      | false =>
       have HN : Hid (((List.range (j + 1)).any fun j => F (j : Int)) = false) := hid (by rw [HS.out, HQ.out]; rfl)
       clear HS HQ HY D1 D2 D3
       go_wp2_with fail
       go_roundw
       case rel => exact ⟨j + 1, by omega, by go_num, HN, by first | rfl | trivial⟩
       case measure => simp [intOf]; omega
    | false =>
     go_wp2_with fail
     refine (C4.out).mono ?_
     rintro e w1 ⟨rfl, rfl⟩
     cases b2 with
     | true =>
      go_wp2_with fail
      refine (D3.out).mono ?_
      rintro e w1 ⟨rfl, rfl⟩
      cases p3 with
      | true =>
       have HT : Hid (true = z) := hid (HY.out (by rw [HQ.out]; rfl)).symm
       clear HS HQ HY D1 D2 D3
       go_wp2_with fail
       go_ret
       exact ⟨ret_b HT.out, rfl⟩
      | false =>
       have HN : Hid (((List.range (j + 1)).any fun j => F (j : Int)) = false) := hid (by rw [HS.out, HQ.out]; rfl)
       clear HS HQ HY D1 D2 D3
       go_wp2_with fail
       go_roundw
       case rel => exact ⟨j + 1, by omega, by go_num, HN, by first | rfl | trivial⟩
       case measure => simp [intOf]; omega
     | false =>
      have HN : Hid (((List.range (j + 1)).any fun j => F (j : Int)) = false) := hid (by rw [HS.out, HQ.out]; rfl)
      clear HS HQ HY D1 D2 D3
      go_wp2_with fail
      go_roundw
      case rel => exact ⟨j + 1, by omega, by go_num, HN, by first | rfl | trivial⟩
      case measure => simp [intOf]; omega
   | false =>
    have HN : Hid (((List.range (j + 1)).any fun j => F (j : Int)) = false) := hid (by rw [HS.out, HQ.out]; rfl)
    clear HS HQ HY D1 D2 D3
    go_wp2_with fail
    go_roundw
    case rel => exact ⟨j + 1, by omega, by go_num, HN, by first | rfl | trivial⟩
    case measure => simp [intOf]; omega
  ·have hj2 : j = n := by omega
   subst hj2
   have HV : Hid (false = z) := hid (by rw [HR.out]; exact HP.out.symm)
   clear HP HR
   go_wp2_with fail
   go_ret
   exact ⟨ret_b HV.out, rfl⟩
end

section
open Go.RowKit
def gridP (n : Nat) : List Pr := (List.range n).flatMap fun i => (List.range n).map fun k => (((i : Nat) : Int), ((k : Nat) : Int))
theorem gridP_len (n : Nat) : (gridP n).length = n * n := by
 unfold gridP
 rw [List.length_flatMap]
 have : ((List.range n).map fun i => ((List.range n).map fun k => ((((i : Nat) : Int), ((k : Nat) : Int)) : Pr)).length) = (List.range n).map fun _ => n := by simp
 rw [this, List.map_const']
 have hr : ∀ n k : Nat, (List.replicate n k).sum = n * k := by
  intro n k; induction n with
  | zero => simp
  | succ n ih => rw [List.replicate_succ, List.sum_cons, ih, Nat.succ_mul]; omega
 rw [hr, List.length_range]
theorem mem_gridP {n : Nat} {p : Pr} : p ∈ gridP n ↔ ∃ i k : Nat, i < n ∧ k < n ∧ p = ((i : Int), (k : Int)) := by
 unfold gridP
 rw [List.mem_flatMap]
 constructor
 ·rintro ⟨i, hi, h⟩
  obtain ⟨k, hk, e⟩ := List.mem_map.1 h
  exact ⟨i, k, List.mem_range.1 hi, List.mem_range.1 hk, e.symm⟩
 ·rintro ⟨i, k, hi, hk, rfl⟩
  exact ⟨i, List.mem_range.2 hi, List.mem_map.2 ⟨k, List.mem_range.2 hk, rfl⟩⟩
def InM (n : Nat) (M : Nat → Nat → Prop) (m : List Pr) : Prop := m.Nodup ∧ ∀ p ∈ m, ∃ i k : Nat, i < n ∧ k < n ∧ p = ((i : Int), (k : Int)) ∧ M i k
theorem InM.len {n : Nat} {M : Nat → Nat → Prop} {m : List Pr} (h : InM n M m) : m.length ≤ n * n := by
 rw [← gridP_len]
 refine nodup_le m (gridP n) h.1 fun p hp => ?_
 obtain ⟨i, k, hi, hk, e, _⟩ := h.2 p hp
 exact mem_gridP.2 ⟨i, k, hi, hk, e⟩
theorem InM.put {n : Nat} {M : Nat → Nat → Prop} {m : List Pr} (h : InM n M m) {i k : Nat} (hi : i < n) (hk : k < n) (hM : M i k) : InM n M (putP m (i : Int) (k : Int)) := by
 refine ⟨putP_nodup h.1, fun p hp => ?_⟩
 rcases mem_putP.1 hp with hp | rfl
 ·exact h.2 p hp
 ·exact ⟨i, k, hi, hk, rfl, hM⟩
def staR (h : List TxnV) (x : Nat) (l : List Int) (n : Nat) : Mat := fun i k => decide (i < n) && decide (k < n) && decide (i ≠ k) && mustR h x l i k
def ahdR (l : List Int) (n : Nat) : Mat := fun i k => decide (i < n) && decide (k < n) && ahR l (i : Int) (k : Int)
def LeaR (h : List TxnV) (x : Nat) (l : List Int) (n i k : Nat) : Prop := Must (staR h x l n) (ahdR l n) (hasT x 2) (hasT x 4) i k
theorem staR_iff {h : List TxnV} {x : Nat} {l : List Int} {n i k : Nat} : staR h x l n i k = true ↔ i < n ∧ k < n ∧ i ≠ k ∧ mustR h x l i k = true := by
 unfold staR; simp [and_assoc]
theorem ahdR_iff {l : List Int} {n i k : Nat} : ahdR l n i k = true ↔ i < n ∧ k < n ∧ ahR l (i : Int) (k : Int) = true := by
 unfold ahdR; simp [and_assoc]
theorem leaR_lt {h : List TxnV} {x : Nat} {l : List Int} {n i k : Nat} (hm : LeaR h x l n i k) : i < n ∧ k < n := by
 induction hm with
 | base hs => have := staR_iff.1 hs; exact ⟨this.1, this.2.1⟩
 | trans _ _ _ _ ih1 ih2 => exact ⟨ih1.1, ih2.2⟩
 | pre _ _ ha _ ih => exact ⟨(ahdR_iff.1 ha).1, ih.2⟩
def DoneTo (n : Nat) (P : Nat → Nat → Prop) (i0 k0 : Nat) : Prop := ∀ i k : Nat, i < n → k < n → (i < i0 ∨ (i = i0 ∧ k < k0)) → P i k
theorem DoneTo.row {n : Nat} {P : Nat → Nat → Prop} {i0 : Nat} (h : DoneTo n P i0 n) : DoneTo n P (i0 + 1) 0 := fun i k hi hk hlt => h i k hi hk (by omega)
theorem DoneTo.next {n : Nat} {P : Nat → Nat → Prop} {i0 k0 : Nat} (h : DoneTo n P i0 k0) (hp : P i0 k0) : DoneTo n P i0 (k0 + 1) := fun i k hi hk hlt => by
 by_cases e : i = i0 ∧ k = k0
 ·rw [e.1, e.2]; exact hp
 ·exact h i k hi hk (by omega)
theorem DoneTo.none {n : Nat} {P : Nat → Nat → Prop} : DoneTo n P 0 0 := fun i k _ _ h => by omega
theorem DoneTo.mono {n : Nat} {P Q : Nat → Nat → Prop} {i0 k0 : Nat} (h : DoneTo n P i0 k0) (hp : ∀ i k, P i k → Q i k) : DoneTo n Q i0 k0 := fun i k hi hk hlt => hp i k (h i k hi hk hlt)
theorem DoneTo.all {n : Nat} {P : Nat → Nat → Prop} {k0 : Nat} (h : DoneTo n P n k0) (i k : Nat) (hi : i < n) (hk : k < n) : P i k := h i k hi hk (.inl hi)
def FirP (h : List TxnV) (x : Nat) (l : List Int) (n : Nat) (m : List Pr) (i k : Nat) : Prop := staR h x l n i k = true → ((i : Int), (k : Int)) ∈ m
def ClsP (x : Nat) (l : List Int) (n : Nat) (m : List Pr) (i k : Nat) : Prop := hasP m (i : Int) (k : Int) = true ∨ folR m x l (i : Int) (k : Int) n = false
theorem folR_iff {m : List Pr} {x : Nat} {l : List Int} {i k : Int} {n : Nat} : folR m x l i k n = true ↔ ∃ j : Nat, j < n ∧ ((j : Int), k) ∈ m ∧ ((hasT x 2 = true ∧ (i, (j : Int)) ∈ m) ∨ (hasT x 4 = true ∧ ahR l i (j : Int) = true)) := by
 unfold folR folJ
 rw [List.any_eq_true]
 constructor
 ·rintro ⟨j, hj, h⟩
  rw [Bool.and_eq_true, Bool.or_eq_true, Bool.and_eq_true, Bool.and_eq_true, hasP_iff, hasP_iff] at h
  exact ⟨j, List.mem_range.1 hj, h.1, h.2⟩
 ·rintro ⟨j, hj, h1, h2⟩
  refine ⟨j, List.mem_range.2 hj, ?_⟩
  rw [Bool.and_eq_true, Bool.or_eq_true, Bool.and_eq_true, Bool.and_eq_true, hasP_iff, hasP_iff]
  exact ⟨h1, h2⟩
theorem fol_lea {h : List TxnV} {x : Nat} {l : List Int} {n : Nat} {m : List Pr} (hn : n ≤ 64) (hm : InM n (LeaR h x l n) m) {i k : Nat} (hi : i < n) (hf : folR m x l (i : Int) (k : Int) n = true) : LeaR h x l n i k := by
 obtain ⟨j, hj, h1, h2⟩ := folR_iff.1 hf
 obtain ⟨a, b, ha, hb, e, hab⟩ := hm.2 _ h1
 have e1 := congrArg Prod.fst e
 have e2 := congrArg Prod.snd e
 simp at e1 e2
 obtain rfl : j = a := by omega
 obtain rfl : k = b := by omega
 rcases h2 with ⟨h2, h3⟩ | ⟨h2, h3⟩
 ·obtain ⟨a, c, _, _, e, hac⟩ := hm.2 _ h3
  have e1 := congrArg Prod.fst e
  have e2 := congrArg Prod.snd e
  simp at e1 e2
  obtain rfl : i = a := by omega
  obtain rfl : j = c := by omega
  exact .trans h2 (by omega) hac hab
 ·exact .pre h2 (by omega) (ahdR_iff.2 ⟨hi, hj, h3⟩) hab
def LeaL (h : List TxnV) (x : Nat) (l : List Int) (n : Nat) (m : List Pr) : Prop := m.Nodup ∧ ∀ a b : Int, (a, b) ∈ m ↔ ∃ i k : Nat, a = (i : Int) ∧ b = (k : Int) ∧ LeaR h x l n i k
theorem lea_done {h : List TxnV} {x : Nat} {l : List Int} {n : Nat} {m : List Pr} (hm : InM n (LeaR h x l n) m) (hf : ∀ i k : Nat, i < n → k < n → FirP h x l n m i k) (hc : ∀ i k : Nat, i < n → k < n → ClsP x l n m i k) : LeaL h x l n m := by
 refine ⟨hm.1, fun a b => ⟨fun hp => ?_, ?_⟩⟩
 ·obtain ⟨i, k, _, _, e, hM⟩ := hm.2 _ hp
  exact ⟨i, k, congrArg Prod.fst e, congrArg Prod.snd e, hM⟩
 ·rintro ⟨i, k, rfl, rfl, hM⟩
  have step : ∀ i k : Nat, i < n → k < n → folR m x l (i : Int) (k : Int) n = true → ((i : Int), (k : Int)) ∈ m := fun i k hi hk hfo => by
   rcases hc i k hi hk with h | h
   ·exact hasP_iff.1 h
   ·rw [h] at hfo; cases hfo
  unfold LeaR at hM
  induction hM with
  | base hs => have := staR_iff.1 hs; exact hf _ _ this.1 this.2.1 hs
  | @trans i j k ht _ h1 h2 ih1 ih2 =>
   have l1 := leaR_lt (h := h) (x := x) (l := l) h1
   have l2 := leaR_lt (h := h) (x := x) (l := l) h2
   exact step i k l1.1 l2.2 (folR_iff.2 ⟨j, l1.2, ih2, .inl ⟨ht, ih1⟩⟩)
  | @pre i j k ht _ ha h2 ih =>
   have l1 := ahdR_iff.1 ha
   have l2 := leaR_lt (h := h) (x := x) (l := l) h2
   exact step i k l1.1 l2.2 (folR_iff.2 ⟨j, l1.2.1, ih, .inr ⟨ht, l1.2.2⟩⟩)
theorem FirP.put {h : List TxnV} {x : Nat} {l : List Int} {n : Nat} {m : List Pr} {a b : Int} {i k : Nat} (hf : FirP h x l n m i k) : FirP h x l n (putP m a b) i k := fun hs => mem_putP.2 (.inl (hf hs))
def flagOf : Value → Nat
 | .bool true => 1
 | _ => 0
theorem rof11_any (va vr : Value) (h : List TxnV) (x : Nat) (hx : x < 64) (l : List Int) (w : World) (hn : h.length ≤ 64) (hT : Txns w va h) (hl : Ints w vr l) :
  Calls Tryz.prog 158 #[va, .int .i64 x, vr] w fun e w' => ∃ v m, e = .returned v ∧ Prs w' v m ∧ LeaL h x l h.length m ∧ Below w.heap.size w w' := by
 have CM := hid (fun (i k : Nat) (hi : i < h.length) (hk : k < h.length) (hne : i ≠ k) wx (hb : Below w.heap.size w wx) => rmust_any va vr h x hx l i k hi hk hne wx (hT.below hb) (hl.below hb))
 have CF := hid (fun (vm : Value) (m : List Pr) (i k : Int) wx (hb : Below w.heap.size w wx) (hm : Prs wx vm m) => rfollows_any vm vr m h.length x hx (by omega) l i k wx hm (hl.below hb))
 have b0 := box_below w (.cells #[] 240)
 have hm0 : Prs (w.alloc (.cells #[] 240)) (.slice (some ⟨w.heap.size, 0, none⟩) 0 0) [] := Prs.of_owns (base := 0) (World.ownsRow_lit (size := 2) _ _ _ (Nat.zero_le _) (by simp) (by simp))
 have HSQ : Hid (h.length * h.length ≤ 4096) := hid (by have := Nat.mul_le_mul hn hn; omega)
 obtain ⟨ao, cap, rfl, hal⟩ := hT.form
 obtain ⟨ro, rcap, rfl, hrl⟩ := hl.form
 have HN := hid hn
 clear hT hl hn
 go_enter Tryz.func158, Tryz.ntmps158
 go_wp2_with fail
 generalize w.alloc (.cells #[] 240) = w0 at *
 go_loopw [7, 8] (fun v iv wr => ∃ (i : Nat) (m : List Pr), i ≤ h.length ∧ iv = .int .i64 i ∧ Prs wr v m ∧ Hid (InM h.length (LeaR h x l h.length) m) ∧ Hid (DoneTo h.length (FirP h x l h.length m) i 0) ∧ Below w.heap.size w wr) (fun _ iv _ => h.length - (intOf iv).toNat)
 case atStart => exact ⟨0, [], by omega, rfl, hm0, hid ⟨List.nodup_nil, fun p hp => by cases hp⟩, hid DoneTo.none, b0⟩
 case round =>
  clear hm0 b0
  obtain ⟨i, m, hi, rfl, hm, HI, HD, hb⟩ := hrel
  by_cases hlt : i < h.length
  ·have hii : (i : Int) < (h.length : Int) := by omega
   obtain ⟨mo, mcap, rfl, hml⟩ := hm.form
   clear CF
   go_wp2_with fail
   go_loopw [7, 9] (fun v kv wx => ∃ (k : Nat) (m : List Pr), k ≤ h.length ∧ kv = .int .i64 k ∧ Prs wx v m ∧ Hid (InM h.length (LeaR h x l h.length) m) ∧ Hid (DoneTo h.length (FirP h x l h.length m) i k) ∧ Below w.heap.size w wx) (fun _ kv _ => h.length - (intOf kv).toNat)
   case atStart => exact ⟨0, m, by omega, rfl, hm, HI, HD, hb⟩
   case round =>
    clear hm HI HD hb hml
    obtain ⟨k, m, hk, rfl, hm, HI, HD, hb⟩ := hrel
    obtain ⟨mo, mcap, rfl, hml⟩ := hm.form
    by_cases hlk : k < h.length
    ·have hki : (k : Int) < (h.length : Int) := by omega
     by_cases e : i = k
     ·subst e
      have HD2 := hid (HD.out.next (fun hs => absurd rfl (staR_iff.1 hs).2.2.1))
      clear HD CM
      go_wp2_with fail
      go_roundw
      case rel => exact ⟨i + 1, m, by omega, by go_num, hm, HI, HD2, hb⟩
      case measure => simp [intOf]; omega
     ·have hne : ¬ (i : Int) = (k : Int) := by omega
      have hnb : ((i : Int) == (k : Int)) = false := beq_eq_false_iff_ne.2 hne
      have CQ := hid (CM.out i k hlt hlk e _ hb)
      have HE := hid e
      cases hmu : mustR h x l i k with
      | false =>
       rw [hmu] at CQ
       have HD2 := hid (HD.out.next (fun hs => by have := (staR_iff.1 hs).2.2.2; rw [hmu] at this; cases this))
       clear HD CM hmu e
       go_wp2_with fail
       refine (CQ.out).mono ?_
       rintro e w5 ⟨rfl, h5⟩
       have hm5 := hm.below h5
       have hb5 := below_then hb h5
       clear hm hb h5
       go_wp2_with fail
       go_roundw
       case rel => exact ⟨k + 1, m, by omega, by go_num, hm5, HI, HD2, hb5⟩
       case measure => simp [intOf]; omega
      | true =>
       rw [hmu] at CQ
       have HD2 : Hid (DoneTo h.length (FirP h x l h.length (putP m (i : Int) (k : Int))) i (k + 1)) := hid ((HD.out.mono (fun _ _ hf => hf.put)).next (fun _ => mem_putP.2 (.inr rfl)))
       have HI2 := hid (HI.out.put hlt hlk (.base (staR_iff.2 ⟨hlt, hlk, e, hmu⟩)))
       have hlen : m.length ≤ 1000000000 := by have := HI.out.len; have := HSQ.out; omega
       clear HD HI CM hmu e
       go_wp2_with fail
       refine (CQ.out).mono ?_
       rintro e w5 ⟨rfl, h5⟩
       have hm5 := hm.below h5
       have hb5 := below_then hb h5
       clear hm hb h5
       go_wp2_with fail
       refine (put_any _ m (i : Int) (k : Int) _ hm5 hlen).mono ?_
       rintro e w6 ⟨v6, rfl, hm6, h6⟩
       have hb6 := below_then hb5 h6
       clear hm5 hb5 h6 hml hlen
       obtain ⟨m2, hm2⟩ : ∃ m2, m2 = putP m (i : Int) (k : Int) := ⟨_, rfl⟩
       rw [← hm2] at hm6 HI2 HD2
       clear hm2
       go_wp2_with fail
       go_roundw
       case rel => exact ⟨k + 1, m2, by omega, by go_num, hm6, HI2, HD2, hb6⟩
       case measure => simp [intOf]; omega
    ·have hkn : k = h.length := by omega
     have HD2 : Hid (DoneTo h.length (FirP h x l h.length m) (i + 1) 0) := hid (by have := HD.out; rw [hkn] at this; exact this.row)
     have hnk : ¬ (k : Int) < (h.length : Int) := by omega
     clear HD hkn CM
     go_wp2_with fail
     go_roundw
     case rel => exact ⟨i + 1, m, by omega, by go_num, hm, HI, HD2, hb⟩
     case measure => simp [intOf]; omega
  ·have hin : i = h.length := by omega
   have HF : Hid (∀ a b : Nat, a < h.length → b < h.length → FirP h x l h.length m a b) := hid (by have := HD.out; rw [hin] at this; exact fun a b ha hb => this.all a b ha hb)
   have hni : ¬ (i : Int) < (h.length : Int) := by omega
   obtain ⟨mo, mcap, rfl, hml⟩ := hm.form
   clear HD CM hin hlt hi
   go_wp2_with fail
   go_loopw [7, 10] (fun v qv wr => ∃ (m : List Pr) (q : Bool), qv = .bool q ∧ Prs wr v m ∧ Hid (InM h.length (LeaR h x l h.length) m) ∧ Hid (∀ a b : Nat, a < h.length → b < h.length → FirP h x l h.length m a b) ∧ Hid (q = false → ∀ a b : Nat, a < h.length → b < h.length → ClsP x l h.length m a b) ∧ Below w.heap.size w wr) (fun v qv _ => 2 * (5000 - lenOf v) + flagOf qv)
   case atStart => exact ⟨m, true, rfl, hm, HI, HF, hid (fun h => by cases h), hb⟩
   case round =>
    clear hm HI HF hb hml
    obtain ⟨m, q, rfl, hm, HI, HF, HC, hb⟩ := hrel
    obtain ⟨mo, mcap, rfl, hml⟩ := hm.form
    have hl0 : m.length ≤ 4096 := by have := HI.out.len; have := HSQ.out; omega
    cases q with
    | false =>
     have HL := hid (lea_done HI.out HF.out (HC.out rfl))
     clear HI HF HC
     go_wp2_with fail
     go_ret
     exact ⟨_, m, rfl, hm, HL.out, hb⟩
    | true =>
     clear HC
     go_wp2_with fail
     obtain ⟨n0, hn0⟩ : ∃ n0, n0 = m.length := ⟨_, rfl⟩
     go_loopw [7, 10, 11] (fun v qv iv wr => ∃ (i : Nat) (m : List Pr) (q : Bool), i ≤ h.length ∧ iv = .int .i64 i ∧ qv = .bool q ∧ Prs wr v m ∧ Hid (InM h.length (LeaR h x l h.length) m) ∧ Hid (∀ a b : Nat, a < h.length → b < h.length → FirP h x l h.length m a b) ∧ Hid (q = false → DoneTo h.length (ClsP x l h.length m) i 0) ∧ Hid (n0 + flagOf (.bool q) ≤ m.length) ∧ Below w.heap.size w wr) (fun _ _ iv _ => h.length - (intOf iv).toNat)
     case atStart => exact ⟨0, m, false, by omega, rfl, rfl, hm, HI, HF, hid (fun _ => DoneTo.none), hid (by simp [flagOf]; omega), hb⟩
     case round =>
      clear hm HI HF hb hml
      obtain ⟨i, m1, q, hi, rfl, rfl, hm, HI, HF, HC, HG, hb⟩ := hrel
      obtain ⟨mo1, mcap1, rfl, hml⟩ := hm.form
      by_cases hlt : i < h.length
      ·have hii : (i : Int) < (h.length : Int) := by omega
       go_wp2_with fail
       go_loopw [7, 10, 12] (fun v qv kv wx => ∃ (k : Nat) (m : List Pr) (q : Bool), k ≤ h.length ∧ kv = .int .i64 k ∧ qv = .bool q ∧ Prs wx v m ∧ Hid (InM h.length (LeaR h x l h.length) m) ∧ Hid (∀ a b : Nat, a < h.length → b < h.length → FirP h x l h.length m a b) ∧ Hid (q = false → DoneTo h.length (ClsP x l h.length m) i k) ∧ Hid (n0 + flagOf (.bool q) ≤ m.length) ∧ Below w.heap.size w wx) (fun _ _ kv _ => h.length - (intOf kv).toNat)
       case atStart => exact ⟨0, m1, q, by omega, rfl, rfl, hm, HI, HF, HC, HG, hb⟩
       case round =>
        clear hm HI HF hb hml HC HG
        obtain ⟨k, m2, q, hk, rfl, rfl, hm, HI, HF, HC, HG, hb⟩ := hrel
        obtain ⟨mo2, mcap2, rfl, hml⟩ := hm.form
        by_cases hlk : k < h.length
        ·have hki : (k : Int) < (h.length : Int) := by omega
         have CH := hid (phas_any _ m2 (i : Int) (k : Int) _ hm)
         have CQ := hid (CF.out _ m2 (i : Int) (k : Int) _ hb hm)
         cases hh : hasP m2 (i : Int) (k : Int) with
         | true =>
          have HC2 : Hid (q = false → DoneTo h.length (ClsP x l h.length m2) i (k + 1)) := hid (fun hq => (HC.out hq).next (.inl hh))
          rw [hh] at CH
          clear CQ HC hh CF
          go_wp2_with fail
          refine (CH.out).mono ?_
          rintro e w5 ⟨rfl, rfl⟩
          go_wp2_with fail
          go_roundw
          case rel => exact ⟨k + 1, m2, q, by omega, by go_num, rfl, hm, HI, HF, HC2, HG, hb⟩
          case measure => simp [intOf]; omega
         | false =>
          rw [hh] at CH
          cases hfo : folR m2 x l (i : Int) (k : Int) h.length with
          | false =>
           have HC2 : Hid (q = false → DoneTo h.length (ClsP x l h.length m2) i (k + 1)) := hid (fun hq => (HC.out hq).next (.inr hfo))
           rw [hfo] at CQ
           clear HC hh CF hfo
           go_wp2_with fail
           refine (CH.out).mono ?_
           rintro e w5 ⟨rfl, rfl⟩
           go_wp2_with fail
           refine (CQ.out).mono ?_
           rintro e w5 ⟨rfl, rfl⟩
           go_wp2_with fail
           go_roundw
           case rel => exact ⟨k + 1, m2, q, by omega, by go_num, rfl, hm, HI, HF, HC2, HG, hb⟩
           case measure => simp [intOf]; omega
          | true =>
           have HI2 := hid (HI.out.put hlt hlk (fol_lea HN.out HI.out hlt hfo))
           have HF2 : Hid (∀ a b : Nat, a < h.length → b < h.length → FirP h x l h.length (putP m2 (i : Int) (k : Int)) a b) := hid (fun a b ha hb => (HF.out a b ha hb).put)
           have HG2 : Hid (n0 + flagOf (.bool true) ≤ (putP m2 (i : Int) (k : Int)).length) := hid (by
            have := HG.out
            unfold putP
            rw [hh, if_neg (by decide), List.length_append]
            simp only [flagOf, List.length_cons, List.length_nil]
            omega)
           have hlen : m2.length ≤ 1000000000 := by have := HI.out.len; have := HSQ.out; omega
           rw [hfo] at CQ
           clear HC hh CF hfo HI HF HG
           go_wp2_with fail
           refine (CH.out).mono ?_
           rintro e w5 ⟨rfl, rfl⟩
           go_wp2_with fail
           refine (CQ.out).mono ?_
           rintro e w5 ⟨rfl, rfl⟩
           go_wp2_with fail
           refine (put_any _ m2 (i : Int) (k : Int) _ hm hlen).mono ?_
           rintro e w6 ⟨v6, rfl, hm6, h6⟩
           have hb6 := below_then hb h6
           clear hm hb h6 hml hlen CH CQ
           obtain ⟨m3, hm3⟩ : ∃ m3, m3 = putP m2 (i : Int) (k : Int) := ⟨_, rfl⟩
           rw [← hm3] at hm6 HI2 HF2 HG2
           clear hm3
           go_wp2_with fail
           go_roundw
           case rel => exact ⟨k + 1, m3, true, by omega, by go_num, rfl, hm6, HI2, HF2, hid (fun h => by cases h), HG2, hb6⟩
           case measure => simp [intOf]; omega
        ·have hkn : k = h.length := by omega
         have HC2 : Hid (q = false → DoneTo h.length (ClsP x l h.length m2) (i + 1) 0) := hid (fun hq => by have := HC.out hq; rw [hkn] at this; exact this.row)
         have hnk : ¬ (k : Int) < (h.length : Int) := by omega
         clear HC hkn CF
         go_wp2_with fail
         go_roundw
         case rel => exact ⟨i + 1, m2, q, by omega, by go_num, rfl, hm, HI, HF, HC2, HG, hb⟩
         case measure => simp [intOf]; omega
      ·have hin : i = h.length := by omega
       have HC2 : Hid (q = false → ∀ a b : Nat, a < h.length → b < h.length → ClsP x l h.length m1 a b) := hid (fun hq => by have := HC.out hq; rw [hin] at this; exact fun a b ha hb => this.all a b ha hb)
       have hni : ¬ (i : Int) < (h.length : Int) := by omega
       have hlm : m1.length ≤ 4096 := by have := HI.out.len; have := HSQ.out; omega
       have HME : Hid (2 * (5000 - m1.length) + flagOf (.bool q) < 2 * (5000 - m.length) + flagOf (.bool true)) := hid (by
        have := HG.out
        rw [hn0] at this
        cases q <;> simp only [flagOf] at * <;> omega)
       clear HC hin CF
       go_wp2_with fail
       go_roundw
       case rel => exact ⟨m1, q, rfl, hm, HI, HF, HC2, hb⟩
       case measure => exact HME.out
end

end Go.Proofs.YtmcicfdnmfbimaaGreatDoor
