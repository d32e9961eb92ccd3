/- Walks and plain facts that the proof of the statement AxiomTells uses, joined: AxhL AxhM. Conditions: each theorem's own. -/
import Derived.OneCell
import Derived.Test.YtflalehpdngklaaGreatDoorPAxiomTells0
import Derived.Test.YtflalehpdngklaaGreatDoorPAxiomTells1
import Derived.Test.YtflalehpdngklaaGreatDoorPAxiomTells2
import Derived.Test.YtflalehpdngklaaGreatDoorPAxiomTells4
import Derived.Test.YtflalehpdngklaaGreatDoorPAxiomTells6
import Derived.Test.YtflalehpdngklaaGreatDoorPAxiomTells7
namespace Go.Proofs.YtflalehpdngklaaGreatDoor
set_option maxRecDepth 100000
open Go.RowKit

theorem nilIn (w : World) : Sem.run Tryz.prog (binOp .eql 34 (.slice none 0 0) (.slice none 0 0)) w = .ok (.bool true) w := by kernel_rfl
theorem someIn (w : World) (a : Addr) (n c : Nat) : Sem.run Tryz.prog (binOp .eql 34 (.slice (some a) n c) (.slice none 0 0)) w = .ok (.bool false) w := by kernel_rfl
set_option maxHeartbeats 4000000 in
theorem clone_ints (va : Value) (l : List Int) (w : World) (ha : Ints w va l) (hl : l.length ≤ 100000) :
    Calls Tryz.prog 75 #[va] w fun e w' => ∃ v, e = .returned v ∧ w'.ownsRow w.heap.size 3 1 v l.length (l.map (Value.int .i64)) ∧ Below w.heap.size w w' := by
  obtain ⟨i0, hi, hz0, hz1, hz2⟩ := info_parts infoInt
  obtain ⟨ao, cap, rfl, hal⟩ := ha.form
  cases ao with
  | none =>
    have h0 : l = [] := by
      obtain ⟨_, ao', cap', e, _, hno, _⟩ := ha
      cases e
      exact List.eq_nil_of_length_eq_zero (hno rfl).1
    subst h0
    have hc0 : cap = 0 := by
      obtain ⟨_, ao', cap', e, _, hno, _⟩ := ha
      cases e
      exact (hno rfl).2
    subst hc0
    have e1 := nilIn
    have e2 := fun w a n c => someIn w a n c
    go_enter Tryz.func75, Tryz.ntmps75
    go_wp2_with fail
    go_ret
    exact ⟨_, rfl, World.ownsRow_nil _ _ _ _, Below.refl _ _⟩
  | some ad =>
    have e1 := nilIn
    have e2 := fun w a n c => someIn w a n c
    go_enter Tryz.func75, Tryz.ntmps75
    go_wp2_with (first | (at_builtin; refine wpList_append_row rfl _ _ 34 rfl w.heap.size 3 i0 (.int .i64 0) 1 8 Tryz.underlying34 hi hz0 hz1 hz2 rfl (by decide) _ 0 [] rfl (World.ownsRow_lit _ _ _ (Nat.le_refl _) (by decide) rfl) _ l.length _ rfl (ha.below ((Below.refl _ _).alloc (Nat.le_refl _) _)) ?d1 ?d2 ?d3 ?d4 ?_) | go_in)
    case d1 => intro u hu; obtain ⟨x, _, rfl⟩ := List.mem_map.1 hu; rfl
    case d2 => unfold maxLen; omega
    case d3 => omega
    case d4 => first | omega | simp
    intro v5 w5 hown5 hg5
    have hO5 : w5.ownsRow w.heap.size 3 1 v5 l.length (l.map (Value.int .i64)) := by simpa using hown5
    have hb5 := ((Below.refl w.heap.size w).alloc (Nat.le_refl _) (.cells #[] 3)).grown hg5 (by simp) (by intro k hk; simp [Value.ownBlock] at hk; omega)
    clear hown5 hg5
    go_wp2_with fail
    go_ret
    exact ⟨_, rfl, hO5, hb5⟩
theorem infoIntsL : (Tryz.prog.info? 34).map (fun i => (i.zero, i.size, i.bytes)) = some (some (.slice none 0 0), 1, 24) := by kernel_rfl
/-- Whom each sees, in lists. -/
def seesL (V : Mat) (n : Nat) : List (List Int) := (List.range n).map fun (i : Nat) => (lst (seeTo V (i : Int) 64)).map Int.ofNat
theorem seesL_succ (V : Mat) (n : Nat) : seesL V (n + 1) = seesL V n ++ [(lst (seeTo V (n : Int) 64)).map Int.ofNat] := by
  unfold seesL; rw [List.range_succ, List.map_append]; rfl
/-- A row of rows of ints that the call itself made. -/
structure OwnK (b : Nat) (w : World) (v : Value) (K : List KRow) : Prop where
  kr : w.ownsRow b 34 1 v K.length (K.map (·.1))
  ke : ∀ p ∈ K, w.ownsRow b 3 1 p.1 p.2.length (p.2.map (Value.int .i64))
theorem OwnK.nil (b : Nat) (w : World) : OwnK b w (.slice none 0 0) [] := ⟨World.ownsRow_nil _ _ _ _, fun p hp => (by cases hp)⟩
theorem OwnK.below {b : Nat} {w w' : World} {v : Value} {K : List KRow} (h : OwnK b w v K) (hb : Below w.heap.size w w') : OwnK b w' v K := ⟨owns_below h.kr hb, fun p hp => owns_below (h.ke p hp) hb⟩
theorem OwnK.add {b : Nat} {w w2 : World} {o : Obj} {v v' u : Value} {K : List KRow} {l : List Int} (h : OwnK b w v K) (hv : w.ownsRow b 3 1 u l.length (l.map (Value.int .i64))) (hown : w2.ownsRow b 34 1 v' (K.length + 1) (K.map (·.1) ++ [u]))
    (hg : (w.alloc o).grownBy w2 v.ownBlock) : OwnK b w2 v' (K ++ [(u, l)]) := by
  refine ⟨by simpa using hown, fun p hp => ?_⟩
  rcases List.mem_append.1 hp with hp | hp
  · exact ((h.ke p hp).alloc o).kept hg (owns_apart (h.ke p hp) h.kr (by decide))
  · obtain rfl := List.mem_singleton.1 hp
    exact (hv.alloc o).kept hg (owns_apart hv h.kr (by decide))
theorem OwnK.lists {b : Nat} {w : World} {v : Value} {K : List KRow} (h : OwnK b w v K) : Lists w v (K.map (·.2)) := by
  refine ⟨K.map (·.1), by have := Row.of_owns h.kr; rwa [List.length_map], fun k hk => ?_⟩
  rw [List.length_map] at hk
  refine ⟨K[k].1, by rw [List.getElem?_map, List.getElem?_eq_getElem hk]; rfl, ?_⟩
  rw [List.getElem_map]
  exact Ints.of_owns (h.ke _ (List.getElem_mem hk))
/-- What lies in a block of another type isn't an own row's. -/
theorem own_far {w : World} {b e size n p : Nat} {v : Value} {xs : List Value} {cs : Array Value} {t : TypeId} {fr : Nat × Nat} (h : w.ownsRow b e size v n xs) (hp : w.heap[p]? = some (.cells cs t fr)) (hne : e ≠ t) : some p ≠ v.ownBlock := by
  obtain ⟨_, h⟩ := h
  rcases h with ⟨rfl, _⟩ | ⟨g, c, cur, rfl, _, hh, _⟩
  · simp [Value.ownBlock]
  · intro e2
    simp [Value.ownBlock] at e2
    subst e2
    rw [hp] at hh
    injection hh with hh
    injection hh with h1 h2 h3
    exact hne h2.symm
/-- What lies there while a witness is made. -/
structure WI (b p5 : Nat) (V : Mat) (vo : Value) (l : List Int) (vs : Value) (K : List KRow) (w0 w : World) : Prop where
  rel : RelAt w b 38 V
  res : At w (b + 1) (.cells #[.slice none 0 0, .slice none 0 0] 45)
  box : At w p5 (.cells #[vo, vs] 45)
  own : OwnK b w vs K
  ord : w.ownsRow b 3 1 vo l.length (l.map (Value.int .i64))
  bel : Below b w0 w
theorem grown_setW (w : World) (a : Addr) (u : Value) : w.grownBy (w.setCell a u) (some a.block) :=
  ⟨rfl, rfl, rfl, by simp, fun k _ hk => Below.heap_setCell w a u k (fun e => hk (by rw [e]))⟩
theorem lit_newS (w : World) (x : Value) (t : TypeId) : ∀ j u, [x][j]? = some u → (w.alloc (.cells #[x] t)).cell? ((⟨w.heap.size, 0, none⟩ : Addr).add j) = some u := fun j u hu => by
  match j, hu with
  | 0, hu =>
    simp at hu; subst hu
    rw [Addr.add_lit, Nat.add_zero, cell_of_row _ _ _ _ _ _ (heap_alloc_new w _)]; rfl
  | j + 1, hu => simp at hu
theorem own_none {w : World} {b e size n p : Nat} {v : Value} {xs : List Value} {cs : Array Value} {t : TypeId} {fr : Nat × Nat} (h : w.ownsRow b e size v n xs) (hp : w.heap[p]? = some (.cells cs t fr)) (hne : e ≠ t) : v.ownBlock = none ∨ v.ownBlock ≠ some p := .inr (fun e2 => own_far h hp hne e2.symm)
theorem WI.below {b p5 : Nat} {V : Mat} {vo : Value} {l : List Int} {vs : Value} {K : List KRow} {w0 w w' : World} (h : WI b p5 V vo l vs K w0 w) (hb : Below w.heap.size w w') : WI b p5 V vo l vs K w0 w' :=
  ⟨h.rel.below hb h.rel.lt, h.res.below hb, h.box.below hb, h.own.below hb, owns_below h.ord hb, h.bel.trans (hb.mono (Nat.le_of_lt h.rel.lt))⟩
theorem WI.add {b p5 : Nat} {V : Mat} {vo : Value} {l : List Int} {vs v' u : Value} {K : List KRow} {s : List Int} {w0 W w5 : World} {o : Obj} (hp : b + 2 ≤ p5) (h : WI b p5 V vo l vs K w0 W) (hv : W.ownsRow b 3 1 u s.length (s.map (Value.int .i64)))
    (hown : w5.ownsRow b 34 1 v' (K.length + 1) (K.map (·.1) ++ [u])) (hg : (W.alloc o).grownBy w5 vs.ownBlock) :
    RelAt w5 b 38 V ∧ w5.cell? ⟨p5, 1, none⟩ = some vs ∧ w5.frozen? ⟨p5, 1, none⟩ = false ∧ RelAt (w5.setCell ⟨p5, 1, none⟩ v') b 38 V ∧ WI b p5 V vo l v' (K ++ [(u, s)]) w0 (w5.setCell ⟨p5, 1, none⟩ v') := by
  have kr := h.own.kr.alloc o
  have r1 : At w5 b (.cells (rowsA V) 38) := At.grown (h.rel.alloc o) hg (own_far kr (h.rel.alloc o) (by decide))
  have r2 := At.grown (h.res.alloc o) hg (own_far kr (h.res.alloc o) (by decide))
  have r3 := At.grown (h.box.alloc o) hg (own_far kr (h.box.alloc o) (by decide))
  have r4 := h.own.add hv hown hg
  have r5 := (h.ord.alloc o).kept hg (owns_apart h.ord h.own.kr (by decide))
  have d5 := (h.bel.alloc (Nat.le_of_lt h.rel.lt) o).grown hg (by have := h.rel.lt; simp; omega) (fun k hk => (kr.lt k hk).1)
  have gs := grown_setW w5 ⟨p5, 1, none⟩ v'
  have hc : w5.cell? ⟨p5, 1, none⟩ = some vs := by unfold At at r3; simp [World.cell?, r3]
  have q1 := At.grown r1 gs (by simp; omega)
  refine ⟨r1, hc, frozen_of_row w5 p5 1 _ _ r3, q1, q1, At.grown r2 gs (by simp; omega), ?_, ⟨r4.kr.kept gs (own_none r4.kr r3 (by decide)), fun p hp => (r4.ke p hp).kept gs (own_none (r4.ke p hp) r3 (by decide))⟩, r5.kept gs (own_none r5 r3 (by decide)), d5.setCell (p := ⟨p5, 1, none⟩) (by show b ≤ p5; omega) v'⟩
  unfold At at r3 ⊢
  simp [World.setCell, Array.getElem?_modify, r3]
theorem At.second {w : World} {p : Nat} {x y : Value} {t : TypeId} (h : At w p (.cells #[x, y] t)) (z : Value) : At (w.setCell ⟨p, 1, none⟩ z) p (.cells #[x, z] t) := by
  unfold At at h ⊢
  simp [World.setCell, Array.getElem?_modify, h]
theorem WI.done {b p5 : Nat} {V : Mat} {vo : Value} {l : List Int} {vs : Value} {K : List KRow} {w0 w : World} (h : WI b p5 V vo l vs K w0 w) :
    At ((w.setCell ⟨b + 1, 0, none⟩ vo).setCell ⟨b + 1, 1, none⟩ vs) (b + 1) (.cells #[vo, vs] 45) ∧ Ints ((w.setCell ⟨b + 1, 0, none⟩ vo).setCell ⟨b + 1, 1, none⟩ vs) vo l ∧ Lists ((w.setCell ⟨b + 1, 0, none⟩ vo).setCell ⟨b + 1, 1, none⟩ vs) vs (K.map (fun p : KRow => p.2)) ∧ Below b w0 ((w.setCell ⟨b + 1, 0, none⟩ vo).setCell ⟨b + 1, 1, none⟩ vs) := by
  have g1 := grown_setW w ⟨b + 1, 0, none⟩ vo
  have a1 : At (w.setCell ⟨b + 1, 0, none⟩ vo) (b + 1) (.cells #[vo, .slice none 0 0] 45) := by
    have := h.res
    unfold At at this ⊢
    simp [World.setCell, Array.getElem?_modify, this]
  have g2 := grown_setW (w.setCell ⟨b + 1, 0, none⟩ vo) ⟨b + 1, 1, none⟩ vs
  have o1 := h.ord.kept g1 (own_none h.ord h.res (by decide))
  have o2 := o1.kept g2 (own_none o1 a1 (by decide))
  have k1 := h.own.kr.kept g1 (own_none h.own.kr h.res (by decide))
  have k2 := k1.kept g2 (own_none k1 a1 (by decide))
  have hk : OwnK b ((w.setCell ⟨b + 1, 0, none⟩ vo).setCell ⟨b + 1, 1, none⟩ vs) vs K := ⟨k2, fun p hp => by
    have q1 := (h.own.ke p hp).kept g1 (own_none (h.own.ke p hp) h.res (by decide))
    exact q1.kept g2 (own_none q1 a1 (by decide))⟩
  refine ⟨?_, Ints.of_owns o2, hk.lists, (h.bel.setCell (p := ⟨b + 1, 0, none⟩) (by show b ≤ b + 1; omega) vo).setCell (p := ⟨b + 1, 1, none⟩) (by show b ≤ b + 1; omega) vs⟩
  exact a1.second vs
set_option maxRecDepth 100000 in
set_option maxHeartbeats 16000000 in
theorem awitness_any (va : Value) (l : List Int) (V : Mat) (w : World) (ht : Tab w) (hI : Ints w va l) (hl : l.length ≤ 64) :
    Calls Tryz.prog 15 #[va, .agg (rowsA V)] w fun e w' => (∃ vo vs, e = .returned (.agg #[vo, vs]) ∧ Ints w' vo l ∧ Lists w' vs (seesL V l.length)) ∧ Below w.heap.size w w' := by
  have hg := ht.pos
  obtain ⟨i0, hi, hz0, hz1, hz2⟩ := info_parts infoIntsL
  have HT : Hid (∀ wx, Below w.heap.size w wx → Tab wx) := Lib.hid (fun wx hb => ht.below hb hg)
  have HI := Lib.hid (fun wx (hx : Below w.heap.size w wx) => hI.below hx)
  obtain ⟨ao, cap, rfl, hal⟩ := hI.form
  have r0 : RelAt (w.alloc (.cells (rowsA V) 38)) w.heap.size 38 V := RelAt.made w _ _ rfl rfl
  have hb0 := box_below w (.cells (rowsA V) 38)
  clear ht hI
  go_enter Tryz.func15, Tryz.ntmps15
  go_upto_region 1 with fail
  generalize hw0 : w.alloc (.cells (rowsA V) 38) = w0 at *
  have hs0 : w0.heap.size = w.heap.size + 1 := by rw [← hw0]; simp
  clear hw0
  have a4 := At.new w0 (.cells #[.slice none 0 0, .slice none 0 0] 45)
  rw [hs0] at a4
  have r0 := r0.alloc (.cells #[.slice none 0 0, .slice none 0 0] 45)
  have hb1 := hb0.alloc (by omega) (.cells #[.slice none 0 0, .slice none 0 0] 45)
  have hs1 : (w0.alloc (.cells #[.slice none 0 0, .slice none 0 0] 45)).heap.size = w.heap.size + 2 := by simp [hs0]
  generalize w0.alloc (.cells #[.slice none 0 0, .slice none 0 0] 45) = w1 at *
  have CC := Lib.hid (clone_ints _ l w1 (HI.out _ hb1) (by omega))
  clear hb0 hs0
  go_wp2_with fail
  refine (CC.out).mono ?_
  rintro e w2 ⟨vo, rfl, hO2, h2⟩
  have r2 := r0.below h2 r0.lt
  have a4 := a4.below h2
  have hb2 := below_then hb1 h2
  have hp5 : w.heap.size + 2 ≤ w2.heap.size := by have := h2.size; omega
  obtain ⟨oo, oc, rfl⟩ := owns_form hO2
  go_upto_region 2 with fail
  have hWI : WI w.heap.size w2.heap.size V (.slice oo l.length oc) l (.slice none 0 0) [] w (w2.alloc (.cells #[.slice oo l.length oc, .slice none 0 0] 45)) :=
    ⟨r2.alloc _, a4.alloc _, At.new w2 _, OwnK.nil _ _, own_base' (hO2.alloc _) (by omega), hb2.alloc hb2.size _⟩
  generalize w2.alloc (.cells #[.slice oo l.length oc, .slice none 0 0] 45) = w3 at *
  generalize w2.heap.size = p5 at *
  clear r0 r2 a4 hb1 hb2 hO2 h2 hs1 CC
  go_wp2_with fail
  go_loopw [12] (fun iv wr => ∃ (k : Nat) (vs : Value) (K : List KRow), k ≤ l.length ∧ iv = .int .i64 k ∧ K.map (fun p : KRow => p.2) = seesL V k ∧ WI w.heap.size p5 V (.slice oo l.length oc) l vs K w wr) (fun iv _ => l.length - (intOf iv).toNat)
  case atStart => exact ⟨0, .slice none 0 0, [], by omega, rfl, rfl, hWI⟩
  case round =>
    clear hWI
    obtain ⟨k, vs, K, hk, rfl, hK, hW⟩ := hrel
    by_cases hlt : k < l.length
    · have hki : (k : Int) < (l.length : Int) := by omega
      have hKl : K.length = k := by have := congrArg List.length hK; simpa [seesL] using this
      obtain ⟨vsa, vsc, rfl⟩ := owns_form hW.own.kr
      have HNX : Hid (∀ u, (K ++ [(u, (lst (seeTo V (k : Int) 64)).map Int.ofNat)]).map (fun p : KRow => p.2) = seesL V (k + 1)) := Lib.hid (fun u => by rw [List.map_append, hK, seesL_succ]; rfl)
      have CS := Lib.hid (fun wx => asees_any V (k : Int) wx)
      have CL : Hid (∀ wx, Below wr.heap.size wr wx → Calls Tryz.prog 77 #[.int .u64 ((seeTo V (k : Int) 64 : Nat) : Int)] wx fun e w' => ∃ v, e = .returned v ∧ w'.ownsRow w.heap.size 3 1 v ((lst (seeTo V (k : Int) 64)).map Int.ofNat).length (((lst (seeTo V (k : Int) 64)).map Int.ofNat).map (Value.int .i64)) ∧ Below wx.heap.size wx w') := Lib.hid (fun wx hx => (list_any (seeTo V (k : Int) 64) wx (seeTo_set V _ 64) (HT.out _ (hW.bel.trans (hx.mono (Nat.le_of_lt hW.rel.lt))))).mono (by
        rintro e w' ⟨v, he, ho, hb⟩
        refine ⟨v, he, own_base' ?_ (show w.heap.size ≤ wx.heap.size by have h1 := hx.size; have h2 := hW.rel.lt; omega), hb⟩
        rw [List.length_map, List.map_map]
        exact ho))
      have HW := Lib.hid (fun wx (hx : Below wr.heap.size wr wx) => hW.below hx)
      have HSR : Hid (∀ wx, Below wr.heap.size wr wx → RelAt wx w.heap.size 38 V) := Lib.hid (fun wx hx => (hW.below hx).rel)
      have HCL : Hid (∀ wx, Below wr.heap.size wr wx → wx.cell? ⟨p5, 1, none⟩ = some (.slice vsa K.length vsc)) := Lib.hid (fun wx hx => by have r3 := (hW.below hx).box; unfold At at r3; simp [World.cell?, r3])
      have HSZ : Hid (∀ wx (o : Obj), Below wr.heap.size wr wx → w.heap.size ≤ (wx.alloc o).heap.size) := Lib.hid (fun wx o hx => by have h1 := hx.size; have h2 := hW.rel.lt; simp; omega)
      have n3 : Hid (K.length + 1 ≤ maxLen) := Lib.hid (by unfold maxLen; omega)
      have n4 : Hid ((K.length + 1) * 24 ≤ 140737488355328) := Lib.hid (by omega)
      generalize hLs : (lst (seeTo V (k : Int) 64)).map Int.ofNat = ls at *
      clear hLs
      have kd := (Below.refl wr.heap.size wr).drew
      clear hW hK hKl
      go_upto_region 5 with fail

      refine wp_region_held_drew (S := fun wx => RelAt wx w.heap.size 38 V) (by kernel_rfl) (HSR.out _ kd) (fun hS0 => ?_)
      refine takeG (some 15) (i := 0) (v := ?vw0) rfl rfl (by kernel_rfl) (by kernel_rfl) (by kernel_rfl) (fun _ _ _ h => h) (Or.inl ⟨by rfl, ?hw0⟩) hS0 ?rw0
      case hw0 => (intro w _; go_simp; try (with_reducible rfl))
      try simp only [Act.put, List.setIfInBounds_toArray, List.set_cons_zero, List.set_cons_succ]
      refine takeG (some 18) (i := 3) (v := ?vw3) rfl rfl (by kernel_rfl) (by kernel_rfl) (by kernel_rfl) (fun _ _ _ h => h) (Or.inl ⟨by rfl, ?hw3⟩) hS0 ?rw3
      case hw3 => (intro w _; go_simp; try (with_reducible rfl))
      try simp only [Act.put, List.setIfInBounds_toArray, List.set_cons_zero, List.set_cons_succ]
      refine takeG (some 17) (i := 2) (v := _) rfl rfl (by kernel_rfl) (by kernel_rfl) (by kernel_rfl) (fun _ _ _ h => h) (yields_rel (by rfl) _ rfl rfl (fun w hw => hw)) hS0 ?_
      try simp only [Act.put, List.setIfInBounds_toArray, List.set_cons_zero, List.set_cons_succ]
      generalize wr.drew = wd at *
      refine wpAnyH_ready (rs := [1, 4]) (by kernel_rfl) (by simp) ?_
      refine AllReadyH.cons rfl (fun K' hK' => ?_) (AllReadyH.cons rfl (fun K' hK' => ?_) AllReadyH.nil)
      ·
        have hc1 := HCL.out _ kd
        go_simp
        refine hK'.out _ _ hS0 (fun _ => ?_)
        clear hK' K' hc1
        refine wpAnyH_ready (rs := [4]) (by kernel_rfl) (by simp) ?_
        refine AllReadyH.cons rfl (fun K' hK' => ?_) AllReadyH.nil
        go_simp
        refine (CS.out _).mono ?_
        rintro e q2 ⟨rfl, j2⟩
        show K' _ _
        have k2 := below_then kd j2
        have s2 := HSR.out _ k2
        refine hK'.out _ _ s2 (fun _ => ?_)
        clear hK' K'
        refine wpAnyH_ready (rs := [5]) (by kernel_rfl) (by simp) ?_
        refine AllReadyH.cons rfl (fun K' hK' => ?_) AllReadyH.nil
        go_simp
        refine (CL.out _ k2).mono ?_
        rintro e q3 ⟨vx, rfl, hox, j3⟩
        obtain ⟨ax, cx, hvx⟩ := owns_form hox
        subst hvx
        show K' _ _
        have k3 := below_then k2 j3
        have s3 := HSR.out _ k3
        refine hK'.out _ _ s3 (fun _ => ?_)
        clear hK' K'
        refine wpAnyH_ready (rs := [6]) (by kernel_rfl) (by simp) ?_
        refine AllReadyH.cons rfl (fun K' hK' => ?_) AllReadyH.nil
        go_simp
        have s4 := s3.alloc (.cells #[.slice ax ls.length cx] 34)
        have HCA4 := HCL.out _ (k3.alloc k3.size (.cells #[.slice ax ls.length cx] 34))
        refine hK'.out _ _ s4 (fun _ => ?_)
        clear hK' K'
        refine wpAnyH_ready (rs := [7]) (by kernel_rfl) (by simp) ?_
        refine AllReadyH.cons rfl (fun K' hK' => ?_) AllReadyH.nil
        refine step_app _ rfl (.tmp 16) (.tmp 21) 43 rfl w.heap.size 34 i0 (.slice none 0 0) 1 24 Tryz.underlying43 hi hz0 hz1 hz2 rfl (by decide) (.slice vsa K.length vsc) K.length (K.map (·.1)) (by simp [Act.eval]) ((HW.out _ k3).own.kr.alloc _) ⟨q3.heap.size, 0, none⟩ 1 1 [.slice ax ls.length cx] (by simp [Act.eval]) rfl ?c1x5 ?c2x5 ?c3x5 ?c4x5 ?c5x5 ?c6x5
        case c1x5 => exact lit_newS _ _ _
        case c2x5 => intro u hu; simp at hu; subst hu; rfl
        case c3x5 => exact n3.out
        case c4x5 => exact n4.out
        case c5x5 => exact HSZ.out _ _ k3
        case c6x5 =>
          intro v5 w5 hown5 hg5
          obtain ⟨a5, c5, hv5⟩ := owns_form hown5
          subst hv5
          obtain ⟨hS5, hcz, hfz, hS6, hF5⟩ := WI.add hp5 (HW.out _ k3) hox hown5 hg5
          show K' _ _
          refine hK'.out _ _ hS5 (fun _ => ?_)
          clear hK' K'
          refine takeG (some 23) (i := 8) (v := ?vw5x8) rfl rfl (by kernel_rfl) (by kernel_rfl) (by kernel_rfl) (fun _ _ _ h => h) (Or.inl ⟨by rfl, ?hw5x8⟩) hS5 ?rw5x8
          case hw5x8 => (intro w _; go_simp; try (with_reducible rfl))
          try simp only [Act.put, List.setIfInBounds_toArray]
          refine wpAnyH_ready (rs := [9]) (by kernel_rfl) (by simp) ?_
          refine AllReadyH.cons rfl (fun K' hK' => ?_) AllReadyH.nil
          go_simp
          refine hK'.out _ _ hS6 (fun _ => ?_)
          clear hK' K'
          refine wpAnyH_done (by kernel_rfl) ?_ _
          go_wp2_with fail
          go_roundw
          case rel => exact ⟨k + 1, _, _, by omega, by go_num, HNX.out _, hF5⟩
          case measure => simp [intOf]; omega
      ·
        go_simp
        refine (CS.out _).mono ?_
        rintro e q7 ⟨rfl, j7⟩
        show K' _ _
        have k7 := below_then kd j7
        have s7 := HSR.out _ k7
        refine hK'.out _ _ s7 (fun _ => ?_)
        clear hK' K'
        refine wpAnyH_ready (rs := [1, 5]) (by kernel_rfl) (by simp) ?_
        refine AllReadyH.cons rfl (fun K' hK' => ?_) (AllReadyH.cons rfl (fun K' hK' => ?_) AllReadyH.nil)
        ·
          have hc8 := HCL.out _ k7
          go_simp
          refine hK'.out _ _ s7 (fun _ => ?_)
          clear hK' K' hc8
          refine wpAnyH_ready (rs := [5]) (by kernel_rfl) (by simp) ?_
          refine AllReadyH.cons rfl (fun K' hK' => ?_) AllReadyH.nil
          go_simp
          refine (CL.out _ k7).mono ?_
          rintro e q9 ⟨vx, rfl, hox, j9⟩
          obtain ⟨ax, cx, hvx⟩ := owns_form hox
          subst hvx
          show K' _ _
          have k9 := below_then k7 j9
          have s9 := HSR.out _ k9
          refine hK'.out _ _ s9 (fun _ => ?_)
          clear hK' K'
          refine wpAnyH_ready (rs := [6]) (by kernel_rfl) (by simp) ?_
          refine AllReadyH.cons rfl (fun K' hK' => ?_) AllReadyH.nil
          go_simp
          have s10 := s9.alloc (.cells #[.slice ax ls.length cx] 34)
          have HCA10 := HCL.out _ (k9.alloc k9.size (.cells #[.slice ax ls.length cx] 34))
          refine hK'.out _ _ s10 (fun _ => ?_)
          clear hK' K'
          refine wpAnyH_ready (rs := [7]) (by kernel_rfl) (by simp) ?_
          refine AllReadyH.cons rfl (fun K' hK' => ?_) AllReadyH.nil
          refine step_app _ rfl (.tmp 16) (.tmp 21) 43 rfl w.heap.size 34 i0 (.slice none 0 0) 1 24 Tryz.underlying43 hi hz0 hz1 hz2 rfl (by decide) (.slice vsa K.length vsc) K.length (K.map (·.1)) (by simp [Act.eval]) ((HW.out _ k9).own.kr.alloc _) ⟨q9.heap.size, 0, none⟩ 1 1 [.slice ax ls.length cx] (by simp [Act.eval]) rfl ?c1x11 ?c2x11 ?c3x11 ?c4x11 ?c5x11 ?c6x11
          case c1x11 => exact lit_newS _ _ _
          case c2x11 => intro u hu; simp at hu; subst hu; rfl
          case c3x11 => exact n3.out
          case c4x11 => exact n4.out
          case c5x11 => exact HSZ.out _ _ k9
          case c6x11 =>
            intro v5 w5 hown5 hg5
            obtain ⟨a5, c5, hv5⟩ := owns_form hown5
            subst hv5
            obtain ⟨hS5, hcz, hfz, hS6, hF5⟩ := WI.add hp5 (HW.out _ k9) hox hown5 hg5
            show K' _ _
            refine hK'.out _ _ hS5 (fun _ => ?_)
            clear hK' K'
            refine takeG (some 23) (i := 8) (v := ?vw11x8) rfl rfl (by kernel_rfl) (by kernel_rfl) (by kernel_rfl) (fun _ _ _ h => h) (Or.inl ⟨by rfl, ?hw11x8⟩) hS5 ?rw11x8
            case hw11x8 => (intro w _; go_simp; try (with_reducible rfl))
            try simp only [Act.put, List.setIfInBounds_toArray]
            refine wpAnyH_ready (rs := [9]) (by kernel_rfl) (by simp) ?_
            refine AllReadyH.cons rfl (fun K' hK' => ?_) AllReadyH.nil
            go_simp
            refine hK'.out _ _ hS6 (fun _ => ?_)
            clear hK' K'
            refine wpAnyH_done (by kernel_rfl) ?_ _
            go_wp2_with fail
            go_roundw
            case rel => exact ⟨k + 1, _, _, by omega, by go_num, HNX.out _, hF5⟩
            case measure => simp [intOf]; omega
        ·
          go_simp
          refine (CL.out _ k7).mono ?_
          rintro e q13 ⟨vx, rfl, hox, j13⟩
          obtain ⟨ax, cx, hvx⟩ := owns_form hox
          subst hvx
          show K' _ _
          have k13 := below_then k7 j13
          have s13 := HSR.out _ k13
          refine hK'.out _ _ s13 (fun _ => ?_)
          clear hK' K'
          refine wpAnyH_ready (rs := [1, 6]) (by kernel_rfl) (by simp) ?_
          refine AllReadyH.cons rfl (fun K' hK' => ?_) (AllReadyH.cons rfl (fun K' hK' => ?_) AllReadyH.nil)
          ·
            have hc14 := HCL.out _ k13
            go_simp
            refine hK'.out _ _ s13 (fun _ => ?_)
            clear hK' K' hc14
            refine wpAnyH_ready (rs := [6]) (by kernel_rfl) (by simp) ?_
            refine AllReadyH.cons rfl (fun K' hK' => ?_) AllReadyH.nil
            go_simp
            have s15 := s13.alloc (.cells #[.slice ax ls.length cx] 34)
            have HCA15 := HCL.out _ (k13.alloc k13.size (.cells #[.slice ax ls.length cx] 34))
            refine hK'.out _ _ s15 (fun _ => ?_)
            clear hK' K'
            refine wpAnyH_ready (rs := [7]) (by kernel_rfl) (by simp) ?_
            refine AllReadyH.cons rfl (fun K' hK' => ?_) AllReadyH.nil
            refine step_app _ rfl (.tmp 16) (.tmp 21) 43 rfl w.heap.size 34 i0 (.slice none 0 0) 1 24 Tryz.underlying43 hi hz0 hz1 hz2 rfl (by decide) (.slice vsa K.length vsc) K.length (K.map (·.1)) (by simp [Act.eval]) ((HW.out _ k13).own.kr.alloc _) ⟨q13.heap.size, 0, none⟩ 1 1 [.slice ax ls.length cx] (by simp [Act.eval]) rfl ?c1x16 ?c2x16 ?c3x16 ?c4x16 ?c5x16 ?c6x16
            case c1x16 => exact lit_newS _ _ _
            case c2x16 => intro u hu; simp at hu; subst hu; rfl
            case c3x16 => exact n3.out
            case c4x16 => exact n4.out
            case c5x16 => exact HSZ.out _ _ k13
            case c6x16 =>
              intro v5 w5 hown5 hg5
              obtain ⟨a5, c5, hv5⟩ := owns_form hown5
              subst hv5
              obtain ⟨hS5, hcz, hfz, hS6, hF5⟩ := WI.add hp5 (HW.out _ k13) hox hown5 hg5
              show K' _ _
              refine hK'.out _ _ hS5 (fun _ => ?_)
              clear hK' K'
              refine takeG (some 23) (i := 8) (v := ?vw16x8) rfl rfl (by kernel_rfl) (by kernel_rfl) (by kernel_rfl) (fun _ _ _ h => h) (Or.inl ⟨by rfl, ?hw16x8⟩) hS5 ?rw16x8
              case hw16x8 => (intro w _; go_simp; try (with_reducible rfl))
              try simp only [Act.put, List.setIfInBounds_toArray]
              refine wpAnyH_ready (rs := [9]) (by kernel_rfl) (by simp) ?_
              refine AllReadyH.cons rfl (fun K' hK' => ?_) AllReadyH.nil
              go_simp
              refine hK'.out _ _ hS6 (fun _ => ?_)
              clear hK' K'
              refine wpAnyH_done (by kernel_rfl) ?_ _
              go_wp2_with fail
              go_roundw
              case rel => exact ⟨k + 1, _, _, by omega, by go_num, HNX.out _, hF5⟩
              case measure => simp [intOf]; omega
          ·
            go_simp
            have s18 := s13.alloc (.cells #[.slice ax ls.length cx] 34)
            have HCA18 := HCL.out _ (k13.alloc k13.size (.cells #[.slice ax ls.length cx] 34))
            refine hK'.out _ _ s18 (fun _ => ?_)
            clear hK' K'
            refine wpAnyH_ready (rs := [1]) (by kernel_rfl) (by simp) ?_
            refine AllReadyH.cons rfl (fun K' hK' => ?_) AllReadyH.nil
            have hc19 := HCA18
            go_simp
            refine hK'.out _ _ s18 (fun _ => ?_)
            clear hK' K' hc19
            refine wpAnyH_ready (rs := [7]) (by kernel_rfl) (by simp) ?_
            refine AllReadyH.cons rfl (fun K' hK' => ?_) AllReadyH.nil
            refine step_app _ rfl (.tmp 16) (.tmp 21) 43 rfl w.heap.size 34 i0 (.slice none 0 0) 1 24 Tryz.underlying43 hi hz0 hz1 hz2 rfl (by decide) (.slice vsa K.length vsc) K.length (K.map (·.1)) (by simp [Act.eval]) ((HW.out _ k13).own.kr.alloc _) ⟨q13.heap.size, 0, none⟩ 1 1 [.slice ax ls.length cx] (by simp [Act.eval]) rfl ?c1x20 ?c2x20 ?c3x20 ?c4x20 ?c5x20 ?c6x20
            case c1x20 => exact lit_newS _ _ _
            case c2x20 => intro u hu; simp at hu; subst hu; rfl
            case c3x20 => exact n3.out
            case c4x20 => exact n4.out
            case c5x20 => exact HSZ.out _ _ k13
            case c6x20 =>
              intro v5 w5 hown5 hg5
              obtain ⟨a5, c5, hv5⟩ := owns_form hown5
              subst hv5
              obtain ⟨hS5, hcz, hfz, hS6, hF5⟩ := WI.add hp5 (HW.out _ k13) hox hown5 hg5
              show K' _ _
              refine hK'.out _ _ hS5 (fun _ => ?_)
              clear hK' K'
              refine takeG (some 23) (i := 8) (v := ?vw20x8) rfl rfl (by kernel_rfl) (by kernel_rfl) (by kernel_rfl) (fun _ _ _ h => h) (Or.inl ⟨by rfl, ?hw20x8⟩) hS5 ?rw20x8
              case hw20x8 => (intro w _; go_simp; try (with_reducible rfl))
              try simp only [Act.put, List.setIfInBounds_toArray]
              refine wpAnyH_ready (rs := [9]) (by kernel_rfl) (by simp) ?_
              refine AllReadyH.cons rfl (fun K' hK' => ?_) AllReadyH.nil
              go_simp
              refine hK'.out _ _ hS6 (fun _ => ?_)
              clear hK' K'
              refine wpAnyH_done (by kernel_rfl) ?_ _
              go_wp2_with fail
              go_roundw
              case rel => exact ⟨k + 1, _, _, by omega, by go_num, HNX.out _, hF5⟩
              case measure => simp [intOf]; omega
    · have hkn : k = l.length := by omega
      have hnk : ¬ (k : Int) < (l.length : Int) := by omega
      rw [hkn] at hK
      have HL := Lib.hid hK
      clear hK
      have b1 := hW.box
      have b2 := hW.res
      obtain ⟨vsa, vsc, rfl⟩ := owns_form hW.own.kr
      have c0 : wr.cell? ⟨p5, 0, none⟩ = some (.slice oo l.length oc) := by unfold At at b1; simp [World.cell?, b1]
      have c1 : wr.cell? ⟨p5, 1, none⟩ = some (.slice vsa K.length vsc) := by unfold At at b1; simp [World.cell?, b1]
      have c2 : wr.cell? ⟨w.heap.size + 1, 0, none⟩ = some (.slice none 0 0) := by unfold At at b2; simp [World.cell?, b2]
      have c3 : wr.cell? ⟨w.heap.size + 1, 1, none⟩ = some (.slice none 0 0) := by unfold At at b2; simp [World.cell?, b2]
      have f2 := frozen_of_row wr (w.heap.size + 1) 0 _ _ b2
      have f3 := frozen_of_row wr (w.heap.size + 1) 1 _ _ b2
      have HW := Lib.hid hW
      clear hW b1 b2
      go_wp2_with fail
      obtain ⟨e1, e2, e3, e4⟩ := WI.done HW.out
      rw [HL.out] at e3
      generalize (wr.setCell ⟨w.heap.size + 1, 0, none⟩ (.slice oo l.length oc)).setCell ⟨w.heap.size + 1, 1, none⟩ (.slice vsa K.length vsc) = w7 at *
      have d0 : w7.cell? ⟨w.heap.size + 1, 0, none⟩ = some (.slice oo l.length oc) := by unfold At at e1; simp [World.cell?, e1]
      have d1 : w7.cell? ⟨w.heap.size + 1, 1, none⟩ = some (.slice vsa K.length vsc) := by unfold At at e1; simp [World.cell?, e1]
      clear c0 c1 c2 c3 f2 f3
      refine bodyPost_ret (v := .agg #[.slice oo l.length oc, .slice vsa K.length vsc]) ?_ rfl ⟨⟨_, _, rfl, e2, e3⟩, e4⟩
      simp [results, Tryz.results15, go_sem, d0, d1]
end Go.Proofs.YtflalehpdngklaaGreatDoor

namespace Go.Proofs.YtflalehpdngklaaGreatDoor
set_option maxRecDepth 100000
open Go.RowKit

theorem insP_nodup {i : Int} : ∀ (l : List Int) {o : List Pr}, o.Nodup → (insP o i l).Nodup
  | [], _, h => h
  | _ :: l, _, h => insP_nodup l (putP_nodup h)
theorem pairsL_nodup (LL : List (List Int)) : ∀ k, (pairsL LL k).Nodup
  | 0 => List.nodup_nil
  | k + 1 => insP_nodup _ (pairsL_nodup LL k)
theorem seesL_len (V : Mat) (n : Nat) : (seesL V n).length = n := by simp [seesL]
theorem seesL_get (V : Mat) {n i : Nat} (hi : i < n) : (seesL V n).getD i [] = (lst (seeTo V (i : Int) 64)).map Int.ofNat := by
  unfold seesL
  rw [List.getD_eq_getElem?_getD, List.getElem?_map, List.getElem?_range hi]; rfl
theorem mem_sees {V : Mat} {i : Nat} (hi : i < 64) {a : Int} : a ∈ (lst (seeTo V (i : Int) 64)).map Int.ofNat ↔ ∃ j : Nat, j < 64 ∧ a = (j : Int) ∧ V j i = true := by
  rw [List.mem_map]
  constructor
  · rintro ⟨j, hj, rfl⟩
    obtain ⟨h1, h2⟩ := mem_lst.1 hj
    rw [seeTo_bit V _ j 64 (Nat.le_refl 64), decide_eq_true h1, Bool.true_and, hasR_nat V j i h1 hi] at h2
    exact ⟨j, h1, rfl, h2⟩
  · rintro ⟨j, hj, rfl, hv⟩
    refine ⟨j, mem_lst.2 ⟨hj, ?_⟩, rfl⟩
    rw [seeTo_bit V _ j 64 (Nat.le_refl 64), decide_eq_true hj, Bool.true_and, hasR_nat V j i hj hi]
    exact hv
/-- All numbers are below n. -/
def Low (n : Nat) (m : List Pr) : Prop := ∀ q ∈ m, q.1 < (n : Int) ∧ q.2 < (n : Int)
theorem tells_ok {V : Mat} {m : List Pr} {n : Nat} (hn : n ≤ 64) (hR : Rep V m) (hL : Low n m) : okL n (seesL V n) = true := by
  unfold okL
  rw [seesL_len, decide_eq_true rfl, Bool.true_and, List.all_eq_true]
  intro l hl
  unfold seesL at hl
  obtain ⟨i, hi, rfl⟩ := List.mem_map.1 hl
  have hin := List.mem_range.1 hi
  unfold okRow
  rw [List.all_eq_true]
  intro a ha
  obtain ⟨j, hj, rfl, hv⟩ := (mem_sees (show i < 64 by omega)).1 ha
  have := hL _ ((hR.2 _ _).2 ⟨j, i, hj, by omega, rfl, rfl, hv⟩)
  simp only [Bool.and_eq_true, decide_eq_true_eq]
  exact ⟨by omega, this.1⟩
theorem tells_rep {V : Mat} {m : List Pr} {n : Nat} (hn : n ≤ 64) (hR : Rep V m) (hL : Low n m) : Rep V (pairsL (seesL V n) n) := by
  refine ⟨pairsL_nodup _ _, fun a b => ?_⟩
  rw [mem_pairsL]
  constructor
  · rintro ⟨i, hi, a2, ha2, e⟩
    rw [seesL_get V hi] at ha2
    obtain ⟨j, hj, rfl, hv⟩ := (mem_sees (show i < 64 by omega)).1 ha2
    have e1 := congrArg Prod.fst e
    have e2 := congrArg Prod.snd e
    exact ⟨j, i, hj, by omega, e1, e2, hv⟩
  · rintro ⟨j, i, hj, hi, rfl, rfl, hv⟩
    have hlow := hL _ ((hR.2 _ _).2 ⟨j, i, hj, hi, rfl, rfl, hv⟩)
    have hin : i < n := by have := hlow.2; simp at this; omega
    refine ⟨i, hin, (j : Int), ?_, rfl⟩
    rw [seesL_get V hin]
    exact (mem_sees hi).2 ⟨j, hj, rfl, hv⟩
theorem tells_has {V : Mat} {m : List Pr} {i : Nat} (hi : i < 64) (hR : Rep V m) {a : Int} (ha : a ∈ (lst (seeTo V (i : Int) 64)).map Int.ofNat) : hasP m a (i : Int) = true := by
  obtain ⟨j, hj, rfl, hv⟩ := (mem_sees hi).1 ha
  rw [hasP_rep hR hj hi]; exact hv
theorem tells_up (V : Mat) (i : Int) {sl : List Int} (hsl : sl = (lst (seeTo V i 64)).map Int.ofNat) {k : Nat} (hk : k + 1 < sl.length) : sl[k] < sl[k + 1] := by
  subst hsl
  have h := lst_sorted (seeTo V i 64)
  rw [List.length_map] at hk
  rw [List.getElem_map, List.getElem_map]
  have := List.pairwise_iff_getElem.1 h k (k + 1) (by omega) hk (by omega)
  show ((lst (seeTo V i 64))[k] : Int) < ((lst (seeTo V i 64))[k + 1] : Int)
  omega
set_option maxRecDepth 100000 in
set_option maxHeartbeats 32000000 in
theorem tells12_walk (vh vb vs vm : Value) (h : List TxnV) (bs : List Int) (bl : List Bool) (mp : List Pr) (lv : Int) (w : World) (ht : Tab w) (hK : Kinds w) (hT : Txns w vh h) (hok : ∀ t ∈ h, t.ok) (hsh : Short h) (hB : Row w vb bs.length 1 (bs.map (Value.int .u8))) (hbs : ∀ x ∈ bs, 0 ≤ x ∧ x < 256)
    (hE : Row w vs bl.length 1 (bl.map Value.bool)) (hM : Prs w vm mp) :
    Calls Tryz.prog 3 #[.agg #[vh, vb, vs, vm], .int .i64 lv] w fun e w' => e = .returned (.bool true) ∧ Below w.heap.size w w' := by
  have hg := ht.pos
  have HT : Hid (∀ wx, Below w.heap.size w wx → Tab wx ∧ Kinds wx) := Lib.hid (fun wx hb => ⟨ht.below hb hg, hK.below hb⟩)
  have HH := Lib.hid (fun wx (hx : Below w.heap.size w wx) => hT.below hx)
  have HBY := Lib.hid (fun wx (hx : Below w.heap.size w wx) => hB.below hx)
  have HSE := Lib.hid (fun wx (hx : Below w.heap.size w wx) => hE.below hx)
  have HMP := Lib.hid (fun wx (hx : Below w.heap.size w wx) => hM.below hx)
  obtain ⟨ao, cap, rfl, hal⟩ := hT.form
  obtain ⟨mo, mcap, rfl, hml⟩ := hM.form
  have HOK := Lib.hid hok
  have HSH := Lib.hid hsh
  have HBS := Lib.hid hbs
  obtain ⟨bo, bcap, rfl⟩ : ∃ bo bcap, vb = .slice bo bs.length bcap := by
    obtain ⟨_, bo, bcap, e, _⟩ := hB
    exact ⟨bo, bcap, e⟩
  obtain ⟨so, scap, rfl⟩ : ∃ so scap, vs = .slice so bl.length scap := by
    obtain ⟨_, so, scap, e, _⟩ := hE
    exact ⟨so, scap, e⟩
  have hbx := box_below w (.cells #[.slice ao h.length cap, .slice bo bs.length bcap, .slice so bl.length scap, .slice mo mp.length mcap] 27)
  have hC0 : GivenM w.heap.size (.slice ao h.length cap) (.slice bo bs.length bcap) (.slice so bl.length scap) (.slice mo mp.length mcap) (w.alloc (.cells #[.slice ao h.length cap, .slice bo bs.length bcap, .slice so bl.length scap, .slice mo mp.length mcap] 27)) := by
    refine ⟨⟨?_, ?_, ?_⟩, ?_⟩ <;> (rw [cell_of_row _ _ _ _ _ _ (heap_alloc_new w _)]; rfl)
  clear ht hK hT hok hB hbs hE hM hal
  go_enter Tryz.func3, Tryz.ntmps3
  go_upto_region 1 with fail
  generalize w.alloc (.cells #[.slice ao h.length cap, .slice bo bs.length bcap, .slice so bl.length scap, .slice mo mp.length mcap] 27) = w0 at *
  go_wp2_with fail
  refine (speaks12_any _ (HT.out _ hbx).1 (HT.out _ hbx).2).mono ?_
  rintro e w1 ⟨rfl, hb1⟩
  have hC1 := hC0.below hb1
  have hb1 := below_then hbx hb1
  obtain ⟨⟨n0, n1, n2⟩, n3⟩ := hC1
  go_wp2_with fail
  refine (small_any _ h _ (HH.out _ hb1) HSH.out).mono ?_
  rintro e w2 ⟨rfl, hb2⟩
  have hC2 := GivenM.below ⟨⟨n0, n1, n2⟩, n3⟩ hb2
  have hb2 := below_then hb1 hb2
  clear n0 n1 n2 n3 hb1 hC0 hbx
  by_cases hs : smallI h = 0
  · rw [hs]
    go_wp2_with fail
    go_ret
    exact ⟨rfl, hb2⟩
  obtain ⟨h7, hc, h1⟩ := small_no hs
  rw [h1]
  obtain ⟨⟨n0, n1, n2⟩, n3⟩ := hC2
  by_cases h20 : 20 < mp.length
  · have h20i : (20 : Int) < (mp.length : Int) := by omega
    clear hs h1 hc
    go_wp2_with fail
    go_ret
    exact ⟨rfl, hb2⟩
  have h20i : ¬ (20 : Int) < (mp.length : Int) := by omega
  have CO := Lib.hid (of_done _ h w2 (HH.out _ hb2) HOK.out HSH.out hc)
  have HC := Lib.hid hc
  clear hs h1 hc hsh
  go_wp2_with fail
  refine (CO.out).mono ?_
  rintro e w3 ⟨⟨B, rfl, hB, hO⟩, hb3⟩
  have hC3 := GivenM.below ⟨⟨n0, n1, n2⟩, n3⟩ hb3
  have hb3 := below_then hb2 hb3
  clear n0 n1 n2 n3 hb2 CO hB h20i
  have CF := Lib.hid (of12_any _ _ _ _ h bs bl mp w3 h7 (by omega) (HH.out _ hb3) (HBY.out _ hb3) HBS.out (HSE.out _ hb3) (HMP.out _ hb3))
  obtain ⟨⟨n0, n1, n2⟩, n3⟩ := hC3
  go_wp2_with fail
  refine (CF.out).mono ?_
  rintro e w4 ⟨⟨vr, vm2, L, V, m, rfl, hI, hP, hm, hR⟩, hb4⟩
  have hC4 := GivenM.below ⟨⟨n0, n1, n2⟩, n3⟩ hb4
  have hO4 := hO.below hb4
  have hb4 := below_then hb3 hb4
  have hFull := full_of_perm hP
  have hLlen : (L.map Int.ofNat).length = h.length := by have := hP.length_eq; simpa using this
  clear n0 n1 n2 n3 hb3 hO CF hP HBY HSE HMP HBS HOK HSH
  generalize L.map Int.ofNat = l at *
  have HR := Lib.hid hR
  have HFU := Lib.hid (And.intro hFull hLlen)
  clear hFull hLlen
  obtain ⟨ro, rcap, rfl, hrl⟩ := hI.form
  obtain ⟨m2o, m2cap, rfl, hm2l⟩ := hm.form
  have hz4 := zero_block w4
  have hz5 := hz4.setRow V
  have kz := zero_below w4 V
  have hb5 := hb4.trans (kz.mono hb4.size)
  have hC5 := hC4.below kz
  have hO5 := hO4.below kz
  have hI5 := hI.below kz
  have hm5 := hm.below kz
  obtain ⟨⟨n0, n1, n2⟩, n3⟩ := hC5
  clear hC4 hO4 hI hm hR hb4 h7
  go_wp2_with (with_reducible refine wpList_store_rel hz4 V rfl _ _ rfl rfl rfl ?_)
  clear hz4 kz
  have hC5 : GivenM w.heap.size _ _ _ _ _ := ⟨⟨n0, n1, n2⟩, n3⟩
  generalize (w4.alloc (.cells #[.int .u64 0, .int .u64 0, .int .u64 0, .int .u64 0, .int .u64 0, .int .u64 0, .int .u64 0, .int .u64 0, .int .u64 0, .int .u64 0, .int .u64 0, .int .u64 0, .int .u64 0, .int .u64 0, .int .u64 0, .int .u64 0, .int .u64 0, .int .u64 0, .int .u64 0, .int .u64 0, .int .u64 0, .int .u64 0, .int .u64 0, .int .u64 0, .int .u64 0, .int .u64 0, .int .u64 0, .int .u64 0, .int .u64 0, .int .u64 0, .int .u64 0, .int .u64 0, .int .u64 0, .int .u64 0, .int .u64 0, .int .u64 0, .int .u64 0, .int .u64 0, .int .u64 0, .int .u64 0, .int .u64 0, .int .u64 0, .int .u64 0, .int .u64 0, .int .u64 0, .int .u64 0, .int .u64 0, .int .u64 0, .int .u64 0, .int .u64 0, .int .u64 0, .int .u64 0, .int .u64 0, .int .u64 0, .int .u64 0, .int .u64 0, .int .u64 0, .int .u64 0, .int .u64 0, .int .u64 0, .int .u64 0, .int .u64 0, .int .u64 0, .int .u64 0] 38)).setRow w4.heap.size (rowsA V) = w5 at *
  generalize w4.heap.size = p6 at *
  have HF := Lib.hid (fun wx (hx : Below w5.heap.size w5 wx) => hb5.trans (hx.mono hb5.size))
  have HS := Lib.hid (fun wx (hx : Below w5.heap.size w5 wx) => hC5.below hx)
  have HV := Lib.hid (fun wx (hx : Below w5.heap.size w5 wx) => hz5.below hx hz5.lt)
  have HIX := Lib.hid (fun wx (hx : Below w5.heap.size w5 wx) => hI5.below hx)
  have HMX := Lib.hid (fun wx (hx : Below w5.heap.size w5 wx) => hm5.below hx)
  have hn64 := (check_zero HC.out).1
  have hlen := HFU.out.2
  have CW := Lib.hid (fun wx (hx : Below w5.heap.size w5 wx) => awitness_any _ l V wx (HT.out _ (HF.out _ hx)).1 (hI5.below hx) (by omega))
  have CHR := Lib.hid (fun wx (hx : Below w5.heap.size w5 wx) => rholds12_any _ _ _ h lv l m HC.out wx (HH.out _ (HF.out _ hx)) (hI5.below hx) (hm5.below hx))
  have CAC := Lib.hid (fun vo vs2 LL wx (hx : Below w5.heap.size w5 wx) (ho : Ints wx vo l) (hL : Lists wx vs2 LL) => aaccepts_any lv vo vs2 l LL h B (B + 2) wx (hO5.below hx) HC.out (HT.out _ (HF.out _ hx)).1 (HT.out _ (HF.out _ hx)).2 ho hL)
  have CPH := Lib.hid (fun a b wx (hx : Below w5.heap.size w5 wx) => phas_any _ m a b wx (hm5.below hx))
  have HSA : Hid (Low h.length m → acceptsB h lv l (seesL V h.length) = holdsR h lv l m) := Lib.hid (fun hq => by
    have e1 := holds_same HC.out (tells_rep hn64 HR.out hq) lv l
    have e2 := holds_same HC.out HR.out lv l
    unfold acceptsB
    rw [tells_ok hn64 HR.out hq, Bool.true_and, ← e1, e2])
  have HTH := Lib.hid (fun (i : Nat) (hi : i < 64) (a : Int) (ha : a ∈ (lst (seeTo V (i : Int) 64)).map Int.ofNat) => tells_has hi HR.out ha)
  have hb := Below.refl w5.heap.size w5
  have HLN := Lib.hid hlen
  have HN6 := Lib.hid hn64
  clear hC5 hz5 hO5 hI5 hm5 hb5 HT HH HC HR HFU n0 n1 n2 n3 hlen hn64
  go_loopw [49] (fun kv wr => ∃ k : Nat, k ≤ m.length ∧ kv = .int .i64 k ∧ Hid (Low h.length (m.take k)) ∧ Below w5.heap.size w5 wr) (fun kv _ => m.length - (intOf kv).toNat)
  case atStart => exact ⟨0, by omega, rfl, Lib.hid (fun q hq => by cases hq), hb⟩
  case round =>
    clear hb
    obtain ⟨k, hk, rfl, HLO, hb⟩ := hrel
    by_cases hlt : k < m.length
    · have hki : (k : Int) < (m.length : Int) := by omega
      obtain ⟨p2, off2, hao2, hc1, hc2⟩ := (HMX.out _ hb).at hlt
      cases hao2
      have HNX := Lib.hid (fun (h1 : m[k].1 < (l.length : Int)) (h2 : m[k].2 < (l.length : Int)) => show Low h.length (m.take (k + 1)) by
        intro q hq
        rw [List.take_succ_eq_append_getElem hlt, List.mem_append] at hq
        rcases hq with hq | hq
        · exact HLO.out q hq
        · have hq := List.mem_singleton.1 hq
          rw [hq]
          have := HLN.out
          omega)
      have hbb := fun o => hb.alloc hb.size o
      generalize m[k].1 = x at *
      generalize m[k].2 = y at *
      clear HLO CW CHR CAC CPH HSA HTH
      by_cases hx : x < (l.length : Int)
      · by_cases hy : y < (l.length : Int)
        · have hx2 : ¬ (l.length : Int) ≤ x := by omega
          have hy2 : ¬ (l.length : Int) ≤ y := by omega
          have HNX := Lib.hid (HNX.out hx hy)
          go_wp2_with fail
          go_roundw
          case rel => exact ⟨k + 1, by omega, by go_num, HNX, hbb _⟩
          case measure => simp [intOf]; omega
        · have hx2 : ¬ (l.length : Int) ≤ x := by omega
          have hy2 : (l.length : Int) ≤ y := by omega
          go_wp2_with fail
          go_ret
          exact ⟨rfl, HF.out _ (hbb _)⟩
      · have hx2 : (l.length : Int) ≤ x := by omega
        go_wp2_with fail
        go_ret
        exact ⟨rfl, HF.out _ (hbb _)⟩
    · have hkn : k = m.length := by omega
      subst hkn
      have HLO := Lib.hid (show Low h.length m by have := HLO.out; rwa [List.take_length] at this)
      have HSA := Lib.hid (HSA.out HLO.out)
      have yv := HV.out _ hb
      have CW := Lib.hid (CW.out _ hb)
      clear hlt hk
      go_wp2_with (with_reducible refine wpList_load_rel yv rfl _ rfl rfl ?_)
      refine (CW.out).mono ?_
      rintro e w7 ⟨⟨vo, vs2, rfl, hoI, hoL⟩, h7⟩
      rw [HLN.out] at hoL
      have hb7 := below_then hb h7
      obtain ⟨oo, oc, rfl, _⟩ := hoI.form
      obtain ⟨so2, sc2, rfl, _⟩ := hoL.form
      rw [seesL_len]
      clear CW yv hb h7
      go_upto_region 16 with fail
      have hW8 : WitS w7.heap.size (.slice oo l.length oc) (.slice so2 h.length sc2) (w7.alloc (.cells #[.slice oo l.length oc, .slice so2 h.length sc2] 45)) := by
        refine ⟨?_, ?_⟩ <;> (rw [cell_of_row _ _ _ _ _ _ (heap_alloc_new w7 _)]; rfl)
      have hb8 := hb7.alloc hb7.size (.cells #[.slice oo l.length oc, .slice so2 h.length sc2] 45)
      have hoI := hoI.below (box_below w7 (.cells #[.slice oo l.length oc, .slice so2 h.length sc2] 45))
      have hoL := hoL.below (box_below w7 (.cells #[.slice oo l.length oc, .slice so2 h.length sc2] 45))
      rw [seesL_len] at hoL
      generalize w7.alloc (.cells #[.slice oo l.length oc, .slice so2 h.length sc2] 45) = w8 at *
      generalize w7.heap.size = p12 at *
      have HF8 := Lib.hid (fun wx (hx : Below w8.heap.size w8 wx) => hb8.trans (hx.mono hb8.size))
      have HS8 := Lib.hid (fun wx (hx : Below w8.heap.size w8 wx) => And.intro (HS.out _ (HF8.out _ hx)) (hW8.below hx))
      have HOI := Lib.hid (fun wx (hx : Below w8.heap.size w8 wx) => hoI.below hx)
      have HOL := Lib.hid (fun wx (hx : Below w8.heap.size w8 wx) => hoL.below hx)
      have C1 := Lib.hid (fun wx (hx : Below w8.heap.size w8 wx) => same_any _ _ l l wx (HOI.out _ hx) (HIX.out _ (HF8.out _ hx)))
      have hsl : sameL l l = true := by unfold sameL; simp
      rw [hsl] at C1
      have C2 := Lib.hid (fun wx (hx : Below w8.heap.size w8 wx) => CAC.out _ _ _ wx (HF8.out _ hx) (HOI.out _ hx) (HOL.out _ hx))
      rw [HSA.out] at C2
      have C3 := Lib.hid (fun wx (hx : Below w8.heap.size w8 wx) => CHR.out wx (HF8.out _ hx))
      have hlb : ((h.length : Int) != (l.length : Int)) = false := by rw [bne_eq_false_iff_eq, HLN.out]
      have kd := (Below.refl w8.heap.size w8).drew
      clear hb7 hW8 hb8 hoI hoL hsl CAC CHR HSA
      generalize holdsR h lv l m = s at *
      cases s with
      | true =>
        refine wp_region_held_drew (S := Below w8.heap.size w8) (by kernel_rfl) kd (fun hS0 => ?_)
        refine takeG (some 69) (i := 0) (v := ?vtt0) rfl rfl (by kernel_rfl) (by kernel_rfl) (by kernel_rfl) (fun _ _ _ h => h) (Or.inl ⟨by rfl, ?htt0⟩) hS0 ?rtt0
        case htt0 => (intro w hw; obtain ⟨⟨⟨n0, n1, n2⟩, n3⟩, q0, q1⟩ := HS8.out _ hw; go_simp; try (with_reducible rfl))
        try simp only [Act.put, List.setIfInBounds_toArray, List.set_cons_zero, List.set_cons_succ]
        refine takeG (some 70) (i := 1) (v := ?vtt1) rfl rfl (by kernel_rfl) (by kernel_rfl) (by kernel_rfl) (fun _ _ _ h => h) (Or.inl ⟨by rfl, ?htt1⟩) hS0 ?rtt1
        case htt1 => (intro w hw; obtain ⟨⟨⟨n0, n1, n2⟩, n3⟩, q0, q1⟩ := HS8.out _ hw; go_simp; try (with_reducible rfl))
        try simp only [Act.put, List.setIfInBounds_toArray, List.set_cons_zero, List.set_cons_succ]
        refine takeG (some 71) (i := 2) (v := ?vtt2) rfl rfl (by kernel_rfl) (by kernel_rfl) (by kernel_rfl) (fun _ _ _ h => h) (Or.inl ⟨by rfl, ?htt2⟩) hS0 ?rtt2
        case htt2 => (intro w hw; obtain ⟨⟨⟨n0, n1, n2⟩, n3⟩, q0, q1⟩ := HS8.out _ hw; go_simp; try (with_reducible rfl))
        try simp only [Act.put, List.setIfInBounds_toArray, List.set_cons_zero, List.set_cons_succ]
        refine wpAnyH_ready (rs := [3]) (by kernel_rfl) (by simp) ?_
        refine AllReadyH.cons rfl (fun K hK => ?_) AllReadyH.nil
        go_simp
        refine (C1.out _ hS0).mono ?_
        rintro e y1 ⟨rfl, j1⟩
        show K _ _
        have s1 := below_then hS0 j1
        refine hK.out _ _ s1 (fun _ => ?_)
        clear hK K
        refine takeG (some 73) (i := 4) (v := ?vtt4) rfl rfl (by kernel_rfl) (by kernel_rfl) (by kernel_rfl) (fun _ _ _ h => h) (Or.inl ⟨by rfl, ?htt4⟩) s1 ?rtt4
        case htt4 => (intro w hw; obtain ⟨⟨⟨n0, n1, n2⟩, n3⟩, q0, q1⟩ := HS8.out _ hw; go_simp; try (with_reducible rfl))
        try simp only [Act.put, List.setIfInBounds_toArray, List.set_cons_zero, List.set_cons_succ]
        refine takeG (some 74) (i := 5) (v := ?vtt5) rfl rfl (by kernel_rfl) (by kernel_rfl) (by kernel_rfl) (fun _ _ _ h => h) (Or.inl ⟨by rfl, ?htt5⟩) s1 ?rtt5
        case htt5 => (intro w hw; obtain ⟨⟨⟨n0, n1, n2⟩, n3⟩, q0, q1⟩ := HS8.out _ hw; go_simp; try (with_reducible rfl))
        try simp only [Act.put, List.setIfInBounds_toArray, List.set_cons_zero, List.set_cons_succ]
        refine takeG (some 75) (i := 6) (v := ?vtt6) rfl rfl (by kernel_rfl) (by kernel_rfl) (by kernel_rfl) (fun _ _ _ h => h) (Or.inl ⟨by rfl, ?htt6⟩) s1 ?rtt6
        case htt6 => (intro w hw; obtain ⟨⟨⟨n0, n1, n2⟩, n3⟩, q0, q1⟩ := HS8.out _ hw; go_simp; try (with_reducible rfl))
        try simp only [Act.put, List.setIfInBounds_toArray, List.set_cons_zero, List.set_cons_succ]
        refine takeG (some 76) (i := 7) (v := ?vtt7) rfl rfl (by kernel_rfl) (by kernel_rfl) (by kernel_rfl) (fun _ _ _ h => h) (Or.inl ⟨by rfl, ?htt7⟩) s1 ?rtt7
        case htt7 => (intro w hw; obtain ⟨⟨⟨n0, n1, n2⟩, n3⟩, q0, q1⟩ := HS8.out _ hw; go_simp; try (with_reducible rfl))
        try simp only [Act.put, List.setIfInBounds_toArray, List.set_cons_zero, List.set_cons_succ]
        refine takeG (some 77) (i := 8) (v := ?vtt8) rfl rfl (by kernel_rfl) (by kernel_rfl) (by kernel_rfl) (fun _ _ _ h => h) (Or.inl ⟨by rfl, ?htt8⟩) s1 ?rtt8
        case htt8 => (intro w hw; obtain ⟨⟨⟨n0, n1, n2⟩, n3⟩, q0, q1⟩ := HS8.out _ hw; go_simp; try (with_reducible rfl))
        try simp only [Act.put, List.setIfInBounds_toArray, List.set_cons_zero, List.set_cons_succ]
        refine takeG (some 78) (i := 9) (v := ?vtt9) rfl rfl (by kernel_rfl) (by kernel_rfl) (by kernel_rfl) (fun _ _ _ h => h) (Or.inl ⟨by rfl, ?htt9⟩) s1 ?rtt9
        case htt9 => (intro w hw; obtain ⟨⟨⟨n0, n1, n2⟩, n3⟩, q0, q1⟩ := HS8.out _ hw; go_simp; try (with_reducible rfl))
        try simp only [Act.put, List.setIfInBounds_toArray, List.set_cons_zero, List.set_cons_succ]
        refine takeG (some 79) (i := 10) (v := ?vtt10) rfl rfl (by kernel_rfl) (by kernel_rfl) (by kernel_rfl) (fun _ _ _ h => h) (Or.inl ⟨by rfl, ?htt10⟩) s1 ?rtt10
        case htt10 => (intro w hw; obtain ⟨⟨⟨n0, n1, n2⟩, n3⟩, q0, q1⟩ := HS8.out _ hw; go_simp; try (with_reducible rfl))
        try simp only [Act.put, List.setIfInBounds_toArray, List.set_cons_zero, List.set_cons_succ]
        refine takeG (some 80) (i := 11) (v := ?vtt11) rfl rfl (by kernel_rfl) (by kernel_rfl) (by kernel_rfl) (fun _ _ _ h => h) (Or.inl ⟨by rfl, ?htt11⟩) s1 ?rtt11
        case htt11 => (intro w hw; obtain ⟨⟨⟨n0, n1, n2⟩, n3⟩, q0, q1⟩ := HS8.out _ hw; go_simp; try (with_reducible rfl))
        try simp only [Act.put, List.setIfInBounds_toArray, List.set_cons_zero, List.set_cons_succ]
        refine takeG (some 81) (i := 12) (v := ?vtt12) rfl rfl (by kernel_rfl) (by kernel_rfl) (by kernel_rfl) (fun _ _ _ h => h) (Or.inl ⟨by rfl, ?htt12⟩) s1 ?rtt12
        case htt12 => (intro w hw; obtain ⟨⟨⟨n0, n1, n2⟩, n3⟩, q0, q1⟩ := HS8.out _ hw; go_simp; try (with_reducible rfl))
        try simp only [Act.put, List.setIfInBounds_toArray, List.set_cons_zero, List.set_cons_succ]
        refine takeG (some 82) (i := 13) (v := ?vtt13) rfl rfl (by kernel_rfl) (by kernel_rfl) (by kernel_rfl) (fun _ _ _ h => h) (Or.inl ⟨by rfl, ?htt13⟩) s1 ?rtt13
        case htt13 => (intro w hw; obtain ⟨⟨⟨n0, n1, n2⟩, n3⟩, q0, q1⟩ := HS8.out _ hw; go_simp; try (with_reducible rfl))
        try simp only [Act.put, List.setIfInBounds_toArray, List.set_cons_zero, List.set_cons_succ]
        refine takeG (some 83) (i := 14) (v := ?vtt14) rfl rfl (by kernel_rfl) (by kernel_rfl) (by kernel_rfl) (fun _ _ _ h => h) (Or.inl ⟨by rfl, ?htt14⟩) s1 ?rtt14
        case htt14 => (intro w hw; obtain ⟨⟨⟨n0, n1, n2⟩, n3⟩, q0, q1⟩ := HS8.out _ hw; go_simp; try (with_reducible rfl))
        try simp only [Act.put, List.setIfInBounds_toArray, List.set_cons_zero, List.set_cons_succ]
        refine takeG (some 84) (i := 15) (v := ?vtt15) rfl rfl (by kernel_rfl) (by kernel_rfl) (by kernel_rfl) (fun _ _ _ h => h) (Or.inl ⟨by rfl, ?htt15⟩) s1 ?rtt15
        case htt15 => (intro w hw; obtain ⟨⟨⟨n0, n1, n2⟩, n3⟩, q0, q1⟩ := HS8.out _ hw; go_simp; try (with_reducible rfl))
        try simp only [Act.put, List.setIfInBounds_toArray, List.set_cons_zero, List.set_cons_succ]
        refine takeG (some 85) (i := 16) (v := ?vtt16) rfl rfl (by kernel_rfl) (by kernel_rfl) (by kernel_rfl) (fun _ _ _ h => h) (Or.inl ⟨by rfl, ?htt16⟩) s1 ?rtt16
        case htt16 => (intro w hw; obtain ⟨⟨⟨n0, n1, n2⟩, n3⟩, q0, q1⟩ := HS8.out _ hw; go_simp; try (with_reducible rfl))
        try simp only [Act.put, List.setIfInBounds_toArray, List.set_cons_zero, List.set_cons_succ]
        refine takeG (some 87) (i := 18) (v := ?vtt18) rfl rfl (by kernel_rfl) (by kernel_rfl) (by kernel_rfl) (fun _ _ _ h => h) (Or.inl ⟨by rfl, ?htt18⟩) s1 ?rtt18
        case htt18 => (intro w hw; obtain ⟨⟨⟨n0, n1, n2⟩, n3⟩, q0, q1⟩ := HS8.out _ hw; go_simp; try (with_reducible rfl))
        try simp only [Act.put, List.setIfInBounds_toArray, List.set_cons_zero, List.set_cons_succ]
        refine takeG (some 88) (i := 19) (v := ?vtt19) rfl rfl (by kernel_rfl) (by kernel_rfl) (by kernel_rfl) (fun _ _ _ h => h) (Or.inl ⟨by rfl, ?htt19⟩) s1 ?rtt19
        case htt19 => (intro w hw; obtain ⟨⟨⟨n0, n1, n2⟩, n3⟩, q0, q1⟩ := HS8.out _ hw; go_simp; try (with_reducible rfl))
        try simp only [Act.put, List.setIfInBounds_toArray, List.set_cons_zero, List.set_cons_succ]
        refine takeG (some 89) (i := 20) (v := ?vtt20) rfl rfl (by kernel_rfl) (by kernel_rfl) (by kernel_rfl) (fun _ _ _ h => h) (Or.inl ⟨by rfl, ?htt20⟩) s1 ?rtt20
        case htt20 => (intro w hw; obtain ⟨⟨⟨n0, n1, n2⟩, n3⟩, q0, q1⟩ := HS8.out _ hw; go_simp; try (with_reducible rfl))
        try simp only [Act.put, List.setIfInBounds_toArray, List.set_cons_zero, List.set_cons_succ]
        refine takeG (some 90) (i := 21) (v := ?vtt21) rfl rfl (by kernel_rfl) (by kernel_rfl) (by kernel_rfl) (fun _ _ _ h => h) (Or.inl ⟨by rfl, ?htt21⟩) s1 ?rtt21
        case htt21 => (intro w hw; obtain ⟨⟨⟨n0, n1, n2⟩, n3⟩, q0, q1⟩ := HS8.out _ hw; go_simp; try (with_reducible rfl))
        try simp only [Act.put, List.setIfInBounds_toArray, List.set_cons_zero, List.set_cons_succ]
        refine takeG (some 91) (i := 22) (v := ?vtt22) rfl rfl (by kernel_rfl) (by kernel_rfl) (by kernel_rfl) (fun _ _ _ h => h) (Or.inl ⟨by rfl, ?htt22⟩) s1 ?rtt22
        case htt22 => (intro w hw; obtain ⟨⟨⟨n0, n1, n2⟩, n3⟩, q0, q1⟩ := HS8.out _ hw; go_simp; try (with_reducible rfl))
        try simp only [Act.put, List.setIfInBounds_toArray, List.set_cons_zero, List.set_cons_succ]
        refine wpAnyH_ready (rs := [17]) (by kernel_rfl) (by simp) ?_
        refine AllReadyH.cons rfl (fun K hK => ?_) AllReadyH.nil
        go_simp
        refine (C2.out _ s1).mono ?_
        rintro e y2 ⟨rfl, j2⟩
        show K _ _
        have s2 := below_then s1 j2
        refine hK.out _ _ s2 (fun _ => ?_)
        clear hK K
        refine wpAnyH_ready (rs := [23]) (by kernel_rfl) (by simp) ?_
        refine AllReadyH.cons rfl (fun K hK => ?_) AllReadyH.nil
        go_simp
        refine (C3.out _ s2).mono ?_
        rintro e y3 ⟨rfl, j3⟩
        show K _ _
        have s3 := below_then s2 j3
        refine hK.out _ _ s3 (fun _ => ?_)
        clear hK K
        refine takeG (some 93) (i := 24) (v := ?vtt24) rfl rfl (by kernel_rfl) (by kernel_rfl) (by kernel_rfl) (fun _ _ _ h => h) (Or.inl ⟨by rfl, ?htt24⟩) s3 ?rtt24
        case htt24 => (intro w hw; obtain ⟨⟨⟨n0, n1, n2⟩, n3⟩, q0, q1⟩ := HS8.out _ hw; go_simp; try (with_reducible rfl))
        try simp only [Act.put, List.setIfInBounds_toArray, List.set_cons_zero, List.set_cons_succ]
        refine takeG (some 94) (i := 25) (v := ?vtt25) rfl rfl (by kernel_rfl) (by kernel_rfl) (by kernel_rfl) (fun _ _ _ h => h) (Or.inl ⟨by rfl, ?htt25⟩) s3 ?rtt25
        case htt25 => (intro w hw; obtain ⟨⟨⟨n0, n1, n2⟩, n3⟩, q0, q1⟩ := HS8.out _ hw; go_simp; try (with_reducible rfl))
        try simp only [Act.put, List.setIfInBounds_toArray, List.set_cons_zero, List.set_cons_succ]
        refine wpAnyH_done (by kernel_rfl) ?_ _
        clear kd j1 j2 j3 s1 s2 hlb C1 C2 C3
        obtain ⟨⟨⟨n0, n1, n2⟩, n3⟩, q0, q1⟩ := HS8.out _ s3
        go_wp2_with fail
        clear n0 n1 n2 n3 q0 q1
        go_loopw [98] (fun iv wr => ∃ i : Nat, i ≤ h.length ∧ iv = .int .i64 i ∧ Below w8.heap.size w8 wr) (fun iv _ => h.length - (intOf iv).toNat)
        case atStart => exact ⟨0, by omega, rfl, s3⟩
        case round =>
          clear s3
          obtain ⟨i, hi, rfl, hb⟩ := hrel
          by_cases hlt : i < h.length
          · have hii : (i : Int) < (h.length : Int) := by omega
            have hi64 : i < 64 := by have := HN6.out; omega
            obtain ⟨g, o, u, hao, c1, hI⟩ := (HOL.out _ hb).at (show i < (seesL V h.length).length by rw [seesL_len]; exact hlt)
            cases hao
            have hgl : (seesL V h.length)[i]'(by rw [seesL_len]; exact hlt) = (lst (seeTo V (i : Int) 64)).map Int.ofNat := by
              have := seesL_get V hlt
              rwa [List.getD_eq_getElem?_getD, List.getElem?_eq_getElem (by rw [seesL_len]; exact hlt), Option.getD_some] at this
            rw [hgl] at hI
            have HTI := Lib.hid (HTH.out i hi64)
            obtain ⟨sl, hsl⟩ : ∃ sl, sl = (lst (seeTo V (i : Int) 64)).map Int.ofNat := ⟨_, rfl⟩
            have HUP := Lib.hid (fun (k : Nat) (hk : k + 1 < sl.length) => tells_up V (i : Int) hsl hk)
            rw [← hsl] at hI HTI
            clear hgl hsl
            obtain ⟨qo, qcap, rfl, hql⟩ := hI.form
            have HQ := Lib.hid (fun wx (hx : Below wr.heap.size wr wx) => hI.below hx)
            clear hI
            go_wp2_with fail
            go_loopw [105] (fun kv wx => ∃ k : Nat, k ≤ sl.length ∧ kv = .int .i64 k ∧ Below w8.heap.size w8 wx ∧ Ints wx (.slice qo sl.length qcap) sl) (fun kv _ => sl.length - (intOf kv).toNat)
            case atStart => exact ⟨0, by omega, rfl, hb, HQ.out _ (Below.refl _ _)⟩
            case round =>
              clear hb HQ c1
              obtain ⟨k, hk, rfl, hb, hI⟩ := hrel
              by_cases hlk : k < sl.length
              · have hkk : (k : Int) < (sl.length : Int) := by omega
                obtain ⟨g2, o2, hao2, e1⟩ := hI.at hlk
                cases hao2
                have D1 := Lib.hid (CPH.out sl[k] (i : Int) _ (HF8.out _ hb))
                rw [HTI.out _ (List.getElem_mem hlk)] at D1
                have HI := Lib.hid hI
                by_cases hk0 : k = 0
                · have hkp : ¬ (0 : Int) < (k : Int) := by omega
                  generalize sl[k] = a at *
                  clear hI hk0
                  go_wp2_with fail
                  refine (D1.out).mono ?_
                  rintro e w9 ⟨rfl, rfl⟩
                  go_wp2_with fail
                  go_roundw
                  case rel => exact ⟨k + 1, by omega, by go_num, hb, HI.out⟩
                  case measure => simp [intOf]; omega
                · obtain ⟨k', hk'⟩ : ∃ k', k = k' + 1 := ⟨k - 1, by omega⟩
                  obtain ⟨g3, o3, hao3, e0⟩ := hI.at (show k' < sl.length by omega)
                  cases hao3
                  have hup : sl[k'] < sl[k] := by subst hk'; exact HUP.out k' hlk
                  have hkp : (0 : Int) < (k : Int) := by omega
                  have hkm : (k : Int) - 1 = (k' : Int) := by omega
                  have hkc : (k' : Int) < (sl.length : Int) := by omega
                  generalize sl[k] = a at *
                  generalize sl[k'] = a0 at *
                  have hna : ¬ a ≤ a0 := by omega
                  clear hI hup hk'
                  go_wp2_with fail
                  refine (D1.out).mono ?_
                  rintro e w9 ⟨rfl, rfl⟩
                  go_wp2_with fail
                  go_roundw
                  case rel => exact ⟨k + 1, by omega, by go_num, hb, HI.out⟩
                  case measure => simp [intOf]; omega
              · have hkn : ¬ (k : Int) < (sl.length : Int) := by omega
                clear hI
                go_wp2_with fail
                go_roundw
                case rel => exact ⟨i + 1, by omega, by go_num, hb⟩
                case measure => simp [intOf]; omega
          · have hin : ¬ (i : Int) < (h.length : Int) := by omega
            go_wp2_with fail
            go_ret
            exact ⟨rfl, HF.out _ (HF8.out _ hb)⟩
      | false =>
        refine wp_region_held_drew (S := Below w8.heap.size w8) (by kernel_rfl) kd (fun hS0 => ?_)
        refine takeG (some 69) (i := 0) (v := ?vtf0) rfl rfl (by kernel_rfl) (by kernel_rfl) (by kernel_rfl) (fun _ _ _ h => h) (Or.inl ⟨by rfl, ?htf0⟩) hS0 ?rtf0
        case htf0 => (intro w hw; obtain ⟨⟨⟨n0, n1, n2⟩, n3⟩, q0, q1⟩ := HS8.out _ hw; go_simp; try (with_reducible rfl))
        try simp only [Act.put, List.setIfInBounds_toArray, List.set_cons_zero, List.set_cons_succ]
        refine takeG (some 70) (i := 1) (v := ?vtf1) rfl rfl (by kernel_rfl) (by kernel_rfl) (by kernel_rfl) (fun _ _ _ h => h) (Or.inl ⟨by rfl, ?htf1⟩) hS0 ?rtf1
        case htf1 => (intro w hw; obtain ⟨⟨⟨n0, n1, n2⟩, n3⟩, q0, q1⟩ := HS8.out _ hw; go_simp; try (with_reducible rfl))
        try simp only [Act.put, List.setIfInBounds_toArray, List.set_cons_zero, List.set_cons_succ]
        refine takeG (some 71) (i := 2) (v := ?vtf2) rfl rfl (by kernel_rfl) (by kernel_rfl) (by kernel_rfl) (fun _ _ _ h => h) (Or.inl ⟨by rfl, ?htf2⟩) hS0 ?rtf2
        case htf2 => (intro w hw; obtain ⟨⟨⟨n0, n1, n2⟩, n3⟩, q0, q1⟩ := HS8.out _ hw; go_simp; try (with_reducible rfl))
        try simp only [Act.put, List.setIfInBounds_toArray, List.set_cons_zero, List.set_cons_succ]
        refine wpAnyH_ready (rs := [3]) (by kernel_rfl) (by simp) ?_
        refine AllReadyH.cons rfl (fun K hK => ?_) AllReadyH.nil
        go_simp
        refine (C1.out _ hS0).mono ?_
        rintro e y1 ⟨rfl, j1⟩
        show K _ _
        have s1 := below_then hS0 j1
        refine hK.out _ _ s1 (fun _ => ?_)
        clear hK K
        refine takeG (some 73) (i := 4) (v := ?vtf4) rfl rfl (by kernel_rfl) (by kernel_rfl) (by kernel_rfl) (fun _ _ _ h => h) (Or.inl ⟨by rfl, ?htf4⟩) s1 ?rtf4
        case htf4 => (intro w hw; obtain ⟨⟨⟨n0, n1, n2⟩, n3⟩, q0, q1⟩ := HS8.out _ hw; go_simp; try (with_reducible rfl))
        try simp only [Act.put, List.setIfInBounds_toArray, List.set_cons_zero, List.set_cons_succ]
        refine takeG (some 74) (i := 5) (v := ?vtf5) rfl rfl (by kernel_rfl) (by kernel_rfl) (by kernel_rfl) (fun _ _ _ h => h) (Or.inl ⟨by rfl, ?htf5⟩) s1 ?rtf5
        case htf5 => (intro w hw; obtain ⟨⟨⟨n0, n1, n2⟩, n3⟩, q0, q1⟩ := HS8.out _ hw; go_simp; try (with_reducible rfl))
        try simp only [Act.put, List.setIfInBounds_toArray, List.set_cons_zero, List.set_cons_succ]
        refine takeG (some 75) (i := 6) (v := ?vtf6) rfl rfl (by kernel_rfl) (by kernel_rfl) (by kernel_rfl) (fun _ _ _ h => h) (Or.inl ⟨by rfl, ?htf6⟩) s1 ?rtf6
        case htf6 => (intro w hw; obtain ⟨⟨⟨n0, n1, n2⟩, n3⟩, q0, q1⟩ := HS8.out _ hw; go_simp; try (with_reducible rfl))
        try simp only [Act.put, List.setIfInBounds_toArray, List.set_cons_zero, List.set_cons_succ]
        refine takeG (some 76) (i := 7) (v := ?vtf7) rfl rfl (by kernel_rfl) (by kernel_rfl) (by kernel_rfl) (fun _ _ _ h => h) (Or.inl ⟨by rfl, ?htf7⟩) s1 ?rtf7
        case htf7 => (intro w hw; obtain ⟨⟨⟨n0, n1, n2⟩, n3⟩, q0, q1⟩ := HS8.out _ hw; go_simp; try (with_reducible rfl))
        try simp only [Act.put, List.setIfInBounds_toArray, List.set_cons_zero, List.set_cons_succ]
        refine takeG (some 77) (i := 8) (v := ?vtf8) rfl rfl (by kernel_rfl) (by kernel_rfl) (by kernel_rfl) (fun _ _ _ h => h) (Or.inl ⟨by rfl, ?htf8⟩) s1 ?rtf8
        case htf8 => (intro w hw; obtain ⟨⟨⟨n0, n1, n2⟩, n3⟩, q0, q1⟩ := HS8.out _ hw; go_simp; try (with_reducible rfl))
        try simp only [Act.put, List.setIfInBounds_toArray, List.set_cons_zero, List.set_cons_succ]
        refine takeG (some 78) (i := 9) (v := ?vtf9) rfl rfl (by kernel_rfl) (by kernel_rfl) (by kernel_rfl) (fun _ _ _ h => h) (Or.inl ⟨by rfl, ?htf9⟩) s1 ?rtf9
        case htf9 => (intro w hw; obtain ⟨⟨⟨n0, n1, n2⟩, n3⟩, q0, q1⟩ := HS8.out _ hw; go_simp; try (with_reducible rfl))
        try simp only [Act.put, List.setIfInBounds_toArray, List.set_cons_zero, List.set_cons_succ]
        refine takeG (some 79) (i := 10) (v := ?vtf10) rfl rfl (by kernel_rfl) (by kernel_rfl) (by kernel_rfl) (fun _ _ _ h => h) (Or.inl ⟨by rfl, ?htf10⟩) s1 ?rtf10
        case htf10 => (intro w hw; obtain ⟨⟨⟨n0, n1, n2⟩, n3⟩, q0, q1⟩ := HS8.out _ hw; go_simp; try (with_reducible rfl))
        try simp only [Act.put, List.setIfInBounds_toArray, List.set_cons_zero, List.set_cons_succ]
        refine takeG (some 80) (i := 11) (v := ?vtf11) rfl rfl (by kernel_rfl) (by kernel_rfl) (by kernel_rfl) (fun _ _ _ h => h) (Or.inl ⟨by rfl, ?htf11⟩) s1 ?rtf11
        case htf11 => (intro w hw; obtain ⟨⟨⟨n0, n1, n2⟩, n3⟩, q0, q1⟩ := HS8.out _ hw; go_simp; try (with_reducible rfl))
        try simp only [Act.put, List.setIfInBounds_toArray, List.set_cons_zero, List.set_cons_succ]
        refine takeG (some 81) (i := 12) (v := ?vtf12) rfl rfl (by kernel_rfl) (by kernel_rfl) (by kernel_rfl) (fun _ _ _ h => h) (Or.inl ⟨by rfl, ?htf12⟩) s1 ?rtf12
        case htf12 => (intro w hw; obtain ⟨⟨⟨n0, n1, n2⟩, n3⟩, q0, q1⟩ := HS8.out _ hw; go_simp; try (with_reducible rfl))
        try simp only [Act.put, List.setIfInBounds_toArray, List.set_cons_zero, List.set_cons_succ]
        refine takeG (some 82) (i := 13) (v := ?vtf13) rfl rfl (by kernel_rfl) (by kernel_rfl) (by kernel_rfl) (fun _ _ _ h => h) (Or.inl ⟨by rfl, ?htf13⟩) s1 ?rtf13
        case htf13 => (intro w hw; obtain ⟨⟨⟨n0, n1, n2⟩, n3⟩, q0, q1⟩ := HS8.out _ hw; go_simp; try (with_reducible rfl))
        try simp only [Act.put, List.setIfInBounds_toArray, List.set_cons_zero, List.set_cons_succ]
        refine takeG (some 83) (i := 14) (v := ?vtf14) rfl rfl (by kernel_rfl) (by kernel_rfl) (by kernel_rfl) (fun _ _ _ h => h) (Or.inl ⟨by rfl, ?htf14⟩) s1 ?rtf14
        case htf14 => (intro w hw; obtain ⟨⟨⟨n0, n1, n2⟩, n3⟩, q0, q1⟩ := HS8.out _ hw; go_simp; try (with_reducible rfl))
        try simp only [Act.put, List.setIfInBounds_toArray, List.set_cons_zero, List.set_cons_succ]
        refine takeG (some 84) (i := 15) (v := ?vtf15) rfl rfl (by kernel_rfl) (by kernel_rfl) (by kernel_rfl) (fun _ _ _ h => h) (Or.inl ⟨by rfl, ?htf15⟩) s1 ?rtf15
        case htf15 => (intro w hw; obtain ⟨⟨⟨n0, n1, n2⟩, n3⟩, q0, q1⟩ := HS8.out _ hw; go_simp; try (with_reducible rfl))
        try simp only [Act.put, List.setIfInBounds_toArray, List.set_cons_zero, List.set_cons_succ]
        refine takeG (some 85) (i := 16) (v := ?vtf16) rfl rfl (by kernel_rfl) (by kernel_rfl) (by kernel_rfl) (fun _ _ _ h => h) (Or.inl ⟨by rfl, ?htf16⟩) s1 ?rtf16
        case htf16 => (intro w hw; obtain ⟨⟨⟨n0, n1, n2⟩, n3⟩, q0, q1⟩ := HS8.out _ hw; go_simp; try (with_reducible rfl))
        try simp only [Act.put, List.setIfInBounds_toArray, List.set_cons_zero, List.set_cons_succ]
        refine takeG (some 87) (i := 18) (v := ?vtf18) rfl rfl (by kernel_rfl) (by kernel_rfl) (by kernel_rfl) (fun _ _ _ h => h) (Or.inl ⟨by rfl, ?htf18⟩) s1 ?rtf18
        case htf18 => (intro w hw; obtain ⟨⟨⟨n0, n1, n2⟩, n3⟩, q0, q1⟩ := HS8.out _ hw; go_simp; try (with_reducible rfl))
        try simp only [Act.put, List.setIfInBounds_toArray, List.set_cons_zero, List.set_cons_succ]
        refine takeG (some 88) (i := 19) (v := ?vtf19) rfl rfl (by kernel_rfl) (by kernel_rfl) (by kernel_rfl) (fun _ _ _ h => h) (Or.inl ⟨by rfl, ?htf19⟩) s1 ?rtf19
        case htf19 => (intro w hw; obtain ⟨⟨⟨n0, n1, n2⟩, n3⟩, q0, q1⟩ := HS8.out _ hw; go_simp; try (with_reducible rfl))
        try simp only [Act.put, List.setIfInBounds_toArray, List.set_cons_zero, List.set_cons_succ]
        refine takeG (some 89) (i := 20) (v := ?vtf20) rfl rfl (by kernel_rfl) (by kernel_rfl) (by kernel_rfl) (fun _ _ _ h => h) (Or.inl ⟨by rfl, ?htf20⟩) s1 ?rtf20
        case htf20 => (intro w hw; obtain ⟨⟨⟨n0, n1, n2⟩, n3⟩, q0, q1⟩ := HS8.out _ hw; go_simp; try (with_reducible rfl))
        try simp only [Act.put, List.setIfInBounds_toArray, List.set_cons_zero, List.set_cons_succ]
        refine takeG (some 90) (i := 21) (v := ?vtf21) rfl rfl (by kernel_rfl) (by kernel_rfl) (by kernel_rfl) (fun _ _ _ h => h) (Or.inl ⟨by rfl, ?htf21⟩) s1 ?rtf21
        case htf21 => (intro w hw; obtain ⟨⟨⟨n0, n1, n2⟩, n3⟩, q0, q1⟩ := HS8.out _ hw; go_simp; try (with_reducible rfl))
        try simp only [Act.put, List.setIfInBounds_toArray, List.set_cons_zero, List.set_cons_succ]
        refine takeG (some 91) (i := 22) (v := ?vtf22) rfl rfl (by kernel_rfl) (by kernel_rfl) (by kernel_rfl) (fun _ _ _ h => h) (Or.inl ⟨by rfl, ?htf22⟩) s1 ?rtf22
        case htf22 => (intro w hw; obtain ⟨⟨⟨n0, n1, n2⟩, n3⟩, q0, q1⟩ := HS8.out _ hw; go_simp; try (with_reducible rfl))
        try simp only [Act.put, List.setIfInBounds_toArray, List.set_cons_zero, List.set_cons_succ]
        refine wpAnyH_ready (rs := [17]) (by kernel_rfl) (by simp) ?_
        refine AllReadyH.cons rfl (fun K hK => ?_) AllReadyH.nil
        go_simp
        refine (C2.out _ s1).mono ?_
        rintro e y2 ⟨rfl, j2⟩
        show K _ _
        have s2 := below_then s1 j2
        refine hK.out _ _ s2 (fun _ => ?_)
        clear hK K
        refine wpAnyH_ready (rs := [23]) (by kernel_rfl) (by simp) ?_
        refine AllReadyH.cons rfl (fun K hK => ?_) AllReadyH.nil
        go_simp
        refine (C3.out _ s2).mono ?_
        rintro e y3 ⟨rfl, j3⟩
        show K _ _
        have s3 := below_then s2 j3
        refine hK.out _ _ s3 (fun _ => ?_)
        clear hK K
        refine takeG (some 93) (i := 24) (v := ?vtf24) rfl rfl (by kernel_rfl) (by kernel_rfl) (by kernel_rfl) (fun _ _ _ h => h) (Or.inl ⟨by rfl, ?htf24⟩) s3 ?rtf24
        case htf24 => (intro w hw; obtain ⟨⟨⟨n0, n1, n2⟩, n3⟩, q0, q1⟩ := HS8.out _ hw; go_simp; try (with_reducible rfl))
        try simp only [Act.put, List.setIfInBounds_toArray, List.set_cons_zero, List.set_cons_succ]
        refine takeG (some 94) (i := 25) (v := ?vtf25) rfl rfl (by kernel_rfl) (by kernel_rfl) (by kernel_rfl) (fun _ _ _ h => h) (Or.inl ⟨by rfl, ?htf25⟩) s3 ?rtf25
        case htf25 => (intro w hw; obtain ⟨⟨⟨n0, n1, n2⟩, n3⟩, q0, q1⟩ := HS8.out _ hw; go_simp; try (with_reducible rfl))
        try simp only [Act.put, List.setIfInBounds_toArray, List.set_cons_zero, List.set_cons_succ]
        refine wpAnyH_done (by kernel_rfl) ?_ _
        clear kd j1 j2 j3 s1 s2 hlb C1 C2 C3
        obtain ⟨⟨⟨n0, n1, n2⟩, n3⟩, q0, q1⟩ := HS8.out _ s3
        go_wp2_with fail
        clear n0 n1 n2 n3 q0 q1
        go_loopw [98] (fun iv wr => ∃ i : Nat, i ≤ h.length ∧ iv = .int .i64 i ∧ Below w8.heap.size w8 wr) (fun iv _ => h.length - (intOf iv).toNat)
        case atStart => exact ⟨0, by omega, rfl, s3⟩
        case round =>
          clear s3
          obtain ⟨i, hi, rfl, hb⟩ := hrel
          by_cases hlt : i < h.length
          · have hii : (i : Int) < (h.length : Int) := by omega
            have hi64 : i < 64 := by have := HN6.out; omega
            obtain ⟨g, o, u, hao, c1, hI⟩ := (HOL.out _ hb).at (show i < (seesL V h.length).length by rw [seesL_len]; exact hlt)
            cases hao
            have hgl : (seesL V h.length)[i]'(by rw [seesL_len]; exact hlt) = (lst (seeTo V (i : Int) 64)).map Int.ofNat := by
              have := seesL_get V hlt
              rwa [List.getD_eq_getElem?_getD, List.getElem?_eq_getElem (by rw [seesL_len]; exact hlt), Option.getD_some] at this
            rw [hgl] at hI
            have HTI := Lib.hid (HTH.out i hi64)
            obtain ⟨sl, hsl⟩ : ∃ sl, sl = (lst (seeTo V (i : Int) 64)).map Int.ofNat := ⟨_, rfl⟩
            have HUP := Lib.hid (fun (k : Nat) (hk : k + 1 < sl.length) => tells_up V (i : Int) hsl hk)
            rw [← hsl] at hI HTI
            clear hgl hsl
            obtain ⟨qo, qcap, rfl, hql⟩ := hI.form
            have HQ := Lib.hid (fun wx (hx : Below wr.heap.size wr wx) => hI.below hx)
            clear hI
            go_wp2_with fail
            go_loopw [105] (fun kv wx => ∃ k : Nat, k ≤ sl.length ∧ kv = .int .i64 k ∧ Below w8.heap.size w8 wx ∧ Ints wx (.slice qo sl.length qcap) sl) (fun kv _ => sl.length - (intOf kv).toNat)
            case atStart => exact ⟨0, by omega, rfl, hb, HQ.out _ (Below.refl _ _)⟩
            case round =>
              clear hb HQ c1
              obtain ⟨k, hk, rfl, hb, hI⟩ := hrel
              by_cases hlk : k < sl.length
              · have hkk : (k : Int) < (sl.length : Int) := by omega
                obtain ⟨g2, o2, hao2, e1⟩ := hI.at hlk
                cases hao2
                have D1 := Lib.hid (CPH.out sl[k] (i : Int) _ (HF8.out _ hb))
                rw [HTI.out _ (List.getElem_mem hlk)] at D1
                have HI := Lib.hid hI
                by_cases hk0 : k = 0
                · have hkp : ¬ (0 : Int) < (k : Int) := by omega
                  generalize sl[k] = a at *
                  clear hI hk0
                  go_wp2_with fail
                  refine (D1.out).mono ?_
                  rintro e w9 ⟨rfl, rfl⟩
                  go_wp2_with fail
                  go_roundw
                  case rel => exact ⟨k + 1, by omega, by go_num, hb, HI.out⟩
                  case measure => simp [intOf]; omega
                · obtain ⟨k', hk'⟩ : ∃ k', k = k' + 1 := ⟨k - 1, by omega⟩
                  obtain ⟨g3, o3, hao3, e0⟩ := hI.at (show k' < sl.length by omega)
                  cases hao3
                  have hup : sl[k'] < sl[k] := by subst hk'; exact HUP.out k' hlk
                  have hkp : (0 : Int) < (k : Int) := by omega
                  have hkm : (k : Int) - 1 = (k' : Int) := by omega
                  have hkc : (k' : Int) < (sl.length : Int) := by omega
                  generalize sl[k] = a at *
                  generalize sl[k'] = a0 at *
                  have hna : ¬ a ≤ a0 := by omega
                  clear hI hup hk'
                  go_wp2_with fail
                  refine (D1.out).mono ?_
                  rintro e w9 ⟨rfl, rfl⟩
                  go_wp2_with fail
                  go_roundw
                  case rel => exact ⟨k + 1, by omega, by go_num, hb, HI.out⟩
                  case measure => simp [intOf]; omega
              · have hkn : ¬ (k : Int) < (sl.length : Int) := by omega
                clear hI
                go_wp2_with fail
                go_roundw
                case rel => exact ⟨i + 1, by omega, by go_num, hb⟩
                case measure => simp [intOf]; omega
          · have hin : ¬ (i : Int) < (h.length : Int) := by omega
            go_wp2_with fail
            go_ret
            exact ⟨rfl, HF.out _ (HF8.out _ hb)⟩
end Go.Proofs.YtflalehpdngklaaGreatDoor
