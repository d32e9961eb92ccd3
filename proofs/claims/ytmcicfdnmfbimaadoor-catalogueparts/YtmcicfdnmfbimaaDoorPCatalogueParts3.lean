/- Walks and plain facts that the proof of the statement CatalogueParts uses, joined: BruJ BruP BruQ BruR BruU BruF BruG BruH BruI PlaP ArgZ ArgT ArgC LeaI LeaJ TopA BruK BruV BruZ BrcA BrcC BruW BruX AxhN BruY BrcB SeaL VecC CatA HisT HisU HisV HisW HisY OrdAG BruL BruN TblB TblC CatB CatC CatD CatE. Conditions: each theorem's own. -/
import Derived.Deep.Slices
import Derived.Deep.Strs
import Derived.Lib.SmallJoins
import Derived.Deep.Upon
import Derived.Deep.MidRow
import Derived.BigQuiet
import Derived.Sort.Row
import Derived.Test.YtmcicfdnmfbimaaDoorPCatalogueParts0
import Derived.Test.YtmcicfdnmfbimaaDoorPCatalogueParts1
import Derived.Test.YtmcicfdnmfbimaaDoorPCatalogueParts2
namespace Go.Proofs.YtmcicfdnmfbimaaDoor
set_option maxHeartbeats 32000000
set_option maxRecDepth 100000
open Lib (hid)
section
open Go.RowKit
theorem lv_lt {lv : Int} (h : isLv lv = true) : 0 ≤ lv ∧ lv < 12 := by unfold isLv at h; exact of_decide_eq_true h
theorem full_ref {n : Nat} {row : List Nat} (hp : row.Perm (List.range n)) (hn : n ≤ 64) : rowRef12 n (row.map Int.ofNat) = true := by
 rw [← row_same n hn]; exact row_perm hn hp
theorem kept_right {h : List TxnV} (hc : checkI h = 0) {lv : Int} {row : List Nat} {m : List Pr} (hp : row.Perm (List.range h.length)) (hlv : isLv lv = true) (hs : soundTo h h.length = true) (hL : LeaL h (askN lv) (row.map Int.ofNat) h.length m) :
  rightR h (row.map Int.ofNat) m = keptL h lv row ∧ ∀ R, LeastIs h (askN lv) (row.map Int.ofNat) R → Rep R m := by
 have hx := askN_lt lv
 have hR : ∀ R, LeastIs h (askN lv) (row.map Int.ofNat) R → Rep R m := fun R hR => lea_rep hc (full_of_perm hp) hx (by omega) (fun _ _ => rfl) hL hR
 refine ⟨?_, hR⟩
 obtain ⟨R, hRl⟩ := least_some h (askN lv) (row.map Int.ofNat)
 rw [← kept_holds hc lv hp hRl, ← right_same hc (hR R hRl)]
 unfold holdsB
 rw [hlv, hs, least_kept hx hRl]
 simp
theorem rin13_any (va vr : Value) (h : List TxnV) (lv : Int) (row : List Nat) (w : World) (hc : checkI h = 0) (hp : row.Perm (List.range h.length)) (hT : Txns w va h) (hl : Ints w vr (row.map Int.ofNat)) :
  Calls Tryd.prog 51 #[va, .int .i64 lv, vr] w fun e w' => (∃ v, e = .returned (.tuple #[v, .bool (keptL h lv row)]) ∧ (keptL h lv row = true → ∃ m, Prs w' v m ∧ ∀ R, LeastIs h (askN lv) (row.map Int.ofNat) R → Rep R m)) ∧ Below w.heap.size w w' := by
 have h64 := (check_zero hc).1
 obtain ⟨ro, rcap, rfl, hrl⟩ := hl.form
 rw [List.length_map] at hl ⊢
 have CR := hid (rrow12_any h.length (.slice ro row.length rcap) (row.map Int.ofNat) w (by omega) hl)
 rw [full_ref hp h64] at CR
 have CS := hid (rsound_any va h hc w hT)
 have CA := hid (fun wx => rl_asks lv wx)
 have CO := hid (fun wx (hx : Below w.heap.size w wx) => rof11_any va (.slice ro row.length rcap) h (askN lv) (askN_lt lv) (row.map Int.ofNat) wx h64 (hT.below hx) (hl.below hx))
 have CG := hid (fun vm m wx (hx : Below w.heap.size w wx) (hm : Prs wx vm m) => rright12_any va (.slice ro row.length rcap) vm h (row.map Int.ofNat) m wx h64 (hT.below hx) (hl.below hx) hm)
 have HK := hid (fun m hlv hs hL => kept_right (lv := lv) (m := m) hc hp hlv hs hL)
 have HF : Hid (isLv lv = false → keptL h lv row = false) := hid (fun h => by unfold keptL; rw [h]; rfl)
 have HS : Hid (soundTo h h.length = false → keptL h lv row = false) := hid (fun h => by unfold keptL; rw [h, Bool.false_and, Bool.and_false])
 obtain ⟨ao, cap, rfl, hal⟩ := hT.form
 cases hlv : isLv lv with
 | false =>
  have HV := hid (HF.out hlv)
  have hr : lv < 0 ∨ (¬ lv < 0 ∧ 11 < lv) := by unfold isLv at hlv; rw [decide_eq_false_iff_not] at hlv; omega
  clear CR CS CA CO CG HK HF HS hlv hT hl
  rw [HV.out]
  rcases hr with hr | ⟨hr, hr2⟩
  all_goals
   go_enter Tryd.func51, Tryd.ntmps51
   go_wp2_with fail
   go_ret2
   first | exact ⟨⟨_, rfl, fun h => (by cases h)⟩, Below.refl _ _⟩ | exact ⟨⟨_, rfl⟩, Below.refl _ _⟩
 | true =>
  obtain ⟨h0, h1⟩ := lv_lt hlv
  cases hs : soundTo h h.length with
  | false =>
   have HV := hid (HS.out hs)
   rw [hs] at CS
   clear CA CO CG HK HF HS hlv hT hl hs
   rw [HV.out]
   go_enter Tryd.func51, Tryd.ntmps51
   go_wp2_with fail
   refine CR.out.mono ?_
   rintro e wq ⟨rfl, rfl⟩
   go_wp2_with fail
   refine CS.out.mono ?_
   rintro e w1 ⟨rfl, hb1⟩
   go_wp2_with fail
   go_ret2
   exact ⟨⟨_, rfl, fun h => (by cases h)⟩, hb1⟩
  | true =>
   have HK := hid (fun m => HK.out m hlv hs)
   rw [hs] at CS
   clear HF HS hlv hT hl hs
   generalize keptL h lv row = z at *
   go_enter Tryd.func51, Tryd.ntmps51
   go_wp2_with fail
   refine CR.out.mono ?_
   rintro e wq ⟨rfl, rfl⟩
   go_wp2_with fail
   refine CS.out.mono ?_
   rintro e w1 ⟨rfl, hb1⟩
   have CO1 := hid (CO.out _ hb1)
   go_wp2_with fail
   refine (CA.out _).mono ?_
   rintro e wq ⟨rfl, rfl⟩
   go_wp2_with fail
   refine CO1.out.mono ?_
   rintro e w2 ⟨v, m, rfl, hm, hL, hb2⟩
   have hb2 := below_then hb1 hb2
   have HM := hid (HK.out m hL)
   have CG2 := hid (CG.out v m w2 hb2 hm)
   rw [HM.out.1] at CG2
   have HP := hid hm
   clear hm hL CO CO1 CG
   go_wp2_with fail
   refine CG2.out.mono ?_
   rintro e w3 ⟨rfl, hb3⟩
   have HP3 := hid (HP.out.below hb3)
   go_wp2_with fail
   go_ret2
   exact ⟨⟨_, rfl, fun _ => ⟨m, HP3.out, HM.out.2⟩⟩, below_then hb2 hb3⟩
end

section
open Go.RowKit
theorem rall_any (n : Nat) (hn : n ≤ 1000) (w : World) :
  Calls Tryd.prog 36 #[.int .i64 (n : Int)] w fun e w' => (∃ v, e = .returned v ∧ Ints w' v ((List.range n).map Int.ofNat)) ∧ Below w.heap.size w w' := by
 obtain ⟨i0, hi, hz0, hz1, hz2⟩ := info_parts infoInt
 have hlit : (w.alloc (.cells #[] 3)).ownsRow w.heap.size 3 1 (.slice (some ⟨w.heap.size, 0, none⟩) 0 0) 0 ((List.range 0).map fun i : Nat => Value.int .i64 (i : Int)) := World.ownsRow_lit (size := 1) _ _ _ (Nat.le_refl _) (by simp) (by simp)
 have hb0 := box_below w (.cells #[] 3)
 go_enter Tryd.func36, Tryd.ntmps36
 go_wp2_with fail
 generalize w.alloc (.cells #[] 3) = w0 at *
 go_loopw [3, 4] (fun v i wr => ∃ k : Nat, k ≤ n ∧ i = .int .i64 k ∧ wr.ownsRow w.heap.size 3 1 v k ((List.range k).map fun i : Nat => Value.int .i64 (i : Int)) ∧ Below w.heap.size w wr) (fun _ i _ => n - (intOf i).toNat)
 case atStart => exact ⟨0, by omega, rfl, hlit, hb0⟩
 case round =>
  clear hlit hb0
  obtain ⟨k, hk, rfl, hown, hb⟩ := hrel
  by_cases hlt : k < n
  ·have hki : (k : Int) < (n : Int) := by omega
   have HR : Hid ((List.range (k + 1)).map (fun i : Nat => Value.int .i64 (i : Int)) = (List.range k).map (fun i : Nat => Value.int .i64 (i : Int)) ++ [.int .i64 (k : Int)]) := hid (by rw [List.range_succ, List.map_append]; rfl)
   generalize (List.range k).map (fun i : Nat => Value.int .i64 (i : Int)) = xs at *
   go_wp2_with (at_builtin; refine wpList_append_own _ rfl _ _ 27 rfl w.heap.size 3 i0 (.int .i64 0) 1 8 Tryd.underlying27 hi hz0 hz1 hz2 rfl (by decide) _ _ _ rfl (hown.alloc _) ⟨_, 0, none⟩ 1 1 [.int .i64 (k : Int)] rfl rfl ?c1 ?c2 ?c3 ?c4 ?c5 ?_)
   try case c1 => exact cell_one_new _ _ _
   case c2 => first | rfl | (intro u hu; simp at hu; subst hu; rfl)
   case c3 => unfold maxLen; omega
   case c4 => omega
   case c5 => have := hb.size; simp; omega
   intro v6 w6 hown6 hg6 _
   have hsz := hb.size
   have hb6 : Below w.heap.size w w6 := hb.trans (below_app (Below.refl _ _) hsz hown hg6)
   clear hown hg6 hb
   go_wp2_with fail
   go_roundw
   case rel => exact ⟨k + 1, by omega, by go_num, by rw [HR.out]; exact hown6, hb6⟩
   case measure => simp [intOf]; omega
  ·have hkn : k = n := by omega
   subst hkn
   have hI : Ints wr u3 ((List.range k).map Int.ofNat) := Ints.of_nats hown
   clear hown hlt
   go_wp2_with fail
   go_ret
   exact ⟨⟨_, rfl, hI⟩, hb⟩
theorem rwithout_any (vl : Value) (L : List Nat) (j : Nat) (w : World) (hI : Ints w vl (L.map Int.ofNat)) (hjl : j < L.length) (hn : L.length ≤ 1000) :
  Calls Tryd.prog 52 #[vl, .int .i64 (j : Int)] w fun e w' => (∃ v, e = .returned v ∧ Ints w' v ((L.take j ++ L.drop (j + 1)).map Int.ofNat)) ∧ Below w.heap.size w w' := by
 obtain ⟨i0, hi, hz0, hz1, hz2⟩ := info_parts infoInt
 obtain ⟨lo, lcap, rfl, ⟨hlc, hlm⟩, hno⟩ := hI.full
 rw [List.length_map] at hlc hno
 rw [List.length_map] at hI ⊢
 obtain ⟨g, o, hgo, hcj⟩ := ints_at hI hjl
 cases hgo
 have hji : (j : Int) < (L.length : Int) := by omega
 have hW : Below w.heap.size w (w.drew.alloc (.cells #[] 3)) := (⟨rfl, rfl, rfl, Nat.le_refl _, fun _ _ => rfl⟩ : Below w.heap.size w w.drew).alloc (Nat.le_refl _) _
 have HOW := hid (World.ownsRow_made (base := w.heap.size) (e := 3) (size := 1) w.drew #[] 0 (Nat.le_refl _) (by decide) rfl)
 obtain ⟨A, hA, HC2⟩ : ∃ A : Addr, (if lcap = j + 1 then some (⟨g, o, none⟩ : Addr) else some ⟨g, o + (j + 1), none⟩) = some A ∧ Hid (∀ w7, Below w.heap.size w w7 → ∀ i u, ((L.drop (j + 1)).map fun i : Nat => Value.int .i64 (i : Int))[i]? = some u → w7.cell? (A.add i) = some u) := by
  by_cases h : lcap = j + 1
  ·refine ⟨⟨g, o, none⟩, by simp [h], fun w7 hb7 i u hu => ?_⟩
   rw [List.drop_eq_nil_of_le (by omega)] at hu
   simp at hu
  ·exact ⟨⟨g, o + (j + 1), none⟩, by simp [h], fun w7 hb7 => (hI.below hb7).news (j + 1)⟩
 have HC1 : Hid (∀ i u, ((L.take j).map fun i : Nat => Value.int .i64 (i : Int))[i]? = some u → (w.drew.alloc (.cells #[] 3)).cell? ((⟨g, o, none⟩ : Addr).add i) = some u) := hid (fun i u hu => by
  have hi : i < j := by
   have := (List.getElem?_eq_some_iff.1 hu).1
   simp at this; omega
  refine (hI.below hW).news 0 i u ?_
  rw [List.drop_zero, ← hu, List.map_take, List.getElem?_take, if_pos hi])
 have s1 : Hid (((L.take j).map fun i : Nat => Value.int .i64 (i : Int)).length = j * 1) := hid (by simp; omega)
 have s2 : Hid (∀ u ∈ ((L.take j).map fun i : Nat => Value.int .i64 (i : Int)), u.oneCell' = true) := hid (fun u hu => by
  obtain ⟨x, _, rfl⟩ := List.mem_map.1 hu
  rfl)
 have t1 : Hid (((L.drop (j + 1)).map fun i : Nat => Value.int .i64 (i : Int)).length = (L.length - (j + 1)) * 1) := hid (by simp)
 have t2 : Hid (∀ u ∈ ((L.drop (j + 1)).map fun i : Nat => Value.int .i64 (i : Int)), u.oneCell' = true) := hid (fun u hu => by
  obtain ⟨x, _, rfl⟩ := List.mem_map.1 hu
  rfl)
 have HS5 : Hid (w.heap.size ≤ (w.drew.alloc (.cells #[] 3)).heap.size) := hid hW.size
 have HB7 : Hid (∀ w7, (w.drew.alloc (.cells #[] 3)).grownBy w7 (some w.heap.size) → Below w.heap.size w w7) := hid (fun w7 hg => hW.grown hg hW.size (fun k hk => by cases hk; exact Nat.le_refl _))
 have hjc : j ≤ lcap := by omega
 have hwr : IntKind.i64.wrap ((j : Int) + 1) = (j : Int) + 1 := by rw [IntKind.wrap_i64]; omega
 have hp0 : (0 : Int) ≤ (j : Int) + 1 := by omega
 have hp1 : (j : Int) + 1 ≤ (L.length : Int) := by omega
 have hp2 : ((j : Int) + 1).toNat = j + 1 := by omega
 clear hI hW hcj hno
 go_enter Tryd.func52, Tryd.ntmps52
 go_wp2_with fail
 go_region_law (first
  | (refine step_append_own _ rfl (.tmp 9) (.tmp 13) 27 rfl w.heap.size 3 i0 (.int .i64 0) 1 8 Tryd.underlying27 hi hz0 hz1 hz2 rfl (by decide) v7 (0 + j) _ (by simp [Act.eval]) hown7 A (L.length - (j + 1)) (lcap - (j + 1)) _ (by simp [Act.eval]) t1.out (HC2.out _ (HB7.out _ hg7)) t2.out (by unfold maxLen; omega) (by omega) (Nat.le_trans HS5.out hg7.size) ?_; intro v8 w8 hown8 hg8)
  | (refine step_append_own _ rfl (.tmp 5) (.tmp 8) 27 rfl w.heap.size 3 i0 (.int .i64 0) 1 8 Tryd.underlying27 hi hz0 hz1 hz2 rfl (by decide) _ 0 [] (by simp [Act.eval]) HOW.out ⟨g, o, none⟩ j lcap _ (by simp [Act.eval]) s1.out HC1.out s2.out (by unfold maxLen; omega) (by omega) HS5.out ?_; intro v7 w7 hown7 hg7))
 all_goals have hb8 : Below w.heap.size w w8 := (HB7.out _ hg7).trans ((Below.refl _ _).grown hg8 (Nat.le_trans HS5.out hg7.size) (fun k hk => (hown7.lt k hk).1))
 all_goals have hI8 : Ints w8 v8 ((L.take j ++ L.drop (j + 1)).map Int.ofNat) := Ints.of_nats (base := w.heap.size) (e := 3) (n := 0 + j + (L.length - (j + 1))) (by rw [List.map_append]; exact hown8)
 all_goals clear HB7 HC1 HC2 HOW hown7 hg7 hown8 hg8
 all_goals go_simp
 all_goals go_wp2
 all_goals go_ret
 all_goals exact ⟨⟨_, rfl, hI8⟩, hb8⟩
end

section
open Go.RowKit
theorem step_append_run {P : Program} (w : World) {ops : Array Oper} {o : Oper} {a : Act} {K : Act → World → Prop} {Q : Exit → Act → World → Prop} {E : Prop} (hgd : o.guard = none) (s x : Operand) (t : TypeId)
  (ho : o.op = .call { callee := .builtin .append, args := #[s, x], argTypes := #[t, t] }) {vs vx v' : Value} {w' : World} (hs : a.eval s = vs) (hx : a.eval x = vx)
  (hrun : Sem.run P (Builtin.append_ #[t, t] o.type #[vs, vx]) w = .ok v' w') (h : K (a.put o.dst v') w') :
  if Region.wanted o (yielded ops a.tmps) = true then Oper.wp P o a w K Q else E := by
 have hw : Region.wanted o (yielded ops a.tmps) = true := by simp [Region.wanted, hgd]
 rw [if_pos hw]
 unfold Oper.wp execOp
 simp only [ho, resolve, invoke, builtin, Sem.run_bind, Sem.run_pure, Result.andThen_ok, List.map_toArray, List.map_cons, List.map_nil, hs, hx, hrun]
 exact h
theorem run_copy {w : World} {base : Nat} (ty : TypeId) {g : Nat} (hown : w.ownsRow base 3 1 (.slice (some ⟨g, 0, none⟩) 0 0) 0 []) {ao : Option Addr} {c : Nat} {r : List Nat} (hr : Ints w (.slice ao r.length c) (r.map Int.ofNat)) (hl : r.length ≤ 1000) (hbase : base ≤ w.heap.size) :
  ∃ a1 c1 w1, Sem.run Tryd.prog (Builtin.append_ #[27, 27] ty #[.slice (some ⟨g, 0, none⟩) 0 0, .slice ao r.length c]) w = .ok (.slice a1 r.length c1) w1
   ∧ w1.ownsRow base 3 1 (.slice a1 r.length c1) r.length (r.map fun i : Nat => .int .i64 (i : Int)) ∧ w.grownBy w1 (some g) := by
 obtain ⟨i0, hi0, hz0, hz1, hz2⟩ := info_parts infoIntC
 cases ao with
 | none =>
  obtain ⟨_, ao', cap', e, hm, hno, _⟩ := hr
  rw [List.length_map] at hno hm
  obtain ⟨e1, e2⟩ : none = ao' ∧ c = cap' := by simpa using e
  subst e1; subst e2
  obtain ⟨h0, hc0⟩ := hno rfl
  have hr0 : r = [] := List.eq_nil_of_length_eq_zero h0
  subst hr0
  subst hc0
  exact ⟨_, _, w, run_append_nothing (P := Tryd.prog) w 27 27 ty 3 i0 rfl hi0 _ 0 0 (Nat.le_refl _) _ (Src.ofNil w rfl 0), hown, ⟨rfl, rfl, rfl, Nat.le_refl _, fun _ _ _ => rfl⟩⟩
 | some ad =>
  have hnews : ∀ i u, (r.map fun i : Nat => Value.int .i64 (i : Int))[i]? = some u → w.cell? (ad.add i) = some u := fun i u hu => by
   have hi : i < r.length := by
    have := (List.getElem?_eq_some_iff.1 hu).1
    simpa using this
   obtain ⟨_, ao', cap', e, _, _, hc⟩ := hr
   rw [List.length_map] at e hc
   obtain ⟨b, off, e2, hcell⟩ := hc (by omega)
   obtain ⟨e3, _⟩ : some ad = ao' ∧ c = cap' := by simpa using e
   rw [e2] at e3
   obtain rfl : ad = ⟨b, off, none⟩ := by injection e3
   rw [Addr.add_lit, hcell i (by omega), ← hu, List.map_map]; rfl
  have hone : ∀ u ∈ (r.map fun i : Nat => Value.int .i64 (i : Int)), u.oneCell' = true := fun u hu => by
   obtain ⟨x, _, rfl⟩ := List.mem_map.1 hu
   rfl
  obtain ⟨v1, w1, q1, q2, q3, _⟩ := run_append_own (P := Tryd.prog) w base 27 ty 3 i0 (.int .i64 0) 1 8 Tryd.underlying27 hi0 hz0 hz1 hz2 rfl (by decide) (.slice (some ⟨g, 0, none⟩) 0 0) 0 [] hown ad r.length c _ (by simp) hnews hone (by unfold maxLen; omega) (by omega) hbase
  rw [Nat.zero_add, List.nil_append] at q2
  obtain ⟨a1, c1, rfl⟩ := owns_form q2
  exact ⟨a1, c1, w1, q1, q2, q3⟩
theorem run_more {w : World} {base : Nat} (ty : TypeId) {v : Value} {r : List Nat} (hown : w.ownsRow base 3 1 v r.length (r.map fun i : Nat => .int .i64 (i : Int))) {ad : Addr} {x : Nat} (hx : Ints w (.slice (some ad) 1 1) [(x : Int)]) (hl : r.length ≤ 1000) (hbase : base ≤ w.heap.size) :
  ∃ a2 c2 w2, Sem.run Tryd.prog (Builtin.append_ #[27, 27] ty #[v, .slice (some ad) 1 1]) w = .ok (.slice a2 (r.length + 1) c2) w2
   ∧ Ints w2 (.slice a2 (r.length + 1) c2) ((r ++ [x]).map Int.ofNat) ∧ w.grownBy w2 v.ownBlock := by
 obtain ⟨i0, hi0, hz0, hz1, hz2⟩ := info_parts infoIntC
 obtain ⟨v2, w2, p1, p2, p3, _⟩ := run_append_own (P := Tryd.prog) w base 27 ty 3 i0 (.int .i64 0) 1 8 Tryd.underlying27 hi0 hz0 hz1 hz2 rfl (by decide) v r.length _ hown ad 1 1 [.int .i64 (x : Int)] rfl (by
   intro j u hu
   cases j with
   | zero =>
    simp at hu; subst hu
    obtain ⟨_, ao', cap', e, _, _, hc⟩ := hx
    obtain ⟨b, off, e2, hcell⟩ := hc (by simp)
    obtain ⟨e3, _⟩ : some ad = ao' ∧ 1 = cap' := by simpa using e
    rw [e2] at e3
    obtain rfl : ad = ⟨b, off, none⟩ := by injection e3
    rw [Addr.add_lit]
    exact hcell 0 (by simp)
   | succ j => simp at hu) (by intro u hu; simp at hu; subst hu; rfl) (by unfold maxLen; omega) (by omega) hbase
 obtain ⟨a2, c2, rfl⟩ := owns_form p2
 exact ⟨a2, c2, w2, p1, Ints.of_nats (base := base) (e := 3) (n := r.length + 1) (by rw [List.map_append]; exact p2), p3⟩
theorem ints_one (w : World) (x : Nat) : Ints (w.alloc (.cells #[.int .i64 (x : Int)] 3)) (.slice (some ⟨w.heap.size, 0, none⟩) 1 1) [(x : Int)] :=
 Ints.of_nats (l := [x]) (base := 0) (e := 3) (n := 1) (World.ownsRow_lit (size := 1) _ _ _ (Nat.zero_le _) (by decide) (by rfl))
end

section
open Go.RowKit
theorem filter_without {L : List Nat} (hnd : L.Nodup) {i : Nat} (hi : i < L.length) : L.filter (· != L[i]) = L.take i ++ L.drop (i + 1) := by
 have e : L = L.take i ++ L[i] :: L.drop (i + 1) := by rw [← List.drop_eq_getElem_cons hi, List.take_append_drop]
 have key : ∀ (A : List Nat) (x : Nat) (B : List Nat), (A ++ x :: B).Nodup → (A ++ x :: B).filter (· != x) = A ++ B := fun A x B h => by
  obtain ⟨_, h2, h3⟩ := List.nodup_append.1 h
  obtain ⟨h4, _⟩ := List.nodup_cons.1 h2
  rw [List.filter_append, List.filter_cons, if_neg (by simp), List.filter_eq_self.2 (fun a ha => by simpa using h3 a ha x (List.mem_cons_self ..)), List.filter_eq_self.2 (fun a ha => by
   rw [bne_iff_ne]; rintro rfl; exact h4 ha)]
 have := key (L.take i) L[i] (L.drop (i + 1)) (by rw [← e]; exact hnd)
 rw [← e] at this; exact this
def cnlTo (p : List Nat → Bool) (k : Nat) (r left : List Nat) (j : Nat) : Nat := ((left.take j).map fun x => cntL p k (r ++ [x]) (left.filter (· != x))).sum
theorem cnlTo_succ {p : List Nat → Bool} {k : Nat} {r left : List Nat} {j : Nat} (hj : j < left.length) (hnd : left.Nodup) : cnlTo p k r left (j + 1) = cnlTo p k r left j + cntL p k (r ++ [left[j]]) (left.take j ++ left.drop (j + 1)) := by
 unfold cnlTo
 rw [List.take_succ_eq_append_getElem hj, List.map_append, List.sum_append, ← filter_without hnd hj]; simp
theorem cnlTo_all (p : List Nat → Bool) (k : Nat) (r left : List Nat) : cnlTo p k r left left.length = cntL p (k + 1) r left := by unfold cnlTo; rw [List.take_length]; rfl
end

section
theorem zA {α : Type _} (l : List α) (i : Nat) (a : α) : l.toArray.setIfInBounds i a = (l.set i a).toArray := List.setIfInBounds_toArray ..
theorem zB {α : Type _} {x : α} {xs : List α} {a : α} : (x :: xs).set 0 a = a :: xs := List.set_cons_zero
theorem zC {α : Type _} {x : α} {xs : List α} {i : Nat} {a : α} : (x :: xs).set (i + 1) a = x :: xs.set i a := List.set_cons_succ
end
section
theorem tG {P : Program} {ops : Array Oper} {Q : Exit → Act → World → Prop} {md : Region.Mode} {S : World → Prop} (d : Option Tmp) (i : Nat) {oi : Oper} (v : Value) {fuel : Nat} {listed : Array Bool} {a : Act} {w : World} (hi : ops[i]? = some oi) (hd : oi.dst = d)
 (hy : YieldsIf P ops S oi v a) (hS : S w) (h : wpAnyH P md ops Q S fuel (listed.setIfInBounds i true) (a.put d v) w)
 (hs : Region.noSelect ops = true := by kernel_rfl) (hf : Region.free md ops listed i = true := by kernel_rfl) (hr : (Region.ready md ops listed).contains i = true := by kernel_rfl)
 (hQ : ∀ c a w, Q (.panic c) (a.put oi.dst v) w → Q (.panic c) a w := by exact fun _ _ _ h => h) : wpAnyH P md ops Q S (fuel + 1) listed a w := takeG d hi hd hs hf hr hQ hy hS h
theorem tA {P : Program} {ops : Array Oper} {Q : Exit → Act → World → Prop} {md : Region.Mode} {S : World → Prop} (d : Option Tmp) (i : Nat) {oi : Oper} {v : Value} {fuel : Nat} {listed : Array Bool} {a : Act} {w : World} (hi : ops[i]? = some oi) (hd : oi.dst = d)
 (hS : S w) (h : wpAnyH P md ops Q S fuel (listed.setIfInBounds i true) (a.put d v) w)
 (hy : YieldsIf P ops S oi v a := by exact Or.inl ⟨by rfl, by intro w _; go_simp; try (with_reducible rfl)⟩)
 (hs : Region.noSelect ops = true := by kernel_rfl) (hf : Region.free md ops listed i = true := by kernel_rfl) (hr : (Region.ready md ops listed).contains i = true := by kernel_rfl)
 (hQ : ∀ c a w, Q (.panic c) (a.put oi.dst v) w → Q (.panic c) a w := by exact fun _ _ _ h => h) : wpAnyH P md ops Q S (fuel + 1) listed a w := takeG d hi hd hs hf hr hQ hy hS h
theorem rD {P : Program} {ops : Array Oper} {Q : Exit → Act → World → Prop} {md : Region.Mode} {S : World → Prop} {fuel : Nat} {listed : Array Bool} {a : Act} {w : World} (i : Nat) {o : Oper} (ho : ops[i]? = some o)
 (h : ∀ K' : Act → World → Prop, Go.Shut (∀ a w, S w → (S w → wpAnyH P md ops Q S fuel (listed.setIfInBounds i true) a w) → K' a w) → if Region.wanted o (yielded ops a.tmps) = true then Oper.wp P o a w K' Q else K' (a.put o.dst undef) w)
 (hr : Region.ready md ops listed = [i] := by kernel_rfl) : wpAnyH P md ops Q S (fuel + 1) listed a w := wpAnyH_ready hr (by simp) (AllReadyH.cons ho h AllReadyH.nil)
end
section
open Go.RowKit
theorem cnt_one {p : List Nat → Bool} {k : Nat} {r left : List Nat} {j : Nat} : cnlTo p k r left j ≤ cntL p (k + 1) r left := by
 rw [← cnlTo_all]
 unfold cnlTo
 have key : ∀ (l : List Nat) (i : Nat), ((l.take i).map fun x => cntL p k (r ++ [x]) (left.filter (· != x))).sum ≤ (l.map fun x => cntL p k (r ++ [x]) (left.filter (· != x))).sum := by
  intro l i
  conv => rhs; rw [← List.take_append_drop i l, List.map_append, List.sum_append]
  exact Nat.le_add_right _ _
 have := key left j
 rw [List.take_length]; exact this
def one1 (n : Nat) : Nat := if 0 < n then 1 else 0
theorem one_zero {n : Nat} (h : 0 = one1 n) : n = 0 := by unfold one1 at h; split at h <;> omega
theorem one_pos {n : Nat} (h : 1 = one1 n) : 0 < n := by unfold one1 at h; split at h <;> omega
theorem one_le (n : Nat) : one1 n ≤ 1 := by unfold one1; split <;> omega
theorem one_big {n m : Nat} (h : 1 = one1 n) (hl : n ≤ m) : 1 = one1 m := by have := one_pos h; unfold one1; rw [if_pos (by omega)]
set_option linter.unusedSimpArgs false in
theorem rcount1_any (va : Value) (h : List TxnV) (lv : Int) (hc : checkI h = 0) (hn : h.length ≤ 6) :
  ∀ (k : Nat) (vr vl : Value) (r left : List Nat) (w : World), left.length = k → (r ++ left).Perm (List.range h.length) → Txns w va h → Ints w vr (r.map Int.ofNat) → Ints w vl (left.map Int.ofNat) →
   Calls Tryd.prog 35 #[va, .int .i64 lv, vr, vl, .bool true] w fun e w' => e = .returned (.int .i64 ((one1 (cntL (keptL h lv) k r left) : Nat) : Int)) ∧ Below w.heap.size w w'
 | 0, vr, vl, r, left, w, hk, hp, hT, hR, hL => by
  obtain rfl : left = [] := List.eq_nil_of_length_eq_zero hk
  rw [List.append_nil] at hp
  have CI := hid (rin13_any va vr h lv r w hc hp hT hR)
  have HV : Hid ((if keptL h lv r then 1 else 0) = one1 (cntL (keptL h lv) 0 r [])) := hid (by unfold cntL; split <;> rfl)
  obtain ⟨ho, hcap, rfl, _⟩ := hT.form
  obtain ⟨ao, cap, rfl, _⟩ := hR.form
  obtain ⟨lo, lcap, rfl, _⟩ := hL.form
  simp only [List.length_map] at CI
  rw [List.length_map, List.map_nil, List.length_nil]
  generalize one1 (cntL (keptL h lv) 0 r []) = cn at *
  clear hT hR hL hp hk
  cases hkk : keptL h lv r with
  | true =>
   rw [hkk] at CI HV
   have HV2 : Hid ((1 : Int) = (cn : Int)) := hid (by have := HV.out; simp at this; omega)
   clear HV hkk
   go_enter Tryd.func35, Tryd.ntmps35
   go_wp2_with fail
   refine (CI.out).mono ?_
   rintro e w1 ⟨⟨v1, rfl, _⟩, h1⟩
   go_wp2_with fail
   go_ret
   exact ⟨ret_i HV2.out, h1⟩
  | false =>
   rw [hkk] at CI HV
   have HV2 : Hid ((0 : Int) = (cn : Int)) := hid (by have := HV.out; simp at this; omega)
   clear HV hkk
   go_enter Tryd.func35, Tryd.ntmps35
   go_wp2_with fail
   refine (CI.out).mono ?_
   rintro e w1 ⟨⟨v1, rfl, _⟩, h1⟩
   go_wp2_with fail
   go_ret
   exact ⟨ret_i HV2.out, h1⟩
 | k + 1, vr, vl, r, left, w, hk, hp, hT, hR, hL => by
  have IH := hid (fun vr vl r left w a b c d e => rcount1_any va h lv hc hn k vr vl r left w a b c d e)
  have hll : r.length + left.length = h.length := by have := hp.length_eq; simpa using this
  have hndA : (r ++ left).Nodup := (List.Perm.nodup_iff hp).2 List.nodup_range
  have HND : Hid left.Nodup := hid (List.nodup_append.1 hndA).2.1
  have HP := hid hp
  have HKK := hid hk
  have HT := hid (fun wx (hx : Below w.heap.size w wx) => hT.below hx)
  have HR := hid (fun wx (hx : Below w.heap.size w wx) => hR.below hx)
  have HL := hid (fun wx (hx : Below w.heap.size w wx) => hL.below hx)
  obtain ⟨ho, hcap, rfl, _⟩ := hT.form
  obtain ⟨ao, cap, rfl, _⟩ := hR.form
  obtain ⟨lo, lcap, rfl, _⟩ := hL.form
  simp only [List.length_map] at HR HL
  rw [List.length_map, List.length_map]
  have hl5 : left.length ≤ 6 := by omega
  have HLE : Hid (r.length ≤ 1000) := hid (by omega)
  have hq0 : ((left.length : Int) == 0) = false := by rw [beq_eq_false_iff_ne]; omega
  have hb0 := hid (Below.refl w.heap.size w)
  clear hk hp hT hR hL hndA hll
  go_enter Tryd.func35, Tryd.ntmps35
  go_wp2_with fail
  go_loopw [13, 14] (fun nv iv wr => ∃ i m : Nat, i ≤ left.length ∧ m ≤ 1 ∧ iv = .int .i64 (i : Int) ∧ nv = .int .i64 (m : Int) ∧ Hid (m = one1 (cnlTo (keptL h lv) k r left i)) ∧ Hid (Below w.heap.size w wr)) (fun _ iv _ => left.length - (intOf iv).toNat)
  case atStart => exact ⟨0, 0, by omega, by omega, rfl, rfl, hid rfl, hb0⟩
  case round =>
   clear hb0
   obtain ⟨i, m, hi, hm, rfl, rfl, HM, HB⟩ := hrel
   obtain rfl | rfl : m = 0 ∨ m = 1 := by omega
   rotate_left
   ·have HV : Hid ((1 : Int) = ((one1 (cntL (keptL h lv) (k + 1) r left) : Nat) : Int)) := hid (by rw [← one_big HM.out cnt_one]; rfl)
    by_cases hlt : i < left.length
    ·have hlti : (i : Int) < (left.length : Int) := by omega
     go_wp2_with fail
     go_ret
     exact ⟨ret_i HV.out, HB.out⟩
    ·have hlti : ¬ (i : Int) < (left.length : Int) := by omega
     go_wp2_with fail
     go_ret
     exact ⟨ret_i HV.out, HB.out⟩
   by_cases hlt : i < left.length
   ·have hlti : (i : Int) < (left.length : Int) := by omega
    obtain ⟨g, o, hgo, _⟩ := ints_at (HL.out _ HB.out) hlt
    cases hgo
    have HCl := hid (fun wx (hx : Below wr.heap.size wr wx) => by
     obtain ⟨g2, o2, e2, c2⟩ := ints_at (HL.out _ (below_then HB.out hx)) hlt
     cases e2
     exact c2)
    have HRr := hid (fun wx (hx : Below wr.heap.size wr wx) => HR.out _ (below_then HB.out hx))
    have CW := hid (fun wx (hx : Below wr.heap.size wr wx) => rwithout_any _ left i wx (HL.out _ (below_then HB.out hx)) hlt (by omega))
    have IHC := hid (fun v2 vl2 wx (hx : Below wr.heap.size wr wx) (h1 : Ints wx v2 ((r ++ [left[i]'hlt]).map Int.ofNat)) (h2 : Ints wx vl2 ((left.take i ++ left.drop (i + 1)).map Int.ofNat)) => IH.out v2 vl2 (r ++ [left[i]]) (left.take i ++ left.drop (i + 1)) wx (by have := HKK.out; simp; omega) ((perm_take r left i hlt).trans HP.out) (HT.out _ (below_then HB.out hx)) h1 h2)
    have HMS := hid (cnlTo_succ (p := keptL h lv) (k := k) (r := r) hlt HND.out)
    rw [one_zero HM.out, Nat.zero_add] at HMS
    have HMS := hid (congrArg one1 HMS.out)
    generalize left[i] = x at *
    have hms := one_le (cntL (keptL h lv) k (r ++ [x]) (left.take i ++ left.drop (i + 1)))
    generalize one1 (cntL (keptL h lv) k (r ++ [x]) (left.take i ++ left.drop (i + 1))) = cn at *
    have hwr2 : IntKind.i64.wrap (cn : Int) = (cn : Int) := by rw [IntKind.wrap_i64]; omega
    have hwr : IntKind.i64.wrap ((0 : Int) + (cn : Int)) = (cn : Int) := by rw [IntKind.wrap_i64]; omega
    have kd := (Below.refl wr.heap.size wr).drew
    have HB2 := hid (fun wx (hx : Below wr.heap.size wr wx) => below_then HB.out hx)
    clear HM HB
    go_upto_region 10 with fail
    refine wp_region_held_drew (S := Below wr.heap.size wr) (by kernel_rfl) kd (fun hS0 => ?_)
    generalize wr.drew = wd at *
    refine tA (some 40) 0 rfl rfl hS0 ?_
    try simp only [Act.put, zA, zB, zC]
    refine tA (some 41) 1 rfl rfl hS0 ?_
    try simp only [Act.put, zA, zB, zC]
    refine tA (some 42) 2 rfl rfl hS0 ?_
    try simp only [Act.put, zA, zB, zC]
    refine tA (some 44) 4 rfl rfl hS0 ?_
    try simp only [Act.put, zA, zB, zC]
    refine tA (some 46) 6 rfl rfl hS0 ?_
    try simp only [Act.put, zA, zB, zC]
    refine tA (some 47) 7 rfl rfl hS0 ?_
    try simp only [Act.put, zA, zB, zC]
    refine tA (some 48) 8 rfl rfl hS0 ?_
    try simp only [Act.put, zA, zB, zC]
    refine tG (some 49) 9 ?vca9x8 rfl rfl (Or.inl ⟨by rfl, ?hca9x8⟩) hS0 ?rca9x8
    case hca9x8 => (intro wx hw; have q9 := HCl.out wx hw; go_simp; try (with_reducible rfl))
    try simp only [Act.put, zA, zB, zC]
    refine tA (some 52) 12 rfl rfl hS0 ?_
    try simp only [Act.put, zA, zB, zC]
    refine tA (some 53) 13 rfl rfl hS0 ?_
    try simp only [Act.put, zA, zB, zC]
    refine tA (some 55) 15 rfl rfl hS0 ?_
    try simp only [Act.put, zA, zB, zC]
    refine wpAnyH_ready (rs := [3, 10]) (by kernel_rfl) (by simp) ?_
    refine AllReadyH.cons rfl (fun K hK => ?_) (AllReadyH.cons rfl (fun K hK => ?_) AllReadyH.nil)
    ·
     go_simp
     have k12 := below_then kd (box_below wd (.cells #[] 3))
     have o12 : (wd.alloc (.cells #[] 3)).ownsRow wr.heap.size 3 1 (.slice (some ⟨wd.heap.size, 0, none⟩) 0 0) 0 [] := World.ownsRow_lit (size := 1) _ _ _ kd.size (by simp) (by simp)
     refine hK.out _ _ k12 (fun _ => ?_)
     clear hK K
     refine wpAnyH_ready (rs := [5, 10]) (by kernel_rfl) (by simp) ?_
     refine AllReadyH.cons rfl (fun K hK => ?_) (AllReadyH.cons rfl (fun K hK => ?_) AllReadyH.nil)
     ·
      obtain ⟨a13, d13, w13, q13, o13, g13⟩ := run_copy 27 o12 (HRr.out _ k12) HLE.out k12.size
      have HQ13 := hid q13
      have k13 := k12.grown g13 k12.size (fun j hj => by cases hj; exact kd.size)
      refine step_append_run _ rfl (.tmp 43) (.tmp 44) 27 rfl (by simp [Act.eval]) (by simp [Act.eval]) HQ13.out ?_
      refine hK.out _ _ k13 (fun _ => ?_)
      clear hK K q13 HQ13
      try simp only [Act.put, zA, zB, zC]
      refine rD 10 rfl (fun K hK => ?_)
      go_simp
      have k14 := below_then k13 (box_below w13 (.cells #[.int .i64 (x : Int)] 3))
      have c14 := ints_one w13 x
      have o14 := o13.alloc (.cells #[.int .i64 (x : Int)] 3)
      refine hK.out _ _ k14 (fun _ => ?_)
      clear hK K
      refine rD 11 rfl (fun K hK => ?_)
      obtain ⟨a15, d15, w15, q15, i15, g15⟩ := run_more 27 o14 c14 HLE.out k14.size
      have HQ15 := hid q15
      have k15 := k14.grown g15 k14.size (fun j hj => (o14.lt j hj).1)
      refine step_append_run _ rfl (.tmp 45) (.tmp 50) 27 rfl (by simp [Act.eval]) (by simp [Act.eval]) HQ15.out ?_
      refine hK.out _ _ k15 (fun _ => ?_)
      clear hK K q15 HQ15 g15
      try simp only [Act.put, zA, zB, zC]
      refine rD 14 rfl (fun K hK => ?_)
      go_simp
      refine (CW.out _ k15).mono ?_
      rintro e y16 ⟨⟨v16, rfl, m16⟩, j16⟩
      show K _ _
      have s16 := below_then k15 j16
      have i16 := i15.below j16
      refine hK.out _ _ s16 (fun _ => ?_)
      clear hK K
      refine rD 16 rfl (fun K hK => ?_)
      go_simp
      refine (IHC.out _ _ _ s16 i16 m16).mono ?_
      rintro e y17 ⟨rfl, j17⟩
      show K _ _
      have s17 := below_then s16 j17
      refine hK.out _ _ s17 (fun _ => ?_)
      clear hK K
      refine tA (some 57) 17 rfl rfl s17 ?_
      try simp only [Act.put, zA, zB, zC]
      refine tA (some 13) 18 rfl rfl s17 ?_
      try simp only [Act.put, zA, zB, zC]
      refine wpAnyH_done (by kernel_rfl) ?_ _
      have HB3 := hid (HB2.out _ s17)
      go_wp2_with fail
      go_roundw
      case rel => exact ⟨i + 1, cn, by omega, by omega, by go_num, by first | rfl | rw [hwr] | rw [hwr2] | go_num, hid HMS.out.symm, HB3⟩
      case measure => simp only [intOf]; omega
     ·
      go_simp
      have k20 := below_then k12 (box_below (wd.alloc (.cells #[] 3)) (.cells #[.int .i64 (x : Int)] 3))
      have c20 := ints_one (wd.alloc (.cells #[] 3)) x
      have o20 := o12.alloc (.cells #[.int .i64 (x : Int)] 3)
      refine hK.out _ _ k20 (fun _ => ?_)
      clear hK K
      refine rD 5 rfl (fun K hK => ?_)
      obtain ⟨a21, d21, w21, q21, o21, g21⟩ := run_copy 27 o20 (HRr.out _ k20) HLE.out k20.size
      have HQ21 := hid q21
      have k21 := k20.grown g21 k20.size (fun j hj => by cases hj; exact kd.size)
      have c21 := c20.grown g21 (fun b hb => by cases hb; simp [Value.ownBlock])
      refine step_append_run _ rfl (.tmp 43) (.tmp 44) 27 rfl (by simp [Act.eval]) (by simp [Act.eval]) HQ21.out ?_
      refine hK.out _ _ k21 (fun _ => ?_)
      clear hK K q21 HQ21
      try simp only [Act.put, zA, zB, zC]
      refine rD 11 rfl (fun K hK => ?_)
      obtain ⟨a22, d22, w22, q22, i22, g22⟩ := run_more 27 o21 c21 HLE.out k21.size
      have HQ22 := hid q22
      have k22 := k21.grown g22 k21.size (fun j hj => (o21.lt j hj).1)
      refine step_append_run _ rfl (.tmp 45) (.tmp 50) 27 rfl (by simp [Act.eval]) (by simp [Act.eval]) HQ22.out ?_
      refine hK.out _ _ k22 (fun _ => ?_)
      clear hK K q22 HQ22 g22
      try simp only [Act.put, zA, zB, zC]
      refine rD 14 rfl (fun K hK => ?_)
      go_simp
      refine (CW.out _ k22).mono ?_
      rintro e y23 ⟨⟨v23, rfl, m23⟩, j23⟩
      show K _ _
      have s23 := below_then k22 j23
      have i23 := i22.below j23
      refine hK.out _ _ s23 (fun _ => ?_)
      clear hK K
      refine rD 16 rfl (fun K hK => ?_)
      go_simp
      refine (IHC.out _ _ _ s23 i23 m23).mono ?_
      rintro e y24 ⟨rfl, j24⟩
      show K _ _
      have s24 := below_then s23 j24
      refine hK.out _ _ s24 (fun _ => ?_)
      clear hK K
      refine tA (some 57) 17 rfl rfl s24 ?_
      try simp only [Act.put, zA, zB, zC]
      refine tA (some 13) 18 rfl rfl s24 ?_
      try simp only [Act.put, zA, zB, zC]
      refine wpAnyH_done (by kernel_rfl) ?_ _
      have HB3 := hid (HB2.out _ s24)
      go_wp2_with fail
      go_roundw
      case rel => exact ⟨i + 1, cn, by omega, by omega, by go_num, by first | rfl | rw [hwr] | rw [hwr2] | go_num, hid HMS.out.symm, HB3⟩
      case measure => simp only [intOf]; omega
    ·
     go_simp
     have k27 := below_then kd (box_below wd (.cells #[.int .i64 (x : Int)] 3))
     have c27 := ints_one wd x
     refine hK.out _ _ k27 (fun _ => ?_)
     clear hK K
     refine rD 3 rfl (fun K hK => ?_)
     go_simp
     have k28 := below_then k27 (box_below (wd.alloc (.cells #[.int .i64 (x : Int)] 3)) (.cells #[] 3))
     have o28 : ((wd.alloc (.cells #[.int .i64 (x : Int)] 3)).alloc (.cells #[] 3)).ownsRow wr.heap.size 3 1 (.slice (some ⟨(wd.alloc (.cells #[.int .i64 (x : Int)] 3)).heap.size, 0, none⟩) 0 0) 0 [] := World.ownsRow_lit (size := 1) _ _ _ k27.size (by simp) (by simp)
     have c28 := c27.below (box_below (wd.alloc (.cells #[.int .i64 (x : Int)] 3)) (.cells #[] 3))
     refine hK.out _ _ k28 (fun _ => ?_)
     clear hK K
     refine rD 5 rfl (fun K hK => ?_)
     obtain ⟨a29, d29, w29, q29, o29, g29⟩ := run_copy 27 o28 (HRr.out _ k28) HLE.out k28.size
     have HQ29 := hid q29
     have k29 := k28.grown g29 k28.size (fun j hj => by cases hj; exact k27.size)
     have c29 := c28.grown g29 (fun b hb => by cases hb; simp [Value.ownBlock])
     refine step_append_run _ rfl (.tmp 43) (.tmp 44) 27 rfl (by simp [Act.eval]) (by simp [Act.eval]) HQ29.out ?_
     refine hK.out _ _ k29 (fun _ => ?_)
     clear hK K q29 HQ29
     try simp only [Act.put, zA, zB, zC]
     refine rD 11 rfl (fun K hK => ?_)
     obtain ⟨a30, d30, w30, q30, i30, g30⟩ := run_more 27 o29 c29 HLE.out k29.size
     have HQ30 := hid q30
     have k30 := k29.grown g30 k29.size (fun j hj => (o29.lt j hj).1)
     refine step_append_run _ rfl (.tmp 45) (.tmp 50) 27 rfl (by simp [Act.eval]) (by simp [Act.eval]) HQ30.out ?_
     refine hK.out _ _ k30 (fun _ => ?_)
     clear hK K q30 HQ30 g30
     try simp only [Act.put, zA, zB, zC]
     refine rD 14 rfl (fun K hK => ?_)
     go_simp
     refine (CW.out _ k30).mono ?_
     rintro e y31 ⟨⟨v31, rfl, m31⟩, j31⟩
     show K _ _
     have s31 := below_then k30 j31
     have i31 := i30.below j31
     refine hK.out _ _ s31 (fun _ => ?_)
     clear hK K
     refine rD 16 rfl (fun K hK => ?_)
     go_simp
     refine (IHC.out _ _ _ s31 i31 m31).mono ?_
     rintro e y32 ⟨rfl, j32⟩
     show K _ _
     have s32 := below_then s31 j32
     refine hK.out _ _ s32 (fun _ => ?_)
     clear hK K
     refine tA (some 57) 17 rfl rfl s32 ?_
     try simp only [Act.put, zA, zB, zC]
     refine tA (some 13) 18 rfl rfl s32 ?_
     try simp only [Act.put, zA, zB, zC]
     refine wpAnyH_done (by kernel_rfl) ?_ _
     have HB3 := hid (HB2.out _ s32)
     go_wp2_with fail
     go_roundw
     case rel => exact ⟨i + 1, cn, by omega, by omega, by go_num, by first | rfl | rw [hwr] | rw [hwr2] | go_num, hid HMS.out.symm, HB3⟩
     case measure => simp only [intOf]; omega
   ·obtain rfl : i = left.length := by omega
    have HV : Hid ((0 : Int) = ((one1 (cntL (keptL h lv) (k + 1) r left) : Nat) : Int)) := hid (by rw [← cnlTo_all, ← HM.out]; rfl)
    go_wp2_with fail
    go_ret
    exact ⟨ret_i HV.out, HB.out⟩
end

section
open Go.RowKit
theorem count_first {n : Nat} {p : List Nat → Bool} : (0 < (ordersN n).countP p) ↔ ((ordersN n).find? p).isSome = true := by
 rw [List.countP_pos_iff, List.find?_isSome]
end

section
open Go.RowKit
theorem rest_nil (n : Nat) : restN n [] = List.range n := by unfold restN; simp
end

section
open Go.RowKit
theorem decW_some {h : List TxnV} {lv : Int} (hc : checkI h = 0) : (decW h lv).2.2 = ((ordersN h.length).find? (keptL h lv)).isSome := by
 rw [decW_yes, ← dec_first hc, Option.isSome_map]
theorem raccepts_any (va : Value) (h : List TxnV) (lv : Int) (w : World) (hc : checkI h = 0) (hn : h.length ≤ 6) (hT : Txns w va h) :
  Calls Tryd.prog 19 #[va, .int .i64 lv] w fun e w' => e = .returned (.bool (decW h lv).2.2) ∧ Below w.heap.size w w' := by
 have CA := hid (rall_any h.length (by omega) w)
 have CC := hid (fun vl wx (hx : Below w.heap.size w wx) hl => rcount1_any va h lv hc hn h.length (.slice none 0 0) vl [] (List.range h.length) wx List.length_range (by rw [List.nil_append]) (hT.below hx) (ints_nil wx) hl)
 have HE : Hid (cntL (keptL h lv) h.length [] (List.range h.length) = (ordersN h.length).countP (keptL h lv)) := hid (by rw [← rest_nil, cntL_exts]; rfl)
 rw [HE.out] at CC
 have HV : Hid ((decW h lv).2.2 = decide (0 < (ordersN h.length).countP (keptL h lv))) := hid (by
  rw [decW_some hc, Bool.eq_iff_iff, decide_eq_true_eq]; exact count_first.symm)
 rw [HV.out]
 have HO : Hid (∀ n, (0 < n → one1 n = 1) ∧ (¬ 0 < n → one1 n = 0)) := hid (fun n => by unfold one1; exact ⟨fun q => if_pos q, fun q => if_neg q⟩)
 obtain ⟨ao, cap, rfl, hal⟩ := hT.form
 clear hT hc HE HV
 generalize (ordersN h.length).countP (keptL h lv) = n at *
 by_cases hp : 0 < n
 ·rw [(HO.out n).1 hp] at CC
  rw [decide_eq_true hp]
  clear HO hp
  go_enter Tryd.func19, Tryd.ntmps19
  go_wp2_with fail
  refine (CA.out).mono ?_
  rintro e w1 ⟨⟨v, rfl, hI⟩, h1⟩
  have C2 := hid (CC.out v w1 h1 hI)
  go_wp2_with fail
  refine (C2.out).mono ?_
  rintro e w2 ⟨rfl, h2⟩
  have h2 := below_then h1 h2
  go_wp2_with fail
  go_ret
  exact ⟨rfl, h2⟩
 ·rw [(HO.out n).2 hp] at CC
  rw [decide_eq_false hp]
  clear HO hp
  go_enter Tryd.func19, Tryd.ntmps19
  go_wp2_with fail
  refine (CA.out).mono ?_
  rintro e w1 ⟨⟨v, rfl, hI⟩, h1⟩
  have C2 := hid (CC.out v w1 h1 hI)
  go_wp2_with fail
  refine (C2.out).mono ?_
  rintro e w2 ⟨rfl, h2⟩
  have h2 := below_then h1 h2
  go_wp2_with fail
  go_ret
  exact ⟨rfl, h2⟩
end

section
open Go.RowKit
theorem least_ex (h : List TxnV) (x : Nat) (L : List Int) : ∃ X : Mat, LeastIs h x L X := by
 classical
 exact ⟨fun i j => decide (Must (startM h (x : Int) (chainR L)) (chainR L) (trB x) (pfB x) i j), fun i j _ _ => by rw [decide_eq_true_eq]⟩
section
variable {h : List TxnV}
theorem kept_implied (hc : checkI h = 0) {a b : Int} (hi : impB a b = true) {L : List Nat} (hp : L.Perm (List.range h.length)) (hk : keptL h a L = true) : keptL h b L = true := by
 obtain ⟨X, hX⟩ := least_ex h (askN a) (L.map Int.ofNat)
 obtain ⟨Y, hY⟩ := least_ex h (askN b) (L.map Int.ofNat)
 rw [← kept_holds hc a hp hX] at hk
 have hnd : (L.map Int.ofNat).Nodup := nodup_ofNat (hp.nodup_iff.2 List.nodup_range)
 have h2 := least_holds (check_zero hc).1 (implied_holds hc hnd hk hi) hY
 rwa [kept_holds hc b hp hY] at h2
theorem dec_implied (hc : checkI h = 0) {a b : Int} (hi : impB a b = true) (hk : (decW h a).2.2 = true) : (decW h b).2.2 = true := by
 rw [decW_some hc] at hk ⊢
 rw [List.find?_isSome] at hk ⊢
 obtain ⟨L, hL, hk⟩ := hk
 exact ⟨L, hL, kept_implied hc hi (orders_perm hL) hk⟩
end
section
variable {w w' : World} {g : Nat} {r : Nat → Bool} {ws : Nat → Value × Value}
end
section
variable {w w' : World} {b0 : Nat} {vo vs : Value} {l : List Int} {LL : List (List Int)}
end
section
variable {w0 w : World} {B b : Nat} {h : List TxnV}
end
end

section
open Go.RowKit
def catN (i : Nat) (u : Nat → Value) : List TxnV :=
 if i = 0 then [⟨0, 0, 1, u 0, [⟨true, 0, 1⟩]⟩, ⟨0, 2, 3, u 1, [⟨false, 0, 0⟩]⟩]
 else if i = 1 then [⟨0, 0, 3, u 0, [⟨true, 0, 1⟩]⟩, ⟨1, 1, 4, u 1, [⟨false, 0, 1⟩, ⟨true, 1, 2⟩]⟩, ⟨2, 2, 5, u 2, [⟨false, 1, 2⟩, ⟨false, 0, 0⟩]⟩]
 else if i = 2 then [⟨0, 0, 4, u 0, [⟨true, 0, 1⟩]⟩, ⟨1, 1, 5, u 1, [⟨true, 1, 2⟩]⟩, ⟨2, 2, 6, u 2, [⟨false, 0, 1⟩, ⟨false, 1, 0⟩]⟩, ⟨3, 3, 7, u 3, [⟨false, 1, 2⟩, ⟨false, 0, 0⟩]⟩]
 else if i = 3 then [⟨0, 0, 2, u 0, [⟨false, 0, 0⟩, ⟨true, 0, 1⟩]⟩, ⟨1, 1, 3, u 1, [⟨false, 0, 0⟩, ⟨true, 0, 2⟩]⟩]
 else if i = 4 then [⟨0, 0, 2, u 0, [⟨false, 1, 0⟩, ⟨true, 0, 1⟩]⟩, ⟨1, 1, 3, u 1, [⟨false, 0, 0⟩, ⟨true, 1, 2⟩]⟩]
 else [⟨0, 0, 1, u 0, [⟨true, 0, 1⟩]⟩, ⟨1, 2, 3, u 1, [⟨false, 0, 0⟩]⟩]
theorem dec_firstE {h : List TxnV} (hc : checkI h = 0) {l : Nat} (hl : isLv (l : Int) = true) (hs : soundTo h h.length = true) : (decW h (l : Int)).2.2 = (firstE h (clI ((askN (l : Int) : Nat) : Int)) h.length h.length []).isSome := by
 rw [decW_some hc, first_kept, if_pos ⟨hl, hs⟩, Option.isSome_map]
theorem lv_in : ∀ l : Fin 12, isLv (l.val : Int) = true := by decide +kernel
section
variable (u : Nat → Value)
theorem cat_c0 : checkI (catN 0 u) = 0 := by kernel_rfl
theorem cat_s0 : soundTo (catN 0 u) (catN 0 u).length = true := by kernel_rfl
theorem cat_y0x0 : (firstE (catN 0 u) (clI ((askN ((0 : Nat) : Int) : Nat) : Int)) (catN 0 u).length (catN 0 u).length []).isSome = true := by kernel_rfl
theorem cat_n0 : (firstE (catN 0 u) (clI ((askN ((1 : Nat) : Int) : Nat) : Int)) (catN 0 u).length (catN 0 u).length []).isSome = false := by kernel_rfl
theorem cat_c1 : checkI (catN 1 u) = 0 := by kernel_rfl
theorem cat_s1 : soundTo (catN 1 u) (catN 1 u).length = true := by kernel_rfl
theorem cat_y1x3 : (firstE (catN 1 u) (clI ((askN ((3 : Nat) : Int) : Nat) : Int)) (catN 1 u).length (catN 1 u).length []).isSome = true := by kernel_rfl
theorem cat_n1 : (firstE (catN 1 u) (clI ((askN ((2 : Nat) : Int) : Nat) : Int)) (catN 1 u).length (catN 1 u).length []).isSome = false := by kernel_rfl
theorem cat_c2 : checkI (catN 2 u) = 0 := by kernel_rfl
theorem cat_s2 : soundTo (catN 2 u) (catN 2 u).length = true := by kernel_rfl
theorem cat_y2x5 : (firstE (catN 2 u) (clI ((askN ((5 : Nat) : Int) : Nat) : Int)) (catN 2 u).length (catN 2 u).length []).isSome = true := by kernel_rfl
theorem cat_y2x8 : (firstE (catN 2 u) (clI ((askN ((8 : Nat) : Int) : Nat) : Int)) (catN 2 u).length (catN 2 u).length []).isSome = true := by kernel_rfl
theorem cat_n2 : (firstE (catN 2 u) (clI ((askN ((4 : Nat) : Int) : Nat) : Int)) (catN 2 u).length (catN 2 u).length []).isSome = false := by kernel_rfl
theorem cat_c3 : checkI (catN 3 u) = 0 := by kernel_rfl
theorem cat_s3 : soundTo (catN 3 u) (catN 3 u).length = true := by kernel_rfl
theorem cat_y3x9 : (firstE (catN 3 u) (clI ((askN ((9 : Nat) : Int) : Nat) : Int)) (catN 3 u).length (catN 3 u).length []).isSome = true := by kernel_rfl
theorem cat_n3 : (firstE (catN 3 u) (clI ((askN ((3 : Nat) : Int) : Nat) : Int)) (catN 3 u).length (catN 3 u).length []).isSome = false := by kernel_rfl
theorem cat_c4 : checkI (catN 4 u) = 0 := by kernel_rfl
theorem cat_s4 : soundTo (catN 4 u) (catN 4 u).length = true := by kernel_rfl
theorem cat_y4x10 : (firstE (catN 4 u) (clI ((askN ((10 : Nat) : Int) : Nat) : Int)) (catN 4 u).length (catN 4 u).length []).isSome = true := by kernel_rfl
theorem cat_n4 : (firstE (catN 4 u) (clI ((askN ((7 : Nat) : Int) : Nat) : Int)) (catN 4 u).length (catN 4 u).length []).isSome = false := by kernel_rfl
theorem cat_c5 : checkI (catN 5 u) = 0 := by kernel_rfl
theorem cat_s5 : soundTo (catN 5 u) (catN 5 u).length = true := by kernel_rfl
theorem cat_y5x7 : (firstE (catN 5 u) (clI ((askN ((7 : Nat) : Int) : Nat) : Int)) (catN 5 u).length (catN 5 u).length []).isSome = true := by kernel_rfl
theorem cat_n5 : (firstE (catN 5 u) (clI ((askN ((8 : Nat) : Int) : Nat) : Int)) (catN 5 u).length (catN 5 u).length []).isSome = false := by kernel_rfl
end
theorem cat_lv0 : ∀ l : Fin 12, if (clN (askN (l.val : Int))).testBit 0 = true then impB (l.val : Int) ((1 : Nat) : Int) = true else impB ((0 : Nat) : Int) (l.val : Int) = true := by decide +kernel
theorem cat_acc0 (u : Nat → Value) {l : Nat} (hl : l < 12) : (decW (catN 0 u) (l : Int)).2.2 = !(clN (askN (l : Int))).testBit 0 := by
 have h := cat_lv0 ⟨l, hl⟩
 have hc := cat_c0 u
 cases hb : (clN (askN (l : Int))).testBit 0 with
 | true =>
  rw [if_pos hb] at h
  cases e : (decW (catN 0 u) (l : Int)).2.2 with
  | false => rfl
  | true =>
   have := dec_implied hc h e
   rw [dec_firstE hc (lv_in ⟨1, by omega⟩) (cat_s0 u), cat_n0] at this
   cases this
 | false =>
  rw [if_neg (by rw [hb]; simp)] at h
  exact dec_implied hc h (by rw [dec_firstE hc (lv_in ⟨0, by omega⟩) (cat_s0 u), cat_y0x0])
theorem cat_lv1 : ∀ l : Fin 12, if (clN (askN (l.val : Int))).testBit 1 = true then impB (l.val : Int) ((2 : Nat) : Int) = true else impB ((3 : Nat) : Int) (l.val : Int) = true := by decide +kernel
theorem cat_acc1 (u : Nat → Value) {l : Nat} (hl : l < 12) : (decW (catN 1 u) (l : Int)).2.2 = !(clN (askN (l : Int))).testBit 1 := by
 have h := cat_lv1 ⟨l, hl⟩
 have hc := cat_c1 u
 cases hb : (clN (askN (l : Int))).testBit 1 with
 | true =>
  rw [if_pos hb] at h
  cases e : (decW (catN 1 u) (l : Int)).2.2 with
  | false => rfl
  | true =>
   have := dec_implied hc h e
   rw [dec_firstE hc (lv_in ⟨2, by omega⟩) (cat_s1 u), cat_n1] at this
   cases this
 | false =>
  rw [if_neg (by rw [hb]; simp)] at h
  exact dec_implied hc h (by rw [dec_firstE hc (lv_in ⟨3, by omega⟩) (cat_s1 u), cat_y1x3])
theorem cat_lv2 : ∀ l : Fin 12, if (clN (askN (l.val : Int))).testBit 2 = true then impB (l.val : Int) ((4 : Nat) : Int) = true else impB ((5 : Nat) : Int) (l.val : Int) = true ∨ impB ((8 : Nat) : Int) (l.val : Int) = true := by decide +kernel
theorem cat_acc2 (u : Nat → Value) {l : Nat} (hl : l < 12) : (decW (catN 2 u) (l : Int)).2.2 = !(clN (askN (l : Int))).testBit 2 := by
 have h := cat_lv2 ⟨l, hl⟩
 have hc := cat_c2 u
 cases hb : (clN (askN (l : Int))).testBit 2 with
 | true =>
  rw [if_pos hb] at h
  cases e : (decW (catN 2 u) (l : Int)).2.2 with
  | false => rfl
  | true =>
   have := dec_implied hc h e
   rw [dec_firstE hc (lv_in ⟨4, by omega⟩) (cat_s2 u), cat_n2] at this
   cases this
 | false =>
  rw [if_neg (by rw [hb]; simp)] at h
  rcases h with h | h
  ·exact dec_implied hc h (by rw [dec_firstE hc (lv_in ⟨5, by omega⟩) (cat_s2 u), cat_y2x5])
  ·exact dec_implied hc h (by rw [dec_firstE hc (lv_in ⟨8, by omega⟩) (cat_s2 u), cat_y2x8])
theorem cat_lv3 : ∀ l : Fin 12, if (clN (askN (l.val : Int))).testBit 3 = true then impB (l.val : Int) ((3 : Nat) : Int) = true else impB ((9 : Nat) : Int) (l.val : Int) = true := by decide +kernel
theorem cat_acc3 (u : Nat → Value) {l : Nat} (hl : l < 12) : (decW (catN 3 u) (l : Int)).2.2 = !(clN (askN (l : Int))).testBit 3 := by
 have h := cat_lv3 ⟨l, hl⟩
 have hc := cat_c3 u
 cases hb : (clN (askN (l : Int))).testBit 3 with
 | true =>
  rw [if_pos hb] at h
  cases e : (decW (catN 3 u) (l : Int)).2.2 with
  | false => rfl
  | true =>
   have := dec_implied hc h e
   rw [dec_firstE hc (lv_in ⟨3, by omega⟩) (cat_s3 u), cat_n3] at this
   cases this
 | false =>
  rw [if_neg (by rw [hb]; simp)] at h
  exact dec_implied hc h (by rw [dec_firstE hc (lv_in ⟨9, by omega⟩) (cat_s3 u), cat_y3x9])
theorem cat_lv4 : ∀ l : Fin 12, if (clN (askN (l.val : Int))).testBit 4 = true then impB (l.val : Int) ((7 : Nat) : Int) = true else impB ((10 : Nat) : Int) (l.val : Int) = true := by decide +kernel
theorem cat_acc4 (u : Nat → Value) {l : Nat} (hl : l < 12) : (decW (catN 4 u) (l : Int)).2.2 = !(clN (askN (l : Int))).testBit 4 := by
 have h := cat_lv4 ⟨l, hl⟩
 have hc := cat_c4 u
 cases hb : (clN (askN (l : Int))).testBit 4 with
 | true =>
  rw [if_pos hb] at h
  cases e : (decW (catN 4 u) (l : Int)).2.2 with
  | false => rfl
  | true =>
   have := dec_implied hc h e
   rw [dec_firstE hc (lv_in ⟨7, by omega⟩) (cat_s4 u), cat_n4] at this
   cases this
 | false =>
  rw [if_neg (by rw [hb]; simp)] at h
  exact dec_implied hc h (by rw [dec_firstE hc (lv_in ⟨10, by omega⟩) (cat_s4 u), cat_y4x10])
theorem cat_lv5 : ∀ l : Fin 12, if (clN (askN (l.val : Int))).testBit 5 = true then impB (l.val : Int) ((8 : Nat) : Int) = true else impB ((7 : Nat) : Int) (l.val : Int) = true := by decide +kernel
theorem cat_acc5 (u : Nat → Value) {l : Nat} (hl : l < 12) : (decW (catN 5 u) (l : Int)).2.2 = !(clN (askN (l : Int))).testBit 5 := by
 have h := cat_lv5 ⟨l, hl⟩
 have hc := cat_c5 u
 cases hb : (clN (askN (l : Int))).testBit 5 with
 | true =>
  rw [if_pos hb] at h
  cases e : (decW (catN 5 u) (l : Int)).2.2 with
  | false => rfl
  | true =>
   have := dec_implied hc h e
   rw [dec_firstE hc (lv_in ⟨8, by omega⟩) (cat_s5 u), cat_n5] at this
   cases this
 | false =>
  rw [if_neg (by rw [hb]; simp)] at h
  exact dec_implied hc h (by rw [dec_firstE hc (lv_in ⟨7, by omega⟩) (cat_s5 u), cat_y5x7])
theorem cat_acc {i : Nat} (hi : i < 6) (u : Nat → Value) {l : Nat} (hl : l < 12) : (decW (catN i u) (l : Int)).2.2 = !(clN (askN (l : Int))).testBit i := by
 rcases (by omega : i = 0 ∨ i = 1 ∨ i = 2 ∨ i = 3 ∨ i = 4 ∨ i = 5) with rfl | rfl | rfl | rfl | rfl | rfl
 ·exact cat_acc0 u hl
 ·exact cat_acc1 u hl
 ·exact cat_acc2 u hl
 ·exact cat_acc3 u hl
 ·exact cat_acc4 u hl
 ·exact cat_acc5 u hl
theorem cat_check {i : Nat} (hi : i < 6) (u : Nat → Value) : checkI (catN i u) = 0 := by
 rcases (by omega : i = 0 ∨ i = 1 ∨ i = 2 ∨ i = 3 ∨ i = 4 ∨ i = 5) with rfl | rfl | rfl | rfl | rfl | rfl
 ·exact cat_c0 u
 ·exact cat_c1 u
 ·exact cat_c2 u
 ·exact cat_c3 u
 ·exact cat_c4 u
 ·exact cat_c5 u
theorem cat_len {i : Nat} (hi : i < 6) (u : Nat → Value) : (catN i u).length ≤ 4 := by
 rcases (by omega : i = 0 ∨ i = 1 ∨ i = 2 ∨ i = 3 ∨ i = 4 ∨ i = 5) with rfl | rfl | rfl | rfl | rfl | rfl <;> (unfold catN; simp)
theorem cat_okB {i : Nat} (hi : i < 6) (u : Nat → Value) : ∀ t ∈ catN i u, t.ok ∧ t.l.length ≤ 2 := by
 have key : ∀ t : TxnV, (decide (0 ≤ t.s ∧ t.s ≤ 10 ∧ 0 ≤ t.b ∧ t.b ≤ 10 ∧ 0 ≤ t.c ∧ t.c ≤ 10) && (t.l.all (fun o => decide (0 ≤ o.key ∧ o.key ≤ 10 ∧ 0 ≤ o.val ∧ o.val ≤ 10)) && decide (t.l.length ≤ 2))) = true → t.ok ∧ t.l.length ≤ 2 := fun t ht => by
  simp only [Bool.and_eq_true, decide_eq_true_eq, List.all_eq_true] at ht
  obtain ⟨⟨a1, a2, a3, a4, a5, a6⟩, a7, a8⟩ := ht
  refine ⟨⟨⟨⟨by omega, by omega⟩, ⟨by omega, by omega⟩, ⟨by omega, by omega⟩⟩, fun o ho => ?_⟩, a8⟩
  obtain ⟨b1, b2, b3, b4⟩ := a7 o ho
  exact ⟨⟨by omega, by omega⟩, ⟨by omega, by omega⟩⟩
 intro t ht
 refine key t ?_
 rcases (by omega : i = 0 ∨ i = 1 ∨ i = 2 ∨ i = 3 ∨ i = 4 ∨ i = 5) with rfl | rfl | rfl | rfl | rfl | rfl <;> (simp [catN] at ht)
 ·rcases ht with rfl | rfl <;> rfl
 ·rcases ht with rfl | rfl | rfl <;> rfl
 ·rcases ht with rfl | rfl | rfl | rfl <;> rfl
 ·rcases ht with rfl | rfl <;> rfl
 ·rcases ht with rfl | rfl <;> rfl
 ·rcases ht with rfl | rfl <;> rfl
theorem cat_short {i : Nat} (hi : i < 6) (u : Nat → Value) : Short (catN i u) := fun t ht => by have := (cat_okB hi u t ht).2; omega
end

section
open Go.RowKit
theorem infoTxn : (Tryd.prog.info? 76).map (fun i => (i.zero, i.size, i.bytes)) = some (some (.agg #[.int .i64 0, .int .i64 0, .int .i64 0, .slice none 0 0]), 4, 48) := by kernel_rfl
def OwnT (w : World) (base : Nat) (v : Value) (h : List TxnV) : Prop := w.ownsRow base 76 4 v h.length (txV h)
end

section
open Go.RowKit
theorem txV_app (l m : List TxnV) : txV (l ++ m) = txV l ++ txV m := by simp [txV]
theorem OwnT.below {w w' : World} {base : Nat} {v : Value} {h : List TxnV} (hO : OwnT w base v h) (hb : Below w.heap.size w w') : OwnT w' base v h := owns_below hO hb
end

section
open Go.RowKit
theorem row4_newM (w : World) (x y z u : Value) (t : TypeId) : ∀ j v, [x, y, z, u][j]? = some v → (w.alloc (.cells #[x, y, z, u] t)).cell? ((⟨w.heap.size, 0, none⟩ : Addr).add j) = some v := fun j v hv => by
 rw [Addr.add_lit, cell_of_row _ _ _ _ _ _ (heap_alloc_new w _)]
 simpa using hv
end

section
open Go.RowKit
theorem below_app0 {B B' : Nat} {W wr w1 : World} {o : Obj} {e : TypeId} {n size : Nat} {v : Value} {xs : List Value} (hb : Below B W wr) (hB : B ≤ W.heap.size) (hown : wr.ownsRow B' e size v n xs) (hBB : B ≤ B')
  (hg : (wr.alloc o).grownBy w1 v.ownBlock) : Below B W w1 :=
 (hb.alloc (Nat.le_trans hB hb.size) o).grown hg (by have := hb.size; simp; omega) fun k hk => Nat.le_trans hBB (hown.lt k hk).1
end

section
open Go.RowKit
abbrev KOp := Value × List OpV
def KRows (w : World) (v : Value) (K : List KOp) : Prop := Row w v K.length 1 (K.map (·.1)) ∧ ∀ p ∈ K, Ops w p.1 p.2
section
variable {w w' : World} {v : Value} {K : List KOp}
theorem KRows.below (h : KRows w v K) (hb : Below w.heap.size w w') : KRows w' v K := ⟨h.1.below hb, fun p hp => Row.below (h.2 p hp) hb⟩
theorem KRows.form (h : KRows w v K) : ∃ ao cap, v = .slice ao K.length cap ∧ K.length ≤ 9223372036854775807 := by
 obtain ⟨_, ao, cap, rfl, hm, _, _⟩ := h.1
 exact ⟨ao, cap, rfl, Nat.le_trans hm.1 hm.2⟩
theorem KRows.at {ao : Option Addr} {n cap : Nat} (h : KRows w (.slice ao n cap) K) {k : Nat} (hk : k < K.length) : ∃ g o, ao = some ⟨g, o, none⟩ ∧ w.cell? ⟨g, o + k, none⟩ = some K[k].1 ∧ Ops w K[k].1 K[k].2 := by
 obtain ⟨_, ao', cap', he, _, _, hc⟩ := h.1
 cases he
 obtain ⟨b, off, e, hcell⟩ := hc (by omega)
 refine ⟨b, off, e, ?_, h.2 _ (List.getElem_mem hk)⟩
 have := hcell k (by omega)
 rw [this]
 simp [hk]
end
theorem Ops.slice {w : World} {v : Value} {l : List OpV} (h : Ops w v l) : ∃ ua un uc, v = .slice ua un uc := by
 obtain ⟨_, ao, cap, rfl, _⟩ := h
 exact ⟨ao, _, cap, rfl⟩
def turn1 (K : List KOp) (k : Nat) : List TxnV := (List.range k).filterMap fun (i : Nat) => K[i]?.map fun p => ⟨0, 2 * (i : Int), 2 * (i : Int) + 1, p.1, p.2⟩
def turn2 (K : List KOp) (k : Nat) : List TxnV := (List.range k).filterMap fun (i : Nat) => K[i]?.map fun p => ⟨(i : Int) % 2, 2 * (i : Int), 2 * (i : Int) + 1, p.1, p.2⟩
def onceL (K : List KOp) (k : Nat) : List TxnV := (List.range k).filterMap fun (i : Nat) => K[i]?.map fun p => ⟨(i : Int), (i : Int), (K.length : Int) + (i : Int), p.1, p.2⟩
theorem cturn1_succ {K : List KOp} {k : Nat} (hk : k < K.length) : turn1 K (k + 1) = turn1 K k ++ [⟨0, 2 * (k : Int), 2 * (k : Int) + 1, K[k].1, K[k].2⟩] := by
 unfold turn1; rw [List.range_succ, List.filterMap_append]; simp [hk]
theorem cturn2_succ {K : List KOp} {k : Nat} (hk : k < K.length) : turn2 K (k + 1) = turn2 K k ++ [⟨(k : Int) % 2, 2 * (k : Int), 2 * (k : Int) + 1, K[k].1, K[k].2⟩] := by
 unfold turn2; rw [List.range_succ, List.filterMap_append]; simp [hk]
theorem conce_succ {K : List KOp} {k : Nat} (hk : k < K.length) : onceL K (k + 1) = onceL K k ++ [⟨(k : Int), (k : Int), (K.length : Int) + (k : Int), K[k].1, K[k].2⟩] := by
 unfold onceL; rw [List.range_succ, List.filterMap_append]; simp [hk]
theorem cturn1_len {K : List KOp} (k : Nat) : (turn1 K k).length ≤ k := by
 unfold turn1; exact Nat.le_trans (List.length_filterMap_le _ _) (by simp)
theorem cturn2_len {K : List KOp} (k : Nat) : (turn2 K k).length ≤ k := by
 unfold turn2; exact Nat.le_trans (List.length_filterMap_le _ _) (by simp)
theorem conce_len {K : List KOp} (k : Nat) : (onceL K k).length ≤ k := by
 unfold onceL; exact Nat.le_trans (List.length_filterMap_le _ _) (by simp)
theorem cturn1_own {K : List KOp} {k b0 : Nat} {w : World} (hR : ∀ p ∈ K, Own w b0 p.1 p.2) : ∀ t ∈ turn1 K k, Own w b0 t.v t.l := fun t ht => by
 unfold turn1 at ht
 obtain ⟨i, _, e⟩ := List.mem_filterMap.1 ht
 obtain ⟨p, hp, rfl⟩ := Option.map_eq_some_iff.1 e
 exact hR p (List.mem_of_getElem? hp)
theorem cturn2_own {K : List KOp} {k b0 : Nat} {w : World} (hR : ∀ p ∈ K, Own w b0 p.1 p.2) : ∀ t ∈ turn2 K k, Own w b0 t.v t.l := fun t ht => by
 unfold turn2 at ht
 obtain ⟨i, _, e⟩ := List.mem_filterMap.1 ht
 obtain ⟨p, hp, rfl⟩ := Option.map_eq_some_iff.1 e
 exact hR p (List.mem_of_getElem? hp)
theorem conce_own {K : List KOp} {k b0 : Nat} {w : World} (hR : ∀ p ∈ K, Own w b0 p.1 p.2) : ∀ t ∈ onceL K k, Own w b0 t.v t.l := fun t ht => by
 unfold onceL at ht
 obtain ⟨i, _, e⟩ := List.mem_filterMap.1 ht
 obtain ⟨p, hp, rfl⟩ := Option.map_eq_some_iff.1 e
 exact hR p (List.mem_of_getElem? hp)
def CatH (w : World) (b0 : Nat) (v : Value) (h : List TxnV) : Prop := OwnT w b0 v h ∧ ∀ t ∈ h, Own w b0 t.v t.l
section
variable {w w' : World} {b0 : Nat} {v : Value} {h : List TxnV}
theorem CatH.below (q : CatH w b0 v h) (hb : Below w.heap.size w w') : CatH w' b0 v h := ⟨q.1.below hb, fun t ht => (q.2 t ht).below hb⟩
theorem CatH.txns (q : CatH w b0 v h) : Txns w v h := ⟨Row.of_owns q.1, fun t ht => (q.2 t ht).ops⟩
theorem CatH.base {b1 : Nat} (q : CatH w b0 v h) (hb : b1 ≤ b0) : CatH w b1 v h := ⟨own_base' q.1 hb, fun t ht => own_base' (q.2 t ht) hb⟩
theorem CatH.far (q : CatH w b0 v h) {p : Addr} (hp : p.block < b0) (u : Value) : CatH (w.setCell p u) b0 v h := ⟨pl_far q.1 hp u, fun t ht => pl_far (q.2 t ht) hp u⟩
def AllOwn (w : World) (b0 : Nat) : List KOp → Prop
 | [] => True
 | p :: K => Own w b0 p.1 p.2 ∧ AllOwn w b0 K
theorem all_own {b0 : Nat} : ∀ {K : List KOp}, AllOwn w b0 K → ∀ p ∈ K, Own w b0 p.1 p.2
 | [], _, p, hp => by cases hp
 | q :: K, h, p, hp => by
  rcases List.mem_cons.1 hp with rfl | hp
  ·exact h.1
  ·exact all_own h.2 p hp
end
theorem cturn1_txns {K : List KOp} {k : Nat} {w : World} {v va : Value} (hR : KRows w va K) (h : Row w v (turn1 K k).length 4 (txV (turn1 K k))) : Txns w v (turn1 K k) := ⟨h, fun t ht => by
 unfold turn1 at ht
 obtain ⟨i, _, e⟩ := List.mem_filterMap.1 ht
 obtain ⟨p, hp, rfl⟩ := Option.map_eq_some_iff.1 e
 exact hR.2 p (List.mem_of_getElem? hp)⟩
theorem cturn2_txns {K : List KOp} {k : Nat} {w : World} {v va : Value} (hR : KRows w va K) (h : Row w v (turn2 K k).length 4 (txV (turn2 K k))) : Txns w v (turn2 K k) := ⟨h, fun t ht => by
 unfold turn2 at ht
 obtain ⟨i, _, e⟩ := List.mem_filterMap.1 ht
 obtain ⟨p, hp, rfl⟩ := Option.map_eq_some_iff.1 e
 exact hR.2 p (List.mem_of_getElem? hp)⟩
theorem conce_txns {K : List KOp} {k : Nat} {w : World} {v va : Value} (hR : KRows w va K) (h : Row w v (onceL K k).length 4 (txV (onceL K k))) : Txns w v (onceL K k) := ⟨h, fun t ht => by
 unfold onceL at ht
 obtain ⟨i, _, e⟩ := List.mem_filterMap.1 ht
 obtain ⟨p, hp, rfl⟩ := Option.map_eq_some_iff.1 e
 exact hR.2 p (List.mem_of_getElem? hp)⟩
theorem crow_any (ao : Option Addr) (n cap : Nat) (w : World) : Calls Tryd.prog 42 #[.slice ao n cap] w fun e w' => e = .returned (.slice ao n cap) ∧ w = w' := by
 go_enter Tryd.func42, Tryd.ntmps42
 go_wp2_with fail
 go_ret
 exact ⟨rfl, rfl⟩
theorem cturn1_any  (va : Value) (K : List KOp) (w : World) (hR : KRows w va K) (hn : K.length ≤ 1000) :
  Calls Tryd.prog 41 #[.int .i64 1, va] w fun e w' => ∃ v, e = .returned v ∧ w'.ownsRow w.heap.size 76 4 v (turn1 K K.length).length (txV (turn1 K K.length)) ∧ Txns w' v (turn1 K K.length) ∧ Below w.heap.size w w' := by
 obtain ⟨i1, hj, hy0, hy1, hy2⟩ := info_parts infoTxn
 obtain ⟨ao, cap, rfl, hm⟩ := hR.form
 have HR := hid (fun wx (hx : Below w.heap.size w wx) => hR.below hx)
 clear hR
 go_enter Tryd.func41, Tryd.ntmps41
 go_wp2_with fail
 go_loopw [5, 10] (fun v i wr => ∃ k : Nat, k ≤ K.length ∧ i = .int .i64 (k : Int) ∧ Hid (wr.ownsRow w.heap.size 76 4 v (turn1 K k).length (txV (turn1 K k))) ∧ Hid (Below w.heap.size w wr)) (fun _ i _ => K.length - (intOf i).toNat)
 case atStart => exact ⟨0, by omega, rfl, hid (World.ownsRow_nil _ _ _ _), hid (Below.refl _ _)⟩
 case round =>
  obtain ⟨k, hk, rfl, HO, HB⟩ := hrel
  by_cases hlt : k < K.length
  ·have hki : (k : Int) < (K.length : Int) := by omega
   obtain ⟨g, o, hg, hc, hops⟩ := (HR.out wr HB.out).at hlt
   cases hg
   have hown := HO.out
   obtain ⟨ua, un, uc, hu⟩ := hops.slice
   rw [hu] at hc
   have HL : Hid (turn1 K (k + 1) = turn1 K k ++ [⟨0, (2 * (k : Int)), (2 * (k : Int) + 1), .slice ua un uc, K[k].2⟩]) := hid (by rw [cturn1_succ hlt]; rw [hu])
   have hll : (turn1 K k).length ≤ 1000 := Nat.le_trans (cturn1_len k) (by omega)
   have hka : (k : Int) ≤ 1000 := by omega
   have hbs := HB.out.size
   clear HO hops
   go_wp2_with (first | (at_builtin; refine wpList_append_own _ rfl _ _ 40 rfl w.heap.size 76 i1 (.agg #[.int .i64 0, .int .i64 0, .int .i64 0, .slice none 0 0]) 4 48 Tryd.underlying40 hj hy0 hy1 hy2 rfl (by decide) _ _ _ rfl (hown.alloc _) ⟨_, 0, none⟩ 1 1 [.int .i64 0, .int .i64 (2 * (k : Int)), .int .i64 (2 * (k : Int) + 1), .slice ua un uc] rfl rfl ?c1 ?c2 ?c3 ?c4 ?c5 ?_) | go_in)
   case c1 => exact row4_newM wr _ _ _ _ _
   case c2 =>
    intro u hu
    simp at hu
    rcases hu with rfl | rfl | rfl | rfl <;> rfl
   case c3 => unfold maxLen; omega
   case c4 => omega
   case c5 => simp; omega
   intro v10 w10 hown10 hg10 _
   have HO10 : Hid (w10.ownsRow w.heap.size 76 4 v10 (turn1 K (k + 1)).length (txV (turn1 K (k + 1)))) := hid (by
    rw [HL.out, List.length_append, txV_app]
    exact hown10)
   have HB10 : Hid (Below w.heap.size w w10) := hid (below_app0 HB.out (Nat.le_refl _) hown (Nat.le_refl _) hg10)
   clear hown10 hg10 hown HL
   go_wp2_with fail
   go_roundw
   case rel => exact ⟨k + 1, by omega, by go_num, HO10, HB10⟩
   case measure => simp [intOf]; omega
  ·obtain rfl : k = K.length := by omega
   have hki : ¬ (K.length : Int) < (K.length : Int) := by omega
   have hR := HR.out wr HB.out
   have HT := hid (cturn1_txns hR (Row.of_owns HO.out))
   clear hR HR
   go_wp2_with fail
   go_ret
   exact ⟨_, rfl, HO.out, HT.out, HB.out⟩
theorem cturn2_any  (va : Value) (K : List KOp) (w : World) (hR : KRows w va K) (hn : K.length ≤ 1000) :
  Calls Tryd.prog 41 #[.int .i64 2, va] w fun e w' => ∃ v, e = .returned v ∧ w'.ownsRow w.heap.size 76 4 v (turn2 K K.length).length (txV (turn2 K K.length)) ∧ Txns w' v (turn2 K K.length) ∧ Below w.heap.size w w' := by
 obtain ⟨i1, hj, hy0, hy1, hy2⟩ := info_parts infoTxn
 obtain ⟨ao, cap, rfl, hm⟩ := hR.form
 have HR := hid (fun wx (hx : Below w.heap.size w wx) => hR.below hx)
 clear hR
 go_enter Tryd.func41, Tryd.ntmps41
 go_wp2_with fail
 go_loopw [5, 10] (fun v i wr => ∃ k : Nat, k ≤ K.length ∧ i = .int .i64 (k : Int) ∧ Hid (wr.ownsRow w.heap.size 76 4 v (turn2 K k).length (txV (turn2 K k))) ∧ Hid (Below w.heap.size w wr)) (fun _ i _ => K.length - (intOf i).toNat)
 case atStart => exact ⟨0, by omega, rfl, hid (World.ownsRow_nil _ _ _ _), hid (Below.refl _ _)⟩
 case round =>
  obtain ⟨k, hk, rfl, HO, HB⟩ := hrel
  by_cases hlt : k < K.length
  ·have hki : (k : Int) < (K.length : Int) := by omega
   obtain ⟨g, o, hg, hc, hops⟩ := (HR.out wr HB.out).at hlt
   cases hg
   have hown := HO.out
   obtain ⟨ua, un, uc, hu⟩ := hops.slice
   rw [hu] at hc
   have HL : Hid (turn2 K (k + 1) = turn2 K k ++ [⟨((k : Int) % 2), (2 * (k : Int)), (2 * (k : Int) + 1), .slice ua un uc, K[k].2⟩]) := hid (by rw [cturn2_succ hlt]; rw [hu])
   have hll : (turn2 K k).length ≤ 1000 := Nat.le_trans (cturn2_len k) (by omega)
   have hka : (k : Int) ≤ 1000 := by omega
   have hbs := HB.out.size
   clear HO hops
   go_wp2_with (first | (at_builtin; refine wpList_append_own _ rfl _ _ 40 rfl w.heap.size 76 i1 (.agg #[.int .i64 0, .int .i64 0, .int .i64 0, .slice none 0 0]) 4 48 Tryd.underlying40 hj hy0 hy1 hy2 rfl (by decide) _ _ _ rfl (hown.alloc _) ⟨_, 0, none⟩ 1 1 [.int .i64 ((k : Int) % 2), .int .i64 (2 * (k : Int)), .int .i64 (2 * (k : Int) + 1), .slice ua un uc] rfl rfl ?c1 ?c2 ?c3 ?c4 ?c5 ?_) | go_in)
   case c1 => exact row4_newM wr _ _ _ _ _
   case c2 =>
    intro u hu
    simp at hu
    rcases hu with rfl | rfl | rfl | rfl <;> rfl
   case c3 => unfold maxLen; omega
   case c4 => omega
   case c5 => simp; omega
   intro v10 w10 hown10 hg10 _
   have HO10 : Hid (w10.ownsRow w.heap.size 76 4 v10 (turn2 K (k + 1)).length (txV (turn2 K (k + 1)))) := hid (by
    rw [HL.out, List.length_append, txV_app]
    exact hown10)
   have HB10 : Hid (Below w.heap.size w w10) := hid (below_app0 HB.out (Nat.le_refl _) hown (Nat.le_refl _) hg10)
   clear hown10 hg10 hown HL
   go_wp2_with fail
   go_roundw
   case rel => exact ⟨k + 1, by omega, by go_num, HO10, HB10⟩
   case measure => simp [intOf]; omega
  ·obtain rfl : k = K.length := by omega
   have hki : ¬ (K.length : Int) < (K.length : Int) := by omega
   have hR := HR.out wr HB.out
   have HT := hid (cturn2_txns hR (Row.of_owns HO.out))
   clear hR HR
   go_wp2_with fail
   go_ret
   exact ⟨_, rfl, HO.out, HT.out, HB.out⟩
theorem conce_any  (va : Value) (K : List KOp) (w : World) (hR : KRows w va K) (hn : K.length ≤ 1000) :
  Calls Tryd.prog 45 #[va] w fun e w' => ∃ v, e = .returned v ∧ w'.ownsRow w.heap.size 76 4 v (onceL K K.length).length (txV (onceL K K.length)) ∧ Txns w' v (onceL K K.length) ∧ Below w.heap.size w w' := by
 obtain ⟨i1, hj, hy0, hy1, hy2⟩ := info_parts infoTxn
 obtain ⟨ao, cap, rfl, hm⟩ := hR.form
 have HR := hid (fun wx (hx : Below w.heap.size w wx) => hR.below hx)
 clear hR
 go_enter Tryd.func45, Tryd.ntmps45
 go_wp2_with fail
 go_loopw [3, 8] (fun v i wr => ∃ k : Nat, k ≤ K.length ∧ i = .int .i64 (k : Int) ∧ Hid (wr.ownsRow w.heap.size 76 4 v (onceL K k).length (txV (onceL K k))) ∧ Hid (Below w.heap.size w wr)) (fun _ i _ => K.length - (intOf i).toNat)
 case atStart => exact ⟨0, by omega, rfl, hid (World.ownsRow_nil _ _ _ _), hid (Below.refl _ _)⟩
 case round =>
  obtain ⟨k, hk, rfl, HO, HB⟩ := hrel
  by_cases hlt : k < K.length
  ·have hki : (k : Int) < (K.length : Int) := by omega
   obtain ⟨g, o, hg, hc, hops⟩ := (HR.out wr HB.out).at hlt
   cases hg
   have hown := HO.out
   obtain ⟨ua, un, uc, hu⟩ := hops.slice
   rw [hu] at hc
   have HL : Hid (onceL K (k + 1) = onceL K k ++ [⟨(k : Int), (k : Int), ((K.length : Int) + (k : Int)), .slice ua un uc, K[k].2⟩]) := hid (by rw [conce_succ hlt]; rw [hu])
   have hll : (onceL K k).length ≤ 1000 := Nat.le_trans (conce_len k) (by omega)
   have hka : (k : Int) ≤ 1000 := by omega
   have hbs := HB.out.size
   clear HO hops
   go_wp2_with (first | (at_builtin; refine wpList_append_own _ rfl _ _ 40 rfl w.heap.size 76 i1 (.agg #[.int .i64 0, .int .i64 0, .int .i64 0, .slice none 0 0]) 4 48 Tryd.underlying40 hj hy0 hy1 hy2 rfl (by decide) _ _ _ rfl (hown.alloc _) ⟨_, 0, none⟩ 1 1 [.int .i64 (k : Int), .int .i64 (k : Int), .int .i64 ((K.length : Int) + (k : Int)), .slice ua un uc] rfl rfl ?c1 ?c2 ?c3 ?c4 ?c5 ?_) | go_in)
   case c1 => exact row4_newM wr _ _ _ _ _
   case c2 =>
    intro u hu
    simp at hu
    rcases hu with rfl | rfl | rfl | rfl <;> rfl
   case c3 => unfold maxLen; omega
   case c4 => omega
   case c5 => simp; omega
   intro v10 w10 hown10 hg10 _
   have HO10 : Hid (w10.ownsRow w.heap.size 76 4 v10 (onceL K (k + 1)).length (txV (onceL K (k + 1)))) := hid (by
    rw [HL.out, List.length_append, txV_app]
    exact hown10)
   have HB10 : Hid (Below w.heap.size w w10) := hid (below_app0 HB.out (Nat.le_refl _) hown (Nat.le_refl _) hg10)
   clear hown10 hg10 hown HL
   go_wp2_with fail
   go_roundw
   case rel => exact ⟨k + 1, by omega, by go_num, HO10, HB10⟩
   case measure => simp [intOf]; omega
  ·obtain rfl : k = K.length := by omega
   have hki : ¬ (K.length : Int) < (K.length : Int) := by omega
   have hR := HR.out wr HB.out
   have HT := hid (conce_txns hR (Row.of_owns HO.out))
   clear hR HR
   go_wp2_with fail
   go_ret
   exact ⟨_, rfl, HO.out, HT.out, HB.out⟩
end

section
open Go.RowKit
def catS (i : Nat) : ByteArray :=
  if i = 0 then ⟨#[111, 119, 110, 32, 119, 114, 105, 116, 101, 32, 117, 110, 115, 101, 101, 110]⟩
  else if i = 1 then ⟨#[99, 97, 117, 115, 101, 32, 117, 110, 115, 101, 101, 110]⟩
  else if i = 2 then ⟨#[108, 111, 110, 103, 32, 102, 111, 114, 107]⟩
  else if i = 3 then ⟨#[108, 111, 115, 116, 32, 117, 112, 100, 97, 116, 101]⟩
  else if i = 4 then ⟨#[119, 114, 105, 116, 101, 32, 115, 107, 101, 119]⟩
  else ⟨#[115, 116, 97, 108, 101, 32, 114, 101, 97, 100]⟩
def CatAt (w : World) (g : Nat) (vs : Nat → Value) : Prop := ∀ i, i < 6 → w.cell? ⟨g, i * 3, none⟩ = some (.string (catS i)) ∧ w.cell? ⟨g, i * 3 + 1, none⟩ = some (vs i) ∧ w.cell? ⟨g, i * 3 + 2, none⟩ = some (.int .i64 ((2 ^ i : Nat) : Int))
theorem CatAt.lt {w : World} {g : Nat} {vs : Nat → Value} (h : CatAt w g vs) : g < w.heap.size := block_lt (h 0 (by omega)).1
theorem CatAt.below {w w' : World} {g : Nat} {vs : Nat → Value} (h : CatAt w g vs) (hb : Below w.heap.size w w') : CatAt w' g vs := fun i hi => by
 have hl := h.lt
 obtain ⟨h0, h1, h2⟩ := h i hi
 exact ⟨(hb.cell (p := ⟨g, i * 3, none⟩) hl).trans h0, (hb.cell (p := ⟨g, i * 3 + 1, none⟩) hl).trans h1, (hb.cell (p := ⟨g, i * 3 + 2, none⟩) hl).trans h2⟩
theorem cat_made (w : World) (t : TypeId) (vs : Nat → Value) : CatAt (w.alloc (.cells #[.string ⟨#[111, 119, 110, 32, 119, 114, 105, 116, 101, 32, 117, 110, 115, 101, 101, 110]⟩, vs 0, .int .i64 1, .string ⟨#[99, 97, 117, 115, 101, 32, 117, 110, 115, 101, 101, 110]⟩, vs 1, .int .i64 2, .string ⟨#[108, 111, 110, 103, 32, 102, 111, 114, 107]⟩, vs 2, .int .i64 4, .string ⟨#[108, 111, 115, 116, 32, 117, 112, 100, 97, 116, 101]⟩, vs 3, .int .i64 8, .string ⟨#[119, 114, 105, 116, 101, 32, 115, 107, 101, 119]⟩, vs 4, .int .i64 16, .string ⟨#[115, 116, 97, 108, 101, 32, 114, 101, 97, 100]⟩, vs 5, .int .i64 32] t)) w.heap.size vs := fun i hi => by
 have hn := heap_alloc_new w (.cells #[.string ⟨#[111, 119, 110, 32, 119, 114, 105, 116, 101, 32, 117, 110, 115, 101, 101, 110]⟩, vs 0, .int .i64 1, .string ⟨#[99, 97, 117, 115, 101, 32, 117, 110, 115, 101, 101, 110]⟩, vs 1, .int .i64 2, .string ⟨#[108, 111, 110, 103, 32, 102, 111, 114, 107]⟩, vs 2, .int .i64 4, .string ⟨#[108, 111, 115, 116, 32, 117, 112, 100, 97, 116, 101]⟩, vs 3, .int .i64 8, .string ⟨#[119, 114, 105, 116, 101, 32, 115, 107, 101, 119]⟩, vs 4, .int .i64 16, .string ⟨#[115, 116, 97, 108, 101, 32, 114, 101, 97, 100]⟩, vs 5, .int .i64 32] t)
 rcases (by omega : i = 0 ∨ i = 1 ∨ i = 2 ∨ i = 3 ∨ i = 4 ∨ i = 5) with rfl | rfl | rfl | rfl | rfl | rfl <;> exact ⟨by rw [cell_of_row _ _ _ _ _ _ hn]; rfl, by rw [cell_of_row _ _ _ _ _ _ hn]; rfl, by rw [cell_of_row _ _ _ _ _ _ hn]; rfl⟩
theorem txns_slice {w : World} {v : Value} {h : List TxnV} (q : Txns w v h) : ∃ ao n cap, v = .slice ao n cap := by
 obtain ⟨ao, cap, e, _⟩ := q.form
 exact ⟨ao, _, cap, e⟩
def AllOps (w : World) : List KOp → Prop
 | [] => True
 | p :: K => Ops w p.1 p.2 ∧ AllOps w K
theorem krows_all {w : World} : ∀ {K : List KOp}, AllOps w K → ∀ p ∈ K, Ops w p.1 p.2
 | [], _, p, hp => by cases hp
 | q :: K, h, p, hp => by
  rcases List.mem_cons.1 hp with rfl | hp
  ·exact h.1
  ·exact krows_all h.2 p hp
theorem call_any (w : World) : Calls Tryd.prog 30 #[] w fun e w' => (∃ (g : Nat) (vs : Nat → Value) (us : Nat → Nat → Value), e = .returned (.slice (some ⟨g, 0, none⟩) 6 6) ∧ CatAt w' g vs ∧ ∀ i, i < 6 → CatH w' w.heap.size (vs i) (catN i (us i))) ∧ Below w.heap.size w w' := by
 have hb := Below.refl w.heap.size w
 go_enter Tryd.func30, Tryd.ntmps30
 go_wp2_with fail
 refine (write_op 0 1 w).mono ?_
 rintro e w1 ⟨rfl, hx1⟩
 have hb := below_then hb hx1
 clear hx1
 have O0x0 : Own (w1.alloc (.cells #[.bool true, .int .i64 0, .int .i64 1] 71)) w.heap.size (.slice (some ⟨w1.heap.size, 0, none⟩) 1 1) [⟨true, 0, 1⟩] := World.ownsRow_lit (base := w.heap.size) (e := 71) (size := 3) w1 #[.bool true, .int .i64 0, .int .i64 1] 1 hb.size (by decide) rfl
 have hb := below_then hb (box_below w1 (.cells #[.bool true, .int .i64 0, .int .i64 1] 71))
 go_wp2_with fail
 generalize w1.alloc (.cells #[.bool true, .int .i64 0, .int .i64 1] 71) = w2 at *
 generalize w1.heap.size = a0x0 at *
 refine (crow_any _ _ _ _).mono ?_
 rintro e wq ⟨rfl, rfl⟩
 go_wp2_with fail
 refine (read_any 0 0 w2).mono ?_
 rintro e w3 ⟨rfl, hx3⟩
 have O0x0 := O0x0.below hx3
 have hb := below_then hb hx3
 clear hx3
 have O0x1 : Own (w3.alloc (.cells #[.bool false, .int .i64 0, .int .i64 0] 71)) w.heap.size (.slice (some ⟨w3.heap.size, 0, none⟩) 1 1) [⟨false, 0, 0⟩] := World.ownsRow_lit (base := w.heap.size) (e := 71) (size := 3) w3 #[.bool false, .int .i64 0, .int .i64 0] 1 hb.size (by decide) rfl
 have O0x0 := O0x0.below (box_below w3 (.cells #[.bool false, .int .i64 0, .int .i64 0] 71))
 have hb := below_then hb (box_below w3 (.cells #[.bool false, .int .i64 0, .int .i64 0] 71))
 go_wp2_with fail
 generalize w3.alloc (.cells #[.bool false, .int .i64 0, .int .i64 0] 71) = w4 at *
 generalize w3.heap.size = a0x1 at *
 refine (crow_any _ _ _ _).mono ?_
 rintro e wq ⟨rfl, rfl⟩
 have O0x0 := O0x0.below (box_below w4 (.cells #[.slice (some ⟨a0x0, 0, none⟩) 1 1, .slice (some ⟨a0x1, 0, none⟩) 1 1] 68))
 have O0x1 := O0x1.below (box_below w4 (.cells #[.slice (some ⟨a0x0, 0, none⟩) 1 1, .slice (some ⟨a0x1, 0, none⟩) 1 1] 68))
 have hb := below_then hb (box_below w4 (.cells #[.slice (some ⟨a0x0, 0, none⟩) 1 1, .slice (some ⟨a0x1, 0, none⟩) 1 1] 68))
 have KR0 : KRows (w4.alloc (.cells #[.slice (some ⟨a0x0, 0, none⟩) 1 1, .slice (some ⟨a0x1, 0, none⟩) 1 1] 68)) (.slice (some ⟨w4.heap.size, 0, none⟩) 2 2) [((.slice (some ⟨a0x0, 0, none⟩) 1 1), [⟨true, 0, 1⟩]), ((.slice (some ⟨a0x1, 0, none⟩) 1 1), [⟨false, 0, 0⟩])] := ⟨Row.of_owns (World.ownsRow_lit (base := 0) (e := 68) (size := 1) w4 #[.slice (some ⟨a0x0, 0, none⟩) 1 1, .slice (some ⟨a0x1, 0, none⟩) 1 1] 2 (Nat.zero_le _) (by decide) rfl), krows_all (⟨O0x0.ops, ⟨O0x1.ops, trivial⟩⟩)⟩
 go_wp2_with fail
 generalize w4.alloc (.cells #[.slice (some ⟨a0x0, 0, none⟩) 1 1, .slice (some ⟨a0x1, 0, none⟩) 1 1] 68) = w5 at *
 generalize w4.heap.size = k0 at *
 refine (cturn1_any _ _ _ KR0 (by simp)).mono ?_
 rintro e w6 ⟨v0, rfl, hW, hT, hx6⟩
 obtain ⟨o0, n0, c0, rfl⟩ := txns_slice hT
 have e0 : turn1 [((.slice (some ⟨a0x0, 0, none⟩) 1 1), [⟨true, 0, 1⟩]), ((.slice (some ⟨a0x1, 0, none⟩) 1 1), [⟨false, 0, 0⟩])] ([((.slice (some ⟨a0x0, 0, none⟩) 1 1), [⟨true, 0, 1⟩]), ((.slice (some ⟨a0x1, 0, none⟩) 1 1), [⟨false, 0, 0⟩])] : List KOp).length = catN 0 (fun (j : Nat) => ([.slice (some ⟨a0x0, 0, none⟩) 1 1, .slice (some ⟨a0x1, 0, none⟩) 1 1] : List Value).getD j undef) := by kernel_rfl
 have hI : CatH w6 w.heap.size (.slice o0 n0 c0) (turn1 [((.slice (some ⟨a0x0, 0, none⟩) 1 1), [⟨true, 0, 1⟩]), ((.slice (some ⟨a0x1, 0, none⟩) 1 1), [⟨false, 0, 0⟩])] ([((.slice (some ⟨a0x0, 0, none⟩) 1 1), [⟨true, 0, 1⟩]), ((.slice (some ⟨a0x1, 0, none⟩) 1 1), [⟨false, 0, 0⟩])] : List KOp).length) := ⟨own_base' hW hb.size, cturn1_own (all_own (⟨O0x0.below hx6, ⟨O0x1.below hx6, trivial⟩⟩))⟩
 rw [e0] at hI
 generalize (fun (j : Nat) => ([.slice (some ⟨a0x0, 0, none⟩) 1 1, .slice (some ⟨a0x1, 0, none⟩) 1 1] : List Value).getD j undef) = u0 at hI
 have hb := below_then hb hx6
 have T0 := hI
 clear hI hT hW hx6 KR0 e0 O0x0 O0x1
 go_wp2_with fail
 refine (write_op 0 1 w6).mono ?_
 rintro e w7 ⟨rfl, hx7⟩
 have T0 := T0.below hx7
 have hb := below_then hb hx7
 clear hx7
 have O1x0 : Own (w7.alloc (.cells #[.bool true, .int .i64 0, .int .i64 1] 71)) w.heap.size (.slice (some ⟨w7.heap.size, 0, none⟩) 1 1) [⟨true, 0, 1⟩] := World.ownsRow_lit (base := w.heap.size) (e := 71) (size := 3) w7 #[.bool true, .int .i64 0, .int .i64 1] 1 hb.size (by decide) rfl
 have T0 := T0.below (box_below w7 (.cells #[.bool true, .int .i64 0, .int .i64 1] 71))
 have hb := below_then hb (box_below w7 (.cells #[.bool true, .int .i64 0, .int .i64 1] 71))
 go_wp2_with fail
 generalize w7.alloc (.cells #[.bool true, .int .i64 0, .int .i64 1] 71) = w8 at *
 generalize w7.heap.size = a1x0 at *
 refine (crow_any _ _ _ _).mono ?_
 rintro e wq ⟨rfl, rfl⟩
 go_wp2_with fail
 refine (read_any 0 1 w8).mono ?_
 rintro e w9 ⟨rfl, hx9⟩
 have T0 := T0.below hx9
 have O1x0 := O1x0.below hx9
 have hb := below_then hb hx9
 clear hx9
 go_wp2_with fail
 refine (write_op 1 2 w9).mono ?_
 rintro e w10 ⟨rfl, hx10⟩
 have T0 := T0.below hx10
 have O1x0 := O1x0.below hx10
 have hb := below_then hb hx10
 clear hx10
 have O1x1 : Own (w10.alloc (.cells #[.bool false, .int .i64 0, .int .i64 1, .bool true, .int .i64 1, .int .i64 2] 71)) w.heap.size (.slice (some ⟨w10.heap.size, 0, none⟩) 2 2) [⟨false, 0, 1⟩, ⟨true, 1, 2⟩] := World.ownsRow_lit (base := w.heap.size) (e := 71) (size := 3) w10 #[.bool false, .int .i64 0, .int .i64 1, .bool true, .int .i64 1, .int .i64 2] 2 hb.size (by decide) rfl
 have T0 := T0.below (box_below w10 (.cells #[.bool false, .int .i64 0, .int .i64 1, .bool true, .int .i64 1, .int .i64 2] 71))
 have O1x0 := O1x0.below (box_below w10 (.cells #[.bool false, .int .i64 0, .int .i64 1, .bool true, .int .i64 1, .int .i64 2] 71))
 have hb := below_then hb (box_below w10 (.cells #[.bool false, .int .i64 0, .int .i64 1, .bool true, .int .i64 1, .int .i64 2] 71))
 go_wp2_with fail
 generalize w10.alloc (.cells #[.bool false, .int .i64 0, .int .i64 1, .bool true, .int .i64 1, .int .i64 2] 71) = w11 at *
 generalize w10.heap.size = a1x1 at *
 refine (crow_any _ _ _ _).mono ?_
 rintro e wq ⟨rfl, rfl⟩
 go_wp2_with fail
 refine (read_any 1 2 w11).mono ?_
 rintro e w12 ⟨rfl, hx12⟩
 have T0 := T0.below hx12
 have O1x0 := O1x0.below hx12
 have O1x1 := O1x1.below hx12
 have hb := below_then hb hx12
 clear hx12
 go_wp2_with fail
 refine (read_any 0 0 w12).mono ?_
 rintro e w13 ⟨rfl, hx13⟩
 have T0 := T0.below hx13
 have O1x0 := O1x0.below hx13
 have O1x1 := O1x1.below hx13
 have hb := below_then hb hx13
 clear hx13
 have O1x2 : Own (w13.alloc (.cells #[.bool false, .int .i64 1, .int .i64 2, .bool false, .int .i64 0, .int .i64 0] 71)) w.heap.size (.slice (some ⟨w13.heap.size, 0, none⟩) 2 2) [⟨false, 1, 2⟩, ⟨false, 0, 0⟩] := World.ownsRow_lit (base := w.heap.size) (e := 71) (size := 3) w13 #[.bool false, .int .i64 1, .int .i64 2, .bool false, .int .i64 0, .int .i64 0] 2 hb.size (by decide) rfl
 have T0 := T0.below (box_below w13 (.cells #[.bool false, .int .i64 1, .int .i64 2, .bool false, .int .i64 0, .int .i64 0] 71))
 have O1x0 := O1x0.below (box_below w13 (.cells #[.bool false, .int .i64 1, .int .i64 2, .bool false, .int .i64 0, .int .i64 0] 71))
 have O1x1 := O1x1.below (box_below w13 (.cells #[.bool false, .int .i64 1, .int .i64 2, .bool false, .int .i64 0, .int .i64 0] 71))
 have hb := below_then hb (box_below w13 (.cells #[.bool false, .int .i64 1, .int .i64 2, .bool false, .int .i64 0, .int .i64 0] 71))
 go_wp2_with fail
 generalize w13.alloc (.cells #[.bool false, .int .i64 1, .int .i64 2, .bool false, .int .i64 0, .int .i64 0] 71) = w14 at *
 generalize w13.heap.size = a1x2 at *
 refine (crow_any _ _ _ _).mono ?_
 rintro e wq ⟨rfl, rfl⟩
 have T0 := T0.below (box_below w14 (.cells #[.slice (some ⟨a1x0, 0, none⟩) 1 1, .slice (some ⟨a1x1, 0, none⟩) 2 2, .slice (some ⟨a1x2, 0, none⟩) 2 2] 68))
 have O1x0 := O1x0.below (box_below w14 (.cells #[.slice (some ⟨a1x0, 0, none⟩) 1 1, .slice (some ⟨a1x1, 0, none⟩) 2 2, .slice (some ⟨a1x2, 0, none⟩) 2 2] 68))
 have O1x1 := O1x1.below (box_below w14 (.cells #[.slice (some ⟨a1x0, 0, none⟩) 1 1, .slice (some ⟨a1x1, 0, none⟩) 2 2, .slice (some ⟨a1x2, 0, none⟩) 2 2] 68))
 have O1x2 := O1x2.below (box_below w14 (.cells #[.slice (some ⟨a1x0, 0, none⟩) 1 1, .slice (some ⟨a1x1, 0, none⟩) 2 2, .slice (some ⟨a1x2, 0, none⟩) 2 2] 68))
 have hb := below_then hb (box_below w14 (.cells #[.slice (some ⟨a1x0, 0, none⟩) 1 1, .slice (some ⟨a1x1, 0, none⟩) 2 2, .slice (some ⟨a1x2, 0, none⟩) 2 2] 68))
 have KR1 : KRows (w14.alloc (.cells #[.slice (some ⟨a1x0, 0, none⟩) 1 1, .slice (some ⟨a1x1, 0, none⟩) 2 2, .slice (some ⟨a1x2, 0, none⟩) 2 2] 68)) (.slice (some ⟨w14.heap.size, 0, none⟩) 3 3) [((.slice (some ⟨a1x0, 0, none⟩) 1 1), [⟨true, 0, 1⟩]), ((.slice (some ⟨a1x1, 0, none⟩) 2 2), [⟨false, 0, 1⟩, ⟨true, 1, 2⟩]), ((.slice (some ⟨a1x2, 0, none⟩) 2 2), [⟨false, 1, 2⟩, ⟨false, 0, 0⟩])] := ⟨Row.of_owns (World.ownsRow_lit (base := 0) (e := 68) (size := 1) w14 #[.slice (some ⟨a1x0, 0, none⟩) 1 1, .slice (some ⟨a1x1, 0, none⟩) 2 2, .slice (some ⟨a1x2, 0, none⟩) 2 2] 3 (Nat.zero_le _) (by decide) rfl), krows_all (⟨O1x0.ops, ⟨O1x1.ops, ⟨O1x2.ops, trivial⟩⟩⟩)⟩
 go_wp2_with fail
 generalize w14.alloc (.cells #[.slice (some ⟨a1x0, 0, none⟩) 1 1, .slice (some ⟨a1x1, 0, none⟩) 2 2, .slice (some ⟨a1x2, 0, none⟩) 2 2] 68) = w15 at *
 generalize w14.heap.size = k1 at *
 refine (conce_any _ _ _ KR1 (by simp)).mono ?_
 rintro e w16 ⟨v1, rfl, hW, hT, hx16⟩
 obtain ⟨o1, n1, c1, rfl⟩ := txns_slice hT
 have e1 : onceL [((.slice (some ⟨a1x0, 0, none⟩) 1 1), [⟨true, 0, 1⟩]), ((.slice (some ⟨a1x1, 0, none⟩) 2 2), [⟨false, 0, 1⟩, ⟨true, 1, 2⟩]), ((.slice (some ⟨a1x2, 0, none⟩) 2 2), [⟨false, 1, 2⟩, ⟨false, 0, 0⟩])] ([((.slice (some ⟨a1x0, 0, none⟩) 1 1), [⟨true, 0, 1⟩]), ((.slice (some ⟨a1x1, 0, none⟩) 2 2), [⟨false, 0, 1⟩, ⟨true, 1, 2⟩]), ((.slice (some ⟨a1x2, 0, none⟩) 2 2), [⟨false, 1, 2⟩, ⟨false, 0, 0⟩])] : List KOp).length = catN 1 (fun (j : Nat) => ([.slice (some ⟨a1x0, 0, none⟩) 1 1, .slice (some ⟨a1x1, 0, none⟩) 2 2, .slice (some ⟨a1x2, 0, none⟩) 2 2] : List Value).getD j undef) := by kernel_rfl
 have hI : CatH w16 w.heap.size (.slice o1 n1 c1) (onceL [((.slice (some ⟨a1x0, 0, none⟩) 1 1), [⟨true, 0, 1⟩]), ((.slice (some ⟨a1x1, 0, none⟩) 2 2), [⟨false, 0, 1⟩, ⟨true, 1, 2⟩]), ((.slice (some ⟨a1x2, 0, none⟩) 2 2), [⟨false, 1, 2⟩, ⟨false, 0, 0⟩])] ([((.slice (some ⟨a1x0, 0, none⟩) 1 1), [⟨true, 0, 1⟩]), ((.slice (some ⟨a1x1, 0, none⟩) 2 2), [⟨false, 0, 1⟩, ⟨true, 1, 2⟩]), ((.slice (some ⟨a1x2, 0, none⟩) 2 2), [⟨false, 1, 2⟩, ⟨false, 0, 0⟩])] : List KOp).length) := ⟨own_base' hW hb.size, conce_own (all_own (⟨O1x0.below hx16, ⟨O1x1.below hx16, ⟨O1x2.below hx16, trivial⟩⟩⟩))⟩
 rw [e1] at hI
 generalize (fun (j : Nat) => ([.slice (some ⟨a1x0, 0, none⟩) 1 1, .slice (some ⟨a1x1, 0, none⟩) 2 2, .slice (some ⟨a1x2, 0, none⟩) 2 2] : List Value).getD j undef) = u1 at hI
 have T0 := T0.below hx16
 have hb := below_then hb hx16
 have T1 := hI
 clear hI hT hW hx16 KR1 e1 O1x0 O1x1 O1x2
 go_wp2_with fail
 refine (write_op 0 1 w16).mono ?_
 rintro e w17 ⟨rfl, hx17⟩
 have T0 := T0.below hx17
 have T1 := T1.below hx17
 have hb := below_then hb hx17
 clear hx17
 have O2x0 : Own (w17.alloc (.cells #[.bool true, .int .i64 0, .int .i64 1] 71)) w.heap.size (.slice (some ⟨w17.heap.size, 0, none⟩) 1 1) [⟨true, 0, 1⟩] := World.ownsRow_lit (base := w.heap.size) (e := 71) (size := 3) w17 #[.bool true, .int .i64 0, .int .i64 1] 1 hb.size (by decide) rfl
 have T0 := T0.below (box_below w17 (.cells #[.bool true, .int .i64 0, .int .i64 1] 71))
 have T1 := T1.below (box_below w17 (.cells #[.bool true, .int .i64 0, .int .i64 1] 71))
 have hb := below_then hb (box_below w17 (.cells #[.bool true, .int .i64 0, .int .i64 1] 71))
 go_wp2_with fail
 generalize w17.alloc (.cells #[.bool true, .int .i64 0, .int .i64 1] 71) = w18 at *
 generalize w17.heap.size = a2x0 at *
 refine (crow_any _ _ _ _).mono ?_
 rintro e wq ⟨rfl, rfl⟩
 go_wp2_with fail
 refine (write_op 1 2 w18).mono ?_
 rintro e w19 ⟨rfl, hx19⟩
 have T0 := T0.below hx19
 have T1 := T1.below hx19
 have O2x0 := O2x0.below hx19
 have hb := below_then hb hx19
 clear hx19
 have O2x1 : Own (w19.alloc (.cells #[.bool true, .int .i64 1, .int .i64 2] 71)) w.heap.size (.slice (some ⟨w19.heap.size, 0, none⟩) 1 1) [⟨true, 1, 2⟩] := World.ownsRow_lit (base := w.heap.size) (e := 71) (size := 3) w19 #[.bool true, .int .i64 1, .int .i64 2] 1 hb.size (by decide) rfl
 have T0 := T0.below (box_below w19 (.cells #[.bool true, .int .i64 1, .int .i64 2] 71))
 have T1 := T1.below (box_below w19 (.cells #[.bool true, .int .i64 1, .int .i64 2] 71))
 have O2x0 := O2x0.below (box_below w19 (.cells #[.bool true, .int .i64 1, .int .i64 2] 71))
 have hb := below_then hb (box_below w19 (.cells #[.bool true, .int .i64 1, .int .i64 2] 71))
 go_wp2_with fail
 generalize w19.alloc (.cells #[.bool true, .int .i64 1, .int .i64 2] 71) = w20 at *
 generalize w19.heap.size = a2x1 at *
 refine (crow_any _ _ _ _).mono ?_
 rintro e wq ⟨rfl, rfl⟩
 go_wp2_with fail
 refine (read_any 0 1 w20).mono ?_
 rintro e w21 ⟨rfl, hx21⟩
 have T0 := T0.below hx21
 have T1 := T1.below hx21
 have O2x0 := O2x0.below hx21
 have O2x1 := O2x1.below hx21
 have hb := below_then hb hx21
 clear hx21
 go_wp2_with fail
 refine (read_any 1 0 w21).mono ?_
 rintro e w22 ⟨rfl, hx22⟩
 have T0 := T0.below hx22
 have T1 := T1.below hx22
 have O2x0 := O2x0.below hx22
 have O2x1 := O2x1.below hx22
 have hb := below_then hb hx22
 clear hx22
 have O2x2 : Own (w22.alloc (.cells #[.bool false, .int .i64 0, .int .i64 1, .bool false, .int .i64 1, .int .i64 0] 71)) w.heap.size (.slice (some ⟨w22.heap.size, 0, none⟩) 2 2) [⟨false, 0, 1⟩, ⟨false, 1, 0⟩] := World.ownsRow_lit (base := w.heap.size) (e := 71) (size := 3) w22 #[.bool false, .int .i64 0, .int .i64 1, .bool false, .int .i64 1, .int .i64 0] 2 hb.size (by decide) rfl
 have T0 := T0.below (box_below w22 (.cells #[.bool false, .int .i64 0, .int .i64 1, .bool false, .int .i64 1, .int .i64 0] 71))
 have T1 := T1.below (box_below w22 (.cells #[.bool false, .int .i64 0, .int .i64 1, .bool false, .int .i64 1, .int .i64 0] 71))
 have O2x0 := O2x0.below (box_below w22 (.cells #[.bool false, .int .i64 0, .int .i64 1, .bool false, .int .i64 1, .int .i64 0] 71))
 have O2x1 := O2x1.below (box_below w22 (.cells #[.bool false, .int .i64 0, .int .i64 1, .bool false, .int .i64 1, .int .i64 0] 71))
 have hb := below_then hb (box_below w22 (.cells #[.bool false, .int .i64 0, .int .i64 1, .bool false, .int .i64 1, .int .i64 0] 71))
 go_wp2_with fail
 generalize w22.alloc (.cells #[.bool false, .int .i64 0, .int .i64 1, .bool false, .int .i64 1, .int .i64 0] 71) = w23 at *
 generalize w22.heap.size = a2x2 at *
 refine (crow_any _ _ _ _).mono ?_
 rintro e wq ⟨rfl, rfl⟩
 go_wp2_with fail
 refine (read_any 1 2 w23).mono ?_
 rintro e w24 ⟨rfl, hx24⟩
 have T0 := T0.below hx24
 have T1 := T1.below hx24
 have O2x0 := O2x0.below hx24
 have O2x1 := O2x1.below hx24
 have O2x2 := O2x2.below hx24
 have hb := below_then hb hx24
 clear hx24
 go_wp2_with fail
 refine (read_any 0 0 w24).mono ?_
 rintro e w25 ⟨rfl, hx25⟩
 have T0 := T0.below hx25
 have T1 := T1.below hx25
 have O2x0 := O2x0.below hx25
 have O2x1 := O2x1.below hx25
 have O2x2 := O2x2.below hx25
 have hb := below_then hb hx25
 clear hx25
 have O2x3 : Own (w25.alloc (.cells #[.bool false, .int .i64 1, .int .i64 2, .bool false, .int .i64 0, .int .i64 0] 71)) w.heap.size (.slice (some ⟨w25.heap.size, 0, none⟩) 2 2) [⟨false, 1, 2⟩, ⟨false, 0, 0⟩] := World.ownsRow_lit (base := w.heap.size) (e := 71) (size := 3) w25 #[.bool false, .int .i64 1, .int .i64 2, .bool false, .int .i64 0, .int .i64 0] 2 hb.size (by decide) rfl
 have T0 := T0.below (box_below w25 (.cells #[.bool false, .int .i64 1, .int .i64 2, .bool false, .int .i64 0, .int .i64 0] 71))
 have T1 := T1.below (box_below w25 (.cells #[.bool false, .int .i64 1, .int .i64 2, .bool false, .int .i64 0, .int .i64 0] 71))
 have O2x0 := O2x0.below (box_below w25 (.cells #[.bool false, .int .i64 1, .int .i64 2, .bool false, .int .i64 0, .int .i64 0] 71))
 have O2x1 := O2x1.below (box_below w25 (.cells #[.bool false, .int .i64 1, .int .i64 2, .bool false, .int .i64 0, .int .i64 0] 71))
 have O2x2 := O2x2.below (box_below w25 (.cells #[.bool false, .int .i64 1, .int .i64 2, .bool false, .int .i64 0, .int .i64 0] 71))
 have hb := below_then hb (box_below w25 (.cells #[.bool false, .int .i64 1, .int .i64 2, .bool false, .int .i64 0, .int .i64 0] 71))
 go_wp2_with fail
 generalize w25.alloc (.cells #[.bool false, .int .i64 1, .int .i64 2, .bool false, .int .i64 0, .int .i64 0] 71) = w26 at *
 generalize w25.heap.size = a2x3 at *
 refine (crow_any _ _ _ _).mono ?_
 rintro e wq ⟨rfl, rfl⟩
 have T0 := T0.below (box_below w26 (.cells #[.slice (some ⟨a2x0, 0, none⟩) 1 1, .slice (some ⟨a2x1, 0, none⟩) 1 1, .slice (some ⟨a2x2, 0, none⟩) 2 2, .slice (some ⟨a2x3, 0, none⟩) 2 2] 68))
 have T1 := T1.below (box_below w26 (.cells #[.slice (some ⟨a2x0, 0, none⟩) 1 1, .slice (some ⟨a2x1, 0, none⟩) 1 1, .slice (some ⟨a2x2, 0, none⟩) 2 2, .slice (some ⟨a2x3, 0, none⟩) 2 2] 68))
 have O2x0 := O2x0.below (box_below w26 (.cells #[.slice (some ⟨a2x0, 0, none⟩) 1 1, .slice (some ⟨a2x1, 0, none⟩) 1 1, .slice (some ⟨a2x2, 0, none⟩) 2 2, .slice (some ⟨a2x3, 0, none⟩) 2 2] 68))
 have O2x1 := O2x1.below (box_below w26 (.cells #[.slice (some ⟨a2x0, 0, none⟩) 1 1, .slice (some ⟨a2x1, 0, none⟩) 1 1, .slice (some ⟨a2x2, 0, none⟩) 2 2, .slice (some ⟨a2x3, 0, none⟩) 2 2] 68))
 have O2x2 := O2x2.below (box_below w26 (.cells #[.slice (some ⟨a2x0, 0, none⟩) 1 1, .slice (some ⟨a2x1, 0, none⟩) 1 1, .slice (some ⟨a2x2, 0, none⟩) 2 2, .slice (some ⟨a2x3, 0, none⟩) 2 2] 68))
 have O2x3 := O2x3.below (box_below w26 (.cells #[.slice (some ⟨a2x0, 0, none⟩) 1 1, .slice (some ⟨a2x1, 0, none⟩) 1 1, .slice (some ⟨a2x2, 0, none⟩) 2 2, .slice (some ⟨a2x3, 0, none⟩) 2 2] 68))
 have hb := below_then hb (box_below w26 (.cells #[.slice (some ⟨a2x0, 0, none⟩) 1 1, .slice (some ⟨a2x1, 0, none⟩) 1 1, .slice (some ⟨a2x2, 0, none⟩) 2 2, .slice (some ⟨a2x3, 0, none⟩) 2 2] 68))
 have KR2 : KRows (w26.alloc (.cells #[.slice (some ⟨a2x0, 0, none⟩) 1 1, .slice (some ⟨a2x1, 0, none⟩) 1 1, .slice (some ⟨a2x2, 0, none⟩) 2 2, .slice (some ⟨a2x3, 0, none⟩) 2 2] 68)) (.slice (some ⟨w26.heap.size, 0, none⟩) 4 4) [((.slice (some ⟨a2x0, 0, none⟩) 1 1), [⟨true, 0, 1⟩]), ((.slice (some ⟨a2x1, 0, none⟩) 1 1), [⟨true, 1, 2⟩]), ((.slice (some ⟨a2x2, 0, none⟩) 2 2), [⟨false, 0, 1⟩, ⟨false, 1, 0⟩]), ((.slice (some ⟨a2x3, 0, none⟩) 2 2), [⟨false, 1, 2⟩, ⟨false, 0, 0⟩])] := ⟨Row.of_owns (World.ownsRow_lit (base := 0) (e := 68) (size := 1) w26 #[.slice (some ⟨a2x0, 0, none⟩) 1 1, .slice (some ⟨a2x1, 0, none⟩) 1 1, .slice (some ⟨a2x2, 0, none⟩) 2 2, .slice (some ⟨a2x3, 0, none⟩) 2 2] 4 (Nat.zero_le _) (by decide) rfl), krows_all (⟨O2x0.ops, ⟨O2x1.ops, ⟨O2x2.ops, ⟨O2x3.ops, trivial⟩⟩⟩⟩)⟩
 go_wp2_with fail
 generalize w26.alloc (.cells #[.slice (some ⟨a2x0, 0, none⟩) 1 1, .slice (some ⟨a2x1, 0, none⟩) 1 1, .slice (some ⟨a2x2, 0, none⟩) 2 2, .slice (some ⟨a2x3, 0, none⟩) 2 2] 68) = w27 at *
 generalize w26.heap.size = k2 at *
 refine (conce_any _ _ _ KR2 (by simp)).mono ?_
 rintro e w28 ⟨v2, rfl, hW, hT, hx28⟩
 obtain ⟨o2, n2, c2, rfl⟩ := txns_slice hT
 have e2 : onceL [((.slice (some ⟨a2x0, 0, none⟩) 1 1), [⟨true, 0, 1⟩]), ((.slice (some ⟨a2x1, 0, none⟩) 1 1), [⟨true, 1, 2⟩]), ((.slice (some ⟨a2x2, 0, none⟩) 2 2), [⟨false, 0, 1⟩, ⟨false, 1, 0⟩]), ((.slice (some ⟨a2x3, 0, none⟩) 2 2), [⟨false, 1, 2⟩, ⟨false, 0, 0⟩])] ([((.slice (some ⟨a2x0, 0, none⟩) 1 1), [⟨true, 0, 1⟩]), ((.slice (some ⟨a2x1, 0, none⟩) 1 1), [⟨true, 1, 2⟩]), ((.slice (some ⟨a2x2, 0, none⟩) 2 2), [⟨false, 0, 1⟩, ⟨false, 1, 0⟩]), ((.slice (some ⟨a2x3, 0, none⟩) 2 2), [⟨false, 1, 2⟩, ⟨false, 0, 0⟩])] : List KOp).length = catN 2 (fun (j : Nat) => ([.slice (some ⟨a2x0, 0, none⟩) 1 1, .slice (some ⟨a2x1, 0, none⟩) 1 1, .slice (some ⟨a2x2, 0, none⟩) 2 2, .slice (some ⟨a2x3, 0, none⟩) 2 2] : List Value).getD j undef) := by kernel_rfl
 have hI : CatH w28 w.heap.size (.slice o2 n2 c2) (onceL [((.slice (some ⟨a2x0, 0, none⟩) 1 1), [⟨true, 0, 1⟩]), ((.slice (some ⟨a2x1, 0, none⟩) 1 1), [⟨true, 1, 2⟩]), ((.slice (some ⟨a2x2, 0, none⟩) 2 2), [⟨false, 0, 1⟩, ⟨false, 1, 0⟩]), ((.slice (some ⟨a2x3, 0, none⟩) 2 2), [⟨false, 1, 2⟩, ⟨false, 0, 0⟩])] ([((.slice (some ⟨a2x0, 0, none⟩) 1 1), [⟨true, 0, 1⟩]), ((.slice (some ⟨a2x1, 0, none⟩) 1 1), [⟨true, 1, 2⟩]), ((.slice (some ⟨a2x2, 0, none⟩) 2 2), [⟨false, 0, 1⟩, ⟨false, 1, 0⟩]), ((.slice (some ⟨a2x3, 0, none⟩) 2 2), [⟨false, 1, 2⟩, ⟨false, 0, 0⟩])] : List KOp).length) := ⟨own_base' hW hb.size, conce_own (all_own (⟨O2x0.below hx28, ⟨O2x1.below hx28, ⟨O2x2.below hx28, ⟨O2x3.below hx28, trivial⟩⟩⟩⟩))⟩
 rw [e2] at hI
 generalize (fun (j : Nat) => ([.slice (some ⟨a2x0, 0, none⟩) 1 1, .slice (some ⟨a2x1, 0, none⟩) 1 1, .slice (some ⟨a2x2, 0, none⟩) 2 2, .slice (some ⟨a2x3, 0, none⟩) 2 2] : List Value).getD j undef) = u2 at hI
 have T0 := T0.below hx28
 have T1 := T1.below hx28
 have hb := below_then hb hx28
 have T2 := hI
 clear hI hT hW hx28 KR2 e2 O2x0 O2x1 O2x2 O2x3
 go_wp2_with fail
 refine (read_any 0 0 w28).mono ?_
 rintro e w29 ⟨rfl, hx29⟩
 have T0 := T0.below hx29
 have T1 := T1.below hx29
 have T2 := T2.below hx29
 have hb := below_then hb hx29
 clear hx29
 go_wp2_with fail
 refine (write_op 0 1 w29).mono ?_
 rintro e w30 ⟨rfl, hx30⟩
 have T0 := T0.below hx30
 have T1 := T1.below hx30
 have T2 := T2.below hx30
 have hb := below_then hb hx30
 clear hx30
 have O3x0 : Own (w30.alloc (.cells #[.bool false, .int .i64 0, .int .i64 0, .bool true, .int .i64 0, .int .i64 1] 71)) w.heap.size (.slice (some ⟨w30.heap.size, 0, none⟩) 2 2) [⟨false, 0, 0⟩, ⟨true, 0, 1⟩] := World.ownsRow_lit (base := w.heap.size) (e := 71) (size := 3) w30 #[.bool false, .int .i64 0, .int .i64 0, .bool true, .int .i64 0, .int .i64 1] 2 hb.size (by decide) rfl
 have T0 := T0.below (box_below w30 (.cells #[.bool false, .int .i64 0, .int .i64 0, .bool true, .int .i64 0, .int .i64 1] 71))
 have T1 := T1.below (box_below w30 (.cells #[.bool false, .int .i64 0, .int .i64 0, .bool true, .int .i64 0, .int .i64 1] 71))
 have T2 := T2.below (box_below w30 (.cells #[.bool false, .int .i64 0, .int .i64 0, .bool true, .int .i64 0, .int .i64 1] 71))
 have hb := below_then hb (box_below w30 (.cells #[.bool false, .int .i64 0, .int .i64 0, .bool true, .int .i64 0, .int .i64 1] 71))
 go_wp2_with fail
 generalize w30.alloc (.cells #[.bool false, .int .i64 0, .int .i64 0, .bool true, .int .i64 0, .int .i64 1] 71) = w31 at *
 generalize w30.heap.size = a3x0 at *
 refine (crow_any _ _ _ _).mono ?_
 rintro e wq ⟨rfl, rfl⟩
 go_wp2_with fail
 refine (read_any 0 0 w31).mono ?_
 rintro e w32 ⟨rfl, hx32⟩
 have T0 := T0.below hx32
 have T1 := T1.below hx32
 have T2 := T2.below hx32
 have O3x0 := O3x0.below hx32
 have hb := below_then hb hx32
 clear hx32
 go_wp2_with fail
 refine (write_op 0 2 w32).mono ?_
 rintro e w33 ⟨rfl, hx33⟩
 have T0 := T0.below hx33
 have T1 := T1.below hx33
 have T2 := T2.below hx33
 have O3x0 := O3x0.below hx33
 have hb := below_then hb hx33
 clear hx33
 have O3x1 : Own (w33.alloc (.cells #[.bool false, .int .i64 0, .int .i64 0, .bool true, .int .i64 0, .int .i64 2] 71)) w.heap.size (.slice (some ⟨w33.heap.size, 0, none⟩) 2 2) [⟨false, 0, 0⟩, ⟨true, 0, 2⟩] := World.ownsRow_lit (base := w.heap.size) (e := 71) (size := 3) w33 #[.bool false, .int .i64 0, .int .i64 0, .bool true, .int .i64 0, .int .i64 2] 2 hb.size (by decide) rfl
 have T0 := T0.below (box_below w33 (.cells #[.bool false, .int .i64 0, .int .i64 0, .bool true, .int .i64 0, .int .i64 2] 71))
 have T1 := T1.below (box_below w33 (.cells #[.bool false, .int .i64 0, .int .i64 0, .bool true, .int .i64 0, .int .i64 2] 71))
 have T2 := T2.below (box_below w33 (.cells #[.bool false, .int .i64 0, .int .i64 0, .bool true, .int .i64 0, .int .i64 2] 71))
 have O3x0 := O3x0.below (box_below w33 (.cells #[.bool false, .int .i64 0, .int .i64 0, .bool true, .int .i64 0, .int .i64 2] 71))
 have hb := below_then hb (box_below w33 (.cells #[.bool false, .int .i64 0, .int .i64 0, .bool true, .int .i64 0, .int .i64 2] 71))
 go_wp2_with fail
 generalize w33.alloc (.cells #[.bool false, .int .i64 0, .int .i64 0, .bool true, .int .i64 0, .int .i64 2] 71) = w34 at *
 generalize w33.heap.size = a3x1 at *
 refine (crow_any _ _ _ _).mono ?_
 rintro e wq ⟨rfl, rfl⟩
 have T0 := T0.below (box_below w34 (.cells #[.slice (some ⟨a3x0, 0, none⟩) 2 2, .slice (some ⟨a3x1, 0, none⟩) 2 2] 68))
 have T1 := T1.below (box_below w34 (.cells #[.slice (some ⟨a3x0, 0, none⟩) 2 2, .slice (some ⟨a3x1, 0, none⟩) 2 2] 68))
 have T2 := T2.below (box_below w34 (.cells #[.slice (some ⟨a3x0, 0, none⟩) 2 2, .slice (some ⟨a3x1, 0, none⟩) 2 2] 68))
 have O3x0 := O3x0.below (box_below w34 (.cells #[.slice (some ⟨a3x0, 0, none⟩) 2 2, .slice (some ⟨a3x1, 0, none⟩) 2 2] 68))
 have O3x1 := O3x1.below (box_below w34 (.cells #[.slice (some ⟨a3x0, 0, none⟩) 2 2, .slice (some ⟨a3x1, 0, none⟩) 2 2] 68))
 have hb := below_then hb (box_below w34 (.cells #[.slice (some ⟨a3x0, 0, none⟩) 2 2, .slice (some ⟨a3x1, 0, none⟩) 2 2] 68))
 have KR3 : KRows (w34.alloc (.cells #[.slice (some ⟨a3x0, 0, none⟩) 2 2, .slice (some ⟨a3x1, 0, none⟩) 2 2] 68)) (.slice (some ⟨w34.heap.size, 0, none⟩) 2 2) [((.slice (some ⟨a3x0, 0, none⟩) 2 2), [⟨false, 0, 0⟩, ⟨true, 0, 1⟩]), ((.slice (some ⟨a3x1, 0, none⟩) 2 2), [⟨false, 0, 0⟩, ⟨true, 0, 2⟩])] := ⟨Row.of_owns (World.ownsRow_lit (base := 0) (e := 68) (size := 1) w34 #[.slice (some ⟨a3x0, 0, none⟩) 2 2, .slice (some ⟨a3x1, 0, none⟩) 2 2] 2 (Nat.zero_le _) (by decide) rfl), krows_all (⟨O3x0.ops, ⟨O3x1.ops, trivial⟩⟩)⟩
 go_wp2_with fail
 generalize w34.alloc (.cells #[.slice (some ⟨a3x0, 0, none⟩) 2 2, .slice (some ⟨a3x1, 0, none⟩) 2 2] 68) = w35 at *
 generalize w34.heap.size = k3 at *
 refine (conce_any _ _ _ KR3 (by simp)).mono ?_
 rintro e w36 ⟨v3, rfl, hW, hT, hx36⟩
 obtain ⟨o3, n3, c3, rfl⟩ := txns_slice hT
 have e3 : onceL [((.slice (some ⟨a3x0, 0, none⟩) 2 2), [⟨false, 0, 0⟩, ⟨true, 0, 1⟩]), ((.slice (some ⟨a3x1, 0, none⟩) 2 2), [⟨false, 0, 0⟩, ⟨true, 0, 2⟩])] ([((.slice (some ⟨a3x0, 0, none⟩) 2 2), [⟨false, 0, 0⟩, ⟨true, 0, 1⟩]), ((.slice (some ⟨a3x1, 0, none⟩) 2 2), [⟨false, 0, 0⟩, ⟨true, 0, 2⟩])] : List KOp).length = catN 3 (fun (j : Nat) => ([.slice (some ⟨a3x0, 0, none⟩) 2 2, .slice (some ⟨a3x1, 0, none⟩) 2 2] : List Value).getD j undef) := by kernel_rfl
 have hI : CatH w36 w.heap.size (.slice o3 n3 c3) (onceL [((.slice (some ⟨a3x0, 0, none⟩) 2 2), [⟨false, 0, 0⟩, ⟨true, 0, 1⟩]), ((.slice (some ⟨a3x1, 0, none⟩) 2 2), [⟨false, 0, 0⟩, ⟨true, 0, 2⟩])] ([((.slice (some ⟨a3x0, 0, none⟩) 2 2), [⟨false, 0, 0⟩, ⟨true, 0, 1⟩]), ((.slice (some ⟨a3x1, 0, none⟩) 2 2), [⟨false, 0, 0⟩, ⟨true, 0, 2⟩])] : List KOp).length) := ⟨own_base' hW hb.size, conce_own (all_own (⟨O3x0.below hx36, ⟨O3x1.below hx36, trivial⟩⟩))⟩
 rw [e3] at hI
 generalize (fun (j : Nat) => ([.slice (some ⟨a3x0, 0, none⟩) 2 2, .slice (some ⟨a3x1, 0, none⟩) 2 2] : List Value).getD j undef) = u3 at hI
 have T0 := T0.below hx36
 have T1 := T1.below hx36
 have T2 := T2.below hx36
 have hb := below_then hb hx36
 have T3 := hI
 clear hI hT hW hx36 KR3 e3 O3x0 O3x1
 go_wp2_with fail
 refine (read_any 1 0 w36).mono ?_
 rintro e w37 ⟨rfl, hx37⟩
 have T0 := T0.below hx37
 have T1 := T1.below hx37
 have T2 := T2.below hx37
 have T3 := T3.below hx37
 have hb := below_then hb hx37
 clear hx37
 go_wp2_with fail
 refine (write_op 0 1 w37).mono ?_
 rintro e w38 ⟨rfl, hx38⟩
 have T0 := T0.below hx38
 have T1 := T1.below hx38
 have T2 := T2.below hx38
 have T3 := T3.below hx38
 have hb := below_then hb hx38
 clear hx38
 have O4x0 : Own (w38.alloc (.cells #[.bool false, .int .i64 1, .int .i64 0, .bool true, .int .i64 0, .int .i64 1] 71)) w.heap.size (.slice (some ⟨w38.heap.size, 0, none⟩) 2 2) [⟨false, 1, 0⟩, ⟨true, 0, 1⟩] := World.ownsRow_lit (base := w.heap.size) (e := 71) (size := 3) w38 #[.bool false, .int .i64 1, .int .i64 0, .bool true, .int .i64 0, .int .i64 1] 2 hb.size (by decide) rfl
 have T0 := T0.below (box_below w38 (.cells #[.bool false, .int .i64 1, .int .i64 0, .bool true, .int .i64 0, .int .i64 1] 71))
 have T1 := T1.below (box_below w38 (.cells #[.bool false, .int .i64 1, .int .i64 0, .bool true, .int .i64 0, .int .i64 1] 71))
 have T2 := T2.below (box_below w38 (.cells #[.bool false, .int .i64 1, .int .i64 0, .bool true, .int .i64 0, .int .i64 1] 71))
 have T3 := T3.below (box_below w38 (.cells #[.bool false, .int .i64 1, .int .i64 0, .bool true, .int .i64 0, .int .i64 1] 71))
 have hb := below_then hb (box_below w38 (.cells #[.bool false, .int .i64 1, .int .i64 0, .bool true, .int .i64 0, .int .i64 1] 71))
 go_wp2_with fail
 generalize w38.alloc (.cells #[.bool false, .int .i64 1, .int .i64 0, .bool true, .int .i64 0, .int .i64 1] 71) = w39 at *
 generalize w38.heap.size = a4x0 at *
 refine (crow_any _ _ _ _).mono ?_
 rintro e wq ⟨rfl, rfl⟩
 go_wp2_with fail
 refine (read_any 0 0 w39).mono ?_
 rintro e w40 ⟨rfl, hx40⟩
 have T0 := T0.below hx40
 have T1 := T1.below hx40
 have T2 := T2.below hx40
 have T3 := T3.below hx40
 have O4x0 := O4x0.below hx40
 have hb := below_then hb hx40
 clear hx40
 go_wp2_with fail
 refine (write_op 1 2 w40).mono ?_
 rintro e w41 ⟨rfl, hx41⟩
 have T0 := T0.below hx41
 have T1 := T1.below hx41
 have T2 := T2.below hx41
 have T3 := T3.below hx41
 have O4x0 := O4x0.below hx41
 have hb := below_then hb hx41
 clear hx41
 have O4x1 : Own (w41.alloc (.cells #[.bool false, .int .i64 0, .int .i64 0, .bool true, .int .i64 1, .int .i64 2] 71)) w.heap.size (.slice (some ⟨w41.heap.size, 0, none⟩) 2 2) [⟨false, 0, 0⟩, ⟨true, 1, 2⟩] := World.ownsRow_lit (base := w.heap.size) (e := 71) (size := 3) w41 #[.bool false, .int .i64 0, .int .i64 0, .bool true, .int .i64 1, .int .i64 2] 2 hb.size (by decide) rfl
 have T0 := T0.below (box_below w41 (.cells #[.bool false, .int .i64 0, .int .i64 0, .bool true, .int .i64 1, .int .i64 2] 71))
 have T1 := T1.below (box_below w41 (.cells #[.bool false, .int .i64 0, .int .i64 0, .bool true, .int .i64 1, .int .i64 2] 71))
 have T2 := T2.below (box_below w41 (.cells #[.bool false, .int .i64 0, .int .i64 0, .bool true, .int .i64 1, .int .i64 2] 71))
 have T3 := T3.below (box_below w41 (.cells #[.bool false, .int .i64 0, .int .i64 0, .bool true, .int .i64 1, .int .i64 2] 71))
 have O4x0 := O4x0.below (box_below w41 (.cells #[.bool false, .int .i64 0, .int .i64 0, .bool true, .int .i64 1, .int .i64 2] 71))
 have hb := below_then hb (box_below w41 (.cells #[.bool false, .int .i64 0, .int .i64 0, .bool true, .int .i64 1, .int .i64 2] 71))
 go_wp2_with fail
 generalize w41.alloc (.cells #[.bool false, .int .i64 0, .int .i64 0, .bool true, .int .i64 1, .int .i64 2] 71) = w42 at *
 generalize w41.heap.size = a4x1 at *
 refine (crow_any _ _ _ _).mono ?_
 rintro e wq ⟨rfl, rfl⟩
 have T0 := T0.below (box_below w42 (.cells #[.slice (some ⟨a4x0, 0, none⟩) 2 2, .slice (some ⟨a4x1, 0, none⟩) 2 2] 68))
 have T1 := T1.below (box_below w42 (.cells #[.slice (some ⟨a4x0, 0, none⟩) 2 2, .slice (some ⟨a4x1, 0, none⟩) 2 2] 68))
 have T2 := T2.below (box_below w42 (.cells #[.slice (some ⟨a4x0, 0, none⟩) 2 2, .slice (some ⟨a4x1, 0, none⟩) 2 2] 68))
 have T3 := T3.below (box_below w42 (.cells #[.slice (some ⟨a4x0, 0, none⟩) 2 2, .slice (some ⟨a4x1, 0, none⟩) 2 2] 68))
 have O4x0 := O4x0.below (box_below w42 (.cells #[.slice (some ⟨a4x0, 0, none⟩) 2 2, .slice (some ⟨a4x1, 0, none⟩) 2 2] 68))
 have O4x1 := O4x1.below (box_below w42 (.cells #[.slice (some ⟨a4x0, 0, none⟩) 2 2, .slice (some ⟨a4x1, 0, none⟩) 2 2] 68))
 have hb := below_then hb (box_below w42 (.cells #[.slice (some ⟨a4x0, 0, none⟩) 2 2, .slice (some ⟨a4x1, 0, none⟩) 2 2] 68))
 have KR4 : KRows (w42.alloc (.cells #[.slice (some ⟨a4x0, 0, none⟩) 2 2, .slice (some ⟨a4x1, 0, none⟩) 2 2] 68)) (.slice (some ⟨w42.heap.size, 0, none⟩) 2 2) [((.slice (some ⟨a4x0, 0, none⟩) 2 2), [⟨false, 1, 0⟩, ⟨true, 0, 1⟩]), ((.slice (some ⟨a4x1, 0, none⟩) 2 2), [⟨false, 0, 0⟩, ⟨true, 1, 2⟩])] := ⟨Row.of_owns (World.ownsRow_lit (base := 0) (e := 68) (size := 1) w42 #[.slice (some ⟨a4x0, 0, none⟩) 2 2, .slice (some ⟨a4x1, 0, none⟩) 2 2] 2 (Nat.zero_le _) (by decide) rfl), krows_all (⟨O4x0.ops, ⟨O4x1.ops, trivial⟩⟩)⟩
 go_wp2_with fail
 generalize w42.alloc (.cells #[.slice (some ⟨a4x0, 0, none⟩) 2 2, .slice (some ⟨a4x1, 0, none⟩) 2 2] 68) = w43 at *
 generalize w42.heap.size = k4 at *
 refine (conce_any _ _ _ KR4 (by simp)).mono ?_
 rintro e w44 ⟨v4, rfl, hW, hT, hx44⟩
 obtain ⟨o4, n4, c4, rfl⟩ := txns_slice hT
 have e4 : onceL [((.slice (some ⟨a4x0, 0, none⟩) 2 2), [⟨false, 1, 0⟩, ⟨true, 0, 1⟩]), ((.slice (some ⟨a4x1, 0, none⟩) 2 2), [⟨false, 0, 0⟩, ⟨true, 1, 2⟩])] ([((.slice (some ⟨a4x0, 0, none⟩) 2 2), [⟨false, 1, 0⟩, ⟨true, 0, 1⟩]), ((.slice (some ⟨a4x1, 0, none⟩) 2 2), [⟨false, 0, 0⟩, ⟨true, 1, 2⟩])] : List KOp).length = catN 4 (fun (j : Nat) => ([.slice (some ⟨a4x0, 0, none⟩) 2 2, .slice (some ⟨a4x1, 0, none⟩) 2 2] : List Value).getD j undef) := by kernel_rfl
 have hI : CatH w44 w.heap.size (.slice o4 n4 c4) (onceL [((.slice (some ⟨a4x0, 0, none⟩) 2 2), [⟨false, 1, 0⟩, ⟨true, 0, 1⟩]), ((.slice (some ⟨a4x1, 0, none⟩) 2 2), [⟨false, 0, 0⟩, ⟨true, 1, 2⟩])] ([((.slice (some ⟨a4x0, 0, none⟩) 2 2), [⟨false, 1, 0⟩, ⟨true, 0, 1⟩]), ((.slice (some ⟨a4x1, 0, none⟩) 2 2), [⟨false, 0, 0⟩, ⟨true, 1, 2⟩])] : List KOp).length) := ⟨own_base' hW hb.size, conce_own (all_own (⟨O4x0.below hx44, ⟨O4x1.below hx44, trivial⟩⟩))⟩
 rw [e4] at hI
 generalize (fun (j : Nat) => ([.slice (some ⟨a4x0, 0, none⟩) 2 2, .slice (some ⟨a4x1, 0, none⟩) 2 2] : List Value).getD j undef) = u4 at hI
 have T0 := T0.below hx44
 have T1 := T1.below hx44
 have T2 := T2.below hx44
 have T3 := T3.below hx44
 have hb := below_then hb hx44
 have T4 := hI
 clear hI hT hW hx44 KR4 e4 O4x0 O4x1
 go_wp2_with fail
 refine (write_op 0 1 w44).mono ?_
 rintro e w45 ⟨rfl, hx45⟩
 have T0 := T0.below hx45
 have T1 := T1.below hx45
 have T2 := T2.below hx45
 have T3 := T3.below hx45
 have T4 := T4.below hx45
 have hb := below_then hb hx45
 clear hx45
 have O5x0 : Own (w45.alloc (.cells #[.bool true, .int .i64 0, .int .i64 1] 71)) w.heap.size (.slice (some ⟨w45.heap.size, 0, none⟩) 1 1) [⟨true, 0, 1⟩] := World.ownsRow_lit (base := w.heap.size) (e := 71) (size := 3) w45 #[.bool true, .int .i64 0, .int .i64 1] 1 hb.size (by decide) rfl
 have T0 := T0.below (box_below w45 (.cells #[.bool true, .int .i64 0, .int .i64 1] 71))
 have T1 := T1.below (box_below w45 (.cells #[.bool true, .int .i64 0, .int .i64 1] 71))
 have T2 := T2.below (box_below w45 (.cells #[.bool true, .int .i64 0, .int .i64 1] 71))
 have T3 := T3.below (box_below w45 (.cells #[.bool true, .int .i64 0, .int .i64 1] 71))
 have T4 := T4.below (box_below w45 (.cells #[.bool true, .int .i64 0, .int .i64 1] 71))
 have hb := below_then hb (box_below w45 (.cells #[.bool true, .int .i64 0, .int .i64 1] 71))
 go_wp2_with fail
 generalize w45.alloc (.cells #[.bool true, .int .i64 0, .int .i64 1] 71) = w46 at *
 generalize w45.heap.size = a5x0 at *
 refine (crow_any _ _ _ _).mono ?_
 rintro e wq ⟨rfl, rfl⟩
 go_wp2_with fail
 refine (read_any 0 0 w46).mono ?_
 rintro e w47 ⟨rfl, hx47⟩
 have T0 := T0.below hx47
 have T1 := T1.below hx47
 have T2 := T2.below hx47
 have T3 := T3.below hx47
 have T4 := T4.below hx47
 have O5x0 := O5x0.below hx47
 have hb := below_then hb hx47
 clear hx47
 have O5x1 : Own (w47.alloc (.cells #[.bool false, .int .i64 0, .int .i64 0] 71)) w.heap.size (.slice (some ⟨w47.heap.size, 0, none⟩) 1 1) [⟨false, 0, 0⟩] := World.ownsRow_lit (base := w.heap.size) (e := 71) (size := 3) w47 #[.bool false, .int .i64 0, .int .i64 0] 1 hb.size (by decide) rfl
 have T0 := T0.below (box_below w47 (.cells #[.bool false, .int .i64 0, .int .i64 0] 71))
 have T1 := T1.below (box_below w47 (.cells #[.bool false, .int .i64 0, .int .i64 0] 71))
 have T2 := T2.below (box_below w47 (.cells #[.bool false, .int .i64 0, .int .i64 0] 71))
 have T3 := T3.below (box_below w47 (.cells #[.bool false, .int .i64 0, .int .i64 0] 71))
 have T4 := T4.below (box_below w47 (.cells #[.bool false, .int .i64 0, .int .i64 0] 71))
 have O5x0 := O5x0.below (box_below w47 (.cells #[.bool false, .int .i64 0, .int .i64 0] 71))
 have hb := below_then hb (box_below w47 (.cells #[.bool false, .int .i64 0, .int .i64 0] 71))
 go_wp2_with fail
 generalize w47.alloc (.cells #[.bool false, .int .i64 0, .int .i64 0] 71) = w48 at *
 generalize w47.heap.size = a5x1 at *
 refine (crow_any _ _ _ _).mono ?_
 rintro e wq ⟨rfl, rfl⟩
 have T0 := T0.below (box_below w48 (.cells #[.slice (some ⟨a5x0, 0, none⟩) 1 1, .slice (some ⟨a5x1, 0, none⟩) 1 1] 68))
 have T1 := T1.below (box_below w48 (.cells #[.slice (some ⟨a5x0, 0, none⟩) 1 1, .slice (some ⟨a5x1, 0, none⟩) 1 1] 68))
 have T2 := T2.below (box_below w48 (.cells #[.slice (some ⟨a5x0, 0, none⟩) 1 1, .slice (some ⟨a5x1, 0, none⟩) 1 1] 68))
 have T3 := T3.below (box_below w48 (.cells #[.slice (some ⟨a5x0, 0, none⟩) 1 1, .slice (some ⟨a5x1, 0, none⟩) 1 1] 68))
 have T4 := T4.below (box_below w48 (.cells #[.slice (some ⟨a5x0, 0, none⟩) 1 1, .slice (some ⟨a5x1, 0, none⟩) 1 1] 68))
 have O5x0 := O5x0.below (box_below w48 (.cells #[.slice (some ⟨a5x0, 0, none⟩) 1 1, .slice (some ⟨a5x1, 0, none⟩) 1 1] 68))
 have O5x1 := O5x1.below (box_below w48 (.cells #[.slice (some ⟨a5x0, 0, none⟩) 1 1, .slice (some ⟨a5x1, 0, none⟩) 1 1] 68))
 have hb := below_then hb (box_below w48 (.cells #[.slice (some ⟨a5x0, 0, none⟩) 1 1, .slice (some ⟨a5x1, 0, none⟩) 1 1] 68))
 have KR5 : KRows (w48.alloc (.cells #[.slice (some ⟨a5x0, 0, none⟩) 1 1, .slice (some ⟨a5x1, 0, none⟩) 1 1] 68)) (.slice (some ⟨w48.heap.size, 0, none⟩) 2 2) [((.slice (some ⟨a5x0, 0, none⟩) 1 1), [⟨true, 0, 1⟩]), ((.slice (some ⟨a5x1, 0, none⟩) 1 1), [⟨false, 0, 0⟩])] := ⟨Row.of_owns (World.ownsRow_lit (base := 0) (e := 68) (size := 1) w48 #[.slice (some ⟨a5x0, 0, none⟩) 1 1, .slice (some ⟨a5x1, 0, none⟩) 1 1] 2 (Nat.zero_le _) (by decide) rfl), krows_all (⟨O5x0.ops, ⟨O5x1.ops, trivial⟩⟩)⟩
 go_wp2_with fail
 generalize w48.alloc (.cells #[.slice (some ⟨a5x0, 0, none⟩) 1 1, .slice (some ⟨a5x1, 0, none⟩) 1 1] 68) = w49 at *
 generalize w48.heap.size = k5 at *
 refine (cturn2_any _ _ _ KR5 (by simp)).mono ?_
 rintro e w50 ⟨v5, rfl, hW, hT, hx50⟩
 obtain ⟨o5, n5, c5, rfl⟩ := txns_slice hT
 have e5 : turn2 [((.slice (some ⟨a5x0, 0, none⟩) 1 1), [⟨true, 0, 1⟩]), ((.slice (some ⟨a5x1, 0, none⟩) 1 1), [⟨false, 0, 0⟩])] ([((.slice (some ⟨a5x0, 0, none⟩) 1 1), [⟨true, 0, 1⟩]), ((.slice (some ⟨a5x1, 0, none⟩) 1 1), [⟨false, 0, 0⟩])] : List KOp).length = catN 5 (fun (j : Nat) => ([.slice (some ⟨a5x0, 0, none⟩) 1 1, .slice (some ⟨a5x1, 0, none⟩) 1 1] : List Value).getD j undef) := by kernel_rfl
 have hI : CatH w50 w.heap.size (.slice o5 n5 c5) (turn2 [((.slice (some ⟨a5x0, 0, none⟩) 1 1), [⟨true, 0, 1⟩]), ((.slice (some ⟨a5x1, 0, none⟩) 1 1), [⟨false, 0, 0⟩])] ([((.slice (some ⟨a5x0, 0, none⟩) 1 1), [⟨true, 0, 1⟩]), ((.slice (some ⟨a5x1, 0, none⟩) 1 1), [⟨false, 0, 0⟩])] : List KOp).length) := ⟨own_base' hW hb.size, cturn2_own (all_own (⟨O5x0.below hx50, ⟨O5x1.below hx50, trivial⟩⟩))⟩
 rw [e5] at hI
 generalize (fun (j : Nat) => ([.slice (some ⟨a5x0, 0, none⟩) 1 1, .slice (some ⟨a5x1, 0, none⟩) 1 1] : List Value).getD j undef) = u5 at hI
 have T0 := T0.below hx50
 have T1 := T1.below hx50
 have T2 := T2.below hx50
 have T3 := T3.below hx50
 have T4 := T4.below hx50
 have hb := below_then hb hx50
 have T5 := hI
 clear hI hT hW hx50 KR5 e5 O5x0 O5x1
 have T0 := T0.below (box_below w50 (.cells #[.string ⟨#[111, 119, 110, 32, 119, 114, 105, 116, 101, 32, 117, 110, 115, 101, 101, 110]⟩, .slice o0 n0 c0, .int .i64 1, .string ⟨#[99, 97, 117, 115, 101, 32, 117, 110, 115, 101, 101, 110]⟩, .slice o1 n1 c1, .int .i64 2, .string ⟨#[108, 111, 110, 103, 32, 102, 111, 114, 107]⟩, .slice o2 n2 c2, .int .i64 4, .string ⟨#[108, 111, 115, 116, 32, 117, 112, 100, 97, 116, 101]⟩, .slice o3 n3 c3, .int .i64 8, .string ⟨#[119, 114, 105, 116, 101, 32, 115, 107, 101, 119]⟩, .slice o4 n4 c4, .int .i64 16, .string ⟨#[115, 116, 97, 108, 101, 32, 114, 101, 97, 100]⟩, .slice o5 n5 c5, .int .i64 32] 42))
 have T1 := T1.below (box_below w50 (.cells #[.string ⟨#[111, 119, 110, 32, 119, 114, 105, 116, 101, 32, 117, 110, 115, 101, 101, 110]⟩, .slice o0 n0 c0, .int .i64 1, .string ⟨#[99, 97, 117, 115, 101, 32, 117, 110, 115, 101, 101, 110]⟩, .slice o1 n1 c1, .int .i64 2, .string ⟨#[108, 111, 110, 103, 32, 102, 111, 114, 107]⟩, .slice o2 n2 c2, .int .i64 4, .string ⟨#[108, 111, 115, 116, 32, 117, 112, 100, 97, 116, 101]⟩, .slice o3 n3 c3, .int .i64 8, .string ⟨#[119, 114, 105, 116, 101, 32, 115, 107, 101, 119]⟩, .slice o4 n4 c4, .int .i64 16, .string ⟨#[115, 116, 97, 108, 101, 32, 114, 101, 97, 100]⟩, .slice o5 n5 c5, .int .i64 32] 42))
 have T2 := T2.below (box_below w50 (.cells #[.string ⟨#[111, 119, 110, 32, 119, 114, 105, 116, 101, 32, 117, 110, 115, 101, 101, 110]⟩, .slice o0 n0 c0, .int .i64 1, .string ⟨#[99, 97, 117, 115, 101, 32, 117, 110, 115, 101, 101, 110]⟩, .slice o1 n1 c1, .int .i64 2, .string ⟨#[108, 111, 110, 103, 32, 102, 111, 114, 107]⟩, .slice o2 n2 c2, .int .i64 4, .string ⟨#[108, 111, 115, 116, 32, 117, 112, 100, 97, 116, 101]⟩, .slice o3 n3 c3, .int .i64 8, .string ⟨#[119, 114, 105, 116, 101, 32, 115, 107, 101, 119]⟩, .slice o4 n4 c4, .int .i64 16, .string ⟨#[115, 116, 97, 108, 101, 32, 114, 101, 97, 100]⟩, .slice o5 n5 c5, .int .i64 32] 42))
 have T3 := T3.below (box_below w50 (.cells #[.string ⟨#[111, 119, 110, 32, 119, 114, 105, 116, 101, 32, 117, 110, 115, 101, 101, 110]⟩, .slice o0 n0 c0, .int .i64 1, .string ⟨#[99, 97, 117, 115, 101, 32, 117, 110, 115, 101, 101, 110]⟩, .slice o1 n1 c1, .int .i64 2, .string ⟨#[108, 111, 110, 103, 32, 102, 111, 114, 107]⟩, .slice o2 n2 c2, .int .i64 4, .string ⟨#[108, 111, 115, 116, 32, 117, 112, 100, 97, 116, 101]⟩, .slice o3 n3 c3, .int .i64 8, .string ⟨#[119, 114, 105, 116, 101, 32, 115, 107, 101, 119]⟩, .slice o4 n4 c4, .int .i64 16, .string ⟨#[115, 116, 97, 108, 101, 32, 114, 101, 97, 100]⟩, .slice o5 n5 c5, .int .i64 32] 42))
 have T4 := T4.below (box_below w50 (.cells #[.string ⟨#[111, 119, 110, 32, 119, 114, 105, 116, 101, 32, 117, 110, 115, 101, 101, 110]⟩, .slice o0 n0 c0, .int .i64 1, .string ⟨#[99, 97, 117, 115, 101, 32, 117, 110, 115, 101, 101, 110]⟩, .slice o1 n1 c1, .int .i64 2, .string ⟨#[108, 111, 110, 103, 32, 102, 111, 114, 107]⟩, .slice o2 n2 c2, .int .i64 4, .string ⟨#[108, 111, 115, 116, 32, 117, 112, 100, 97, 116, 101]⟩, .slice o3 n3 c3, .int .i64 8, .string ⟨#[119, 114, 105, 116, 101, 32, 115, 107, 101, 119]⟩, .slice o4 n4 c4, .int .i64 16, .string ⟨#[115, 116, 97, 108, 101, 32, 114, 101, 97, 100]⟩, .slice o5 n5 c5, .int .i64 32] 42))
 have T5 := T5.below (box_below w50 (.cells #[.string ⟨#[111, 119, 110, 32, 119, 114, 105, 116, 101, 32, 117, 110, 115, 101, 101, 110]⟩, .slice o0 n0 c0, .int .i64 1, .string ⟨#[99, 97, 117, 115, 101, 32, 117, 110, 115, 101, 101, 110]⟩, .slice o1 n1 c1, .int .i64 2, .string ⟨#[108, 111, 110, 103, 32, 102, 111, 114, 107]⟩, .slice o2 n2 c2, .int .i64 4, .string ⟨#[108, 111, 115, 116, 32, 117, 112, 100, 97, 116, 101]⟩, .slice o3 n3 c3, .int .i64 8, .string ⟨#[119, 114, 105, 116, 101, 32, 115, 107, 101, 119]⟩, .slice o4 n4 c4, .int .i64 16, .string ⟨#[115, 116, 97, 108, 101, 32, 114, 101, 97, 100]⟩, .slice o5 n5 c5, .int .i64 32] 42))
 have hb := below_then hb (box_below w50 (.cells #[.string ⟨#[111, 119, 110, 32, 119, 114, 105, 116, 101, 32, 117, 110, 115, 101, 101, 110]⟩, .slice o0 n0 c0, .int .i64 1, .string ⟨#[99, 97, 117, 115, 101, 32, 117, 110, 115, 101, 101, 110]⟩, .slice o1 n1 c1, .int .i64 2, .string ⟨#[108, 111, 110, 103, 32, 102, 111, 114, 107]⟩, .slice o2 n2 c2, .int .i64 4, .string ⟨#[108, 111, 115, 116, 32, 117, 112, 100, 97, 116, 101]⟩, .slice o3 n3 c3, .int .i64 8, .string ⟨#[119, 114, 105, 116, 101, 32, 115, 107, 101, 119]⟩, .slice o4 n4 c4, .int .i64 16, .string ⟨#[115, 116, 97, 108, 101, 32, 114, 101, 97, 100]⟩, .slice o5 n5 c5, .int .i64 32] 42))
 have hn := heap_alloc_new w50 (.cells #[.string ⟨#[111, 119, 110, 32, 119, 114, 105, 116, 101, 32, 117, 110, 115, 101, 101, 110]⟩, .slice o0 n0 c0, .int .i64 1, .string ⟨#[99, 97, 117, 115, 101, 32, 117, 110, 115, 101, 101, 110]⟩, .slice o1 n1 c1, .int .i64 2, .string ⟨#[108, 111, 110, 103, 32, 102, 111, 114, 107]⟩, .slice o2 n2 c2, .int .i64 4, .string ⟨#[108, 111, 115, 116, 32, 117, 112, 100, 97, 116, 101]⟩, .slice o3 n3 c3, .int .i64 8, .string ⟨#[119, 114, 105, 116, 101, 32, 115, 107, 101, 119]⟩, .slice o4 n4 c4, .int .i64 16, .string ⟨#[115, 116, 97, 108, 101, 32, 114, 101, 97, 100]⟩, .slice o5 n5 c5, .int .i64 32] 42)
 have HF := hid (cat_made w50 42 (fun i => if i = 0 then .slice o0 n0 c0 else if i = 1 then .slice o1 n1 c1 else if i = 2 then .slice o2 n2 c2 else if i = 3 then .slice o3 n3 c3 else if i = 4 then .slice o4 n4 c4 else .slice o5 n5 c5))
 have HTT := hid (And.intro T0 (And.intro T1 (And.intro T2 (And.intro T3 (And.intro T4 T5)))))
 clear T0 T1 T2 T3 T4 T5 hn
 go_wp2_with fail
 go_ret
 refine ⟨⟨_, (fun i => if i = 0 then .slice o0 n0 c0 else if i = 1 then .slice o1 n1 c1 else if i = 2 then .slice o2 n2 c2 else if i = 3 then .slice o3 n3 c3 else if i = 4 then .slice o4 n4 c4 else .slice o5 n5 c5), (fun i => if i = 0 then u0 else if i = 1 then u1 else if i = 2 then u2 else if i = 3 then u3 else if i = 4 then u4 else u5), rfl, HF.out, fun i hi => ?_⟩, hb⟩
 obtain ⟨T0, T1, T2, T3, T4, T5⟩ := HTT.out
 rcases (by omega : i = 0 ∨ i = 1 ∨ i = 2 ∨ i = 3 ∨ i = 4 ∨ i = 5) with rfl | rfl | rfl | rfl | rfl | rfl
 ·exact T0
 ·exact T1
 ·exact T2
 ·exact T3
 ·exact T4
 ·exact T5
end

section
open Go.RowKit
def catF (a b : Int) : Option Nat := if (isLv a && isLv b) = true then (List.range 6).find? (fun i => (missN a b).testBit i) else none
theorem missN_lt (a b : Int) : missN a b < 64 := by
 unfold missN
 exact Nat.xor_lt_two_pow (n := 6) (askN_lt b) (Nat.lt_of_le_of_lt Nat.and_le_left (askN_lt b))
theorem range_find {p : Nat → Bool} {n k : Nat} (hk : k < n) (hn : ∀ j, j < k → p j = false) (hp : p k = true) : (List.range n).find? p = some k := by
 obtain ⟨d, rfl⟩ : ∃ d, n = k + (d + 1) := ⟨n - k - 1, by omega⟩
 rw [List.range_add, List.find?_append, List.find?_eq_none.2 (fun j hj => by rw [hn j (List.mem_range.1 hj)]; simp), Option.none_or]
 rw [List.range_succ_eq_map, List.map_cons, List.find?_cons]
 simp [hp]
theorem range_none {p : Nat → Bool} {n : Nat} (hn : ∀ j, j < n → p j = false) : (List.range n).find? p = none := List.find?_eq_none.2 (fun j hj => by rw [hn j (List.mem_range.1 hj)]; simp)
theorem catF_none {a b : Int} (h : impB a b = true) : catF a b = none := by
 unfold impB at h
 simp only [Bool.and_eq_true, decide_eq_true_eq] at h
 unfold catF
 rw [if_pos (by rw [h.1, h.2.1]; rfl), h.2.2]
 exact range_none fun j _ => Nat.zero_testBit j
theorem catF_off {a b : Int} (h : (isLv a && isLv b) = false) : catF a b = none := by unfold catF; rw [if_neg (by rw [h]; simp)]
theorem catF_some {a b : Int} (hl : (isLv a && isLv b) = true) (h : impB a b = false) : ∃ i, i < 6 ∧ catF a b = some i ∧ (missN a b).testBit i = true ∧ ∀ j, j < i → (missN a b).testBit j = false := by
 have hl2 := hl
 rw [Bool.and_eq_true] at hl2
 have hm : missN a b ≠ 0 := fun e => by
  unfold impB at h
  rw [hl2.1, hl2.2, e] at h
  simp at h
 unfold catF
 rw [if_pos hl]
 cases hf : (List.range 6).find? (fun i => (missN a b).testBit i) with
 | none =>
  exact (hm (Nat.eq_of_testBit_eq fun i => by
   rw [Nat.zero_testBit]
   by_cases hi : i < 6
   ·have := List.find?_eq_none.1 hf i (List.mem_range.2 hi)
    simpa using this
   ·exact Nat.testBit_lt_two_pow (Nat.lt_of_lt_of_le (missN_lt a b) (Nat.pow_le_pow_right (n := 2) (by omega) (show 6 ≤ i by omega))))).elim
 | some i =>
  have hi := List.mem_range.1 (List.mem_of_find?_eq_some hf)
  refine ⟨i, hi, rfl, List.find?_some hf, fun j hj => ?_⟩
  cases e : (missN a b).testBit j with
  | false => rfl
  | true =>
   obtain ⟨k, hk, hb⟩ : ∃ k, k ≤ j ∧ ((missN a b).testBit k = true ∧ ∀ m, m < k → (missN a b).testBit m = false) := by
    have key : ∀ n, (∃ k, k ≤ n ∧ (missN a b).testBit k = true) → ∃ k, k ≤ n ∧ ((missN a b).testBit k = true ∧ ∀ m, m < k → (missN a b).testBit m = false) := by
     intro n
     induction n with
     | zero => rintro ⟨k, hk, h⟩; exact ⟨k, hk, h, fun m hm => by omega⟩
     | succ n ih =>
      rintro ⟨k, hk, h⟩
      by_cases q : ∃ k, k ≤ n ∧ (missN a b).testBit k = true
      ·obtain ⟨k, h1, h2⟩ := ih q
       exact ⟨k, by omega, h2⟩
      ·exact ⟨k, hk, h, fun m hm => by
        cases e : (missN a b).testBit m with
        | false => rfl
        | true => exact (q ⟨m, by omega, e⟩).elim⟩
    exact key j ⟨j, Nat.le_refl _, e⟩
   have hg := range_find (n := 6) (p := fun i => (missN a b).testBit i) (show k < 6 by omega) hb.2 hb.1
   rw [hf] at hg
   injection hg with hg
   omega
structure EntAt (w : World) (g : Nat) (s : ByteArray) (v : Value) (m : Int) : Prop where
 c0 : w.cell? ⟨g, 0, none⟩ = some (.string s)
 c1 : w.cell? ⟨g, 1, none⟩ = some v
 c2 : w.cell? ⟨g, 2, none⟩ = some (.int .i64 m)
 f0 : w.frozen? ⟨g, 0, none⟩ = false
 f1 : w.frozen? ⟨g, 1, none⟩ = false
 f2 : w.frozen? ⟨g, 2, none⟩ = false
theorem EntAt.made (w : World) (s : ByteArray) (v : Value) (m : Int) (t : TypeId) : EntAt (w.alloc (.cells #[.string s, v, .int .i64 m] t)) w.heap.size s v m := by
 have hn := heap_alloc_new w (.cells #[.string s, v, .int .i64 m] t)
 refine ⟨?_, ?_, ?_, frozen_of_row _ _ _ _ _ hn, frozen_of_row _ _ _ _ _ hn, frozen_of_row _ _ _ _ _ hn⟩ <;> (rw [cell_of_row _ _ _ _ _ _ hn]; rfl)
section
variable {w w' : World} {g : Nat} {s : ByteArray} {v : Value} {m : Int}
theorem EntAt.lt (h : EntAt w g s v m) : g < w.heap.size := block_lt h.c0
theorem EntAt.below {B : Nat} (h : EntAt w g s v m) (hb : Below B w w') (hB : g < B) : EntAt w' g s v m :=
 ⟨(hb.cell (p := ⟨g, 0, none⟩) hB).trans h.c0, (hb.cell (p := ⟨g, 1, none⟩) hB).trans h.c1, (hb.cell (p := ⟨g, 2, none⟩) hB).trans h.c2, (hb.frozen (p := ⟨g, 0, none⟩) hB).trans h.f0, (hb.frozen (p := ⟨g, 1, none⟩) hB).trans h.f1, (hb.frozen (p := ⟨g, 2, none⟩) hB).trans h.f2⟩
theorem EntAt.set (h : EntAt w g s v m) (s' : ByteArray) (v' : Value) (m' : Int) : EntAt (((w.setCell ⟨g, 0, none⟩ (.string s')).setCell ⟨g, 1, none⟩ v').setCell ⟨g, 2, none⟩ (.int .i64 m')) g s' v' m' := by
 refine ⟨?_, ?_, ?_, ?_, ?_, ?_⟩
 ·rw [World.cell?_setCell_other _ _ _ _ (by simp), World.cell?_setCell_other _ _ _ _ (by simp), World.cell?_setCell_same _ _ _ h.c0]
 ·rw [World.cell?_setCell_other _ _ _ _ (by simp)]
  exact World.cell?_setCell_same _ _ _ (by rw [World.cell?_setCell_other _ _ _ _ (by simp)]; exact h.c1)
 ·exact World.cell?_setCell_same _ _ _ (by rw [World.cell?_setCell_other _ _ _ _ (by simp), World.cell?_setCell_other _ _ _ _ (by simp)]; exact h.c2)
 all_goals (rw [World.frozen?_setCell, World.frozen?_setCell, World.frozen?_setCell])
 ·exact h.f0
 ·exact h.f1
 ·exact h.f2
end
def CatRes (a b : Int) (b0 : Nat) (e : Ending) (w' : World) : Prop := match catF a b with
 | none => e = .returned (.tuple #[.agg #[.string ByteArray.empty, .slice none 0 0, .int .i64 0], .bool false])
 | some i => ∃ v u, e = .returned (.tuple #[.agg #[.string (catS i), v, .int .i64 ((2 ^ i : Nat) : Int)], .bool true]) ∧ CatH w' b0 v (catN i u)
theorem cat_bit (i : Nat) (hi : i < 6) (a b : Int) : ((bits .and .i64 ((2 ^ i : Nat) : Int) ((missN a b : Nat) : Int)) != 0) = (missN a b).testBit i := by
 have hm := missN_lt a b
 have hp : 2 ^ i < 9223372036854775808 := Nat.lt_of_lt_of_le (Nat.pow_lt_pow_right (a := 2) (by omega) hi) (by decide)
 have e : bits .and .i64 ((2 ^ i : Nat) : Int) ((missN a b : Nat) : Int) = ((2 ^ i &&& missN a b : Nat) : Int) := i64_and_nat _ _ hp (by omega)
 rw [e, Nat.and_comm]
 have := nat_bit (missN a b) i
 cases h : (missN a b).testBit i with
 | false => rw [this.2 h]; rfl
 | true =>
  rw [bne_iff_ne]
  intro q
  have q2 : missN a b &&& 2 ^ i = 0 := by omega
  rw [this.1 q2] at h
  cases h
theorem cfind_any (a b : Int) (w : World) (hK : Kinds w) : Calls Tryd.prog 17 #[.int .i64 a, .int .i64 b] w fun e w' => CatRes a b w.heap.size e w' ∧ Below w.heap.size w w' := by
 have hbx := box_below w (.cells #[.string ByteArray.empty, .slice none 0 0, .int .i64 0] 42)
 have hs1 : (w.alloc (.cells #[.string ByteArray.empty, .slice none 0 0, .int .i64 0] 42)).heap.size = w.heap.size + 1 := by simp
 have E0 := EntAt.made w ByteArray.empty (.slice none 0 0) 0 42
 have CA := hid (fun wx => lis_any a wx)
 have CB := hid (fun wx => lis_any b wx)
 have CM := hid (lmiss_any a b _ (hK.below hbx))
 have CL := hid (fun wx => call_any wx)
 have HBX := hid hbx
 have HE0 := hid E0
 have hz : (({ data := #[] } : ByteArray)) = ByteArray.empty := rfl
 clear hK hbx E0
 go_enter Tryd.func17, Tryd.ntmps17
 go_upto_region 1 with fail
 clear hz
 generalize w.alloc (.cells #[.string ByteArray.empty, .slice none 0 0, .int .i64 0] 42) = w1 at *
 have HE := HE0.out
 have hb1 := HBX.out
 cases ha : isLv a with
 | false =>
  have HCF : Hid (catF a b = none) := hid (catF_off (by rw [ha]; rfl))
  rw [ha] at CA
  clear CB CM CL ha HE0 HBX
  go_wp2_with fail
  refine (CA.out _).mono ?_
  rintro e wq ⟨rfl, rfl⟩
  clear CA
  have HE9 := hid (HE.set ⟨#[]⟩ (.slice none 0 0) 0)
  have HB9 := hid (((hb1.setCell (p := ⟨w.heap.size, 0, none⟩) (Nat.le_refl _) (.string ⟨#[]⟩)).setCell (p := ⟨w.heap.size, 1, none⟩) (Nat.le_refl _) (.slice none 0 0)).setCell (p := ⟨w.heap.size, 2, none⟩) (Nat.le_refl _) (.int .i64 0))
  have HF : Hid (CatRes a b w.heap.size (.returned (.tuple #[.agg #[.string ⟨#[]⟩, .slice none 0 0, .int .i64 0], .bool false])) ((((w1).setCell ⟨w.heap.size, 0, none⟩ (.string ⟨#[]⟩)).setCell ⟨w.heap.size, 1, none⟩ (.slice none 0 0)).setCell ⟨w.heap.size, 2, none⟩ (.int .i64 0))) := hid (by unfold CatRes; rw [HCF.out]; rfl)
  obtain ⟨k0, k1, k2, k3, k4, k5⟩ := HE
  go_wp2_with fail
  obtain ⟨d0, d1, d2, _, _, _⟩ := HE9.out
  refine bodyPost_ret (v := .tuple #[.agg #[.string ⟨#[]⟩, .slice none 0 0, .int .i64 0], .bool false]) ?_ rfl ⟨HF.out, HB9.out⟩
  simp [results, Tryd.results17, go_sem, d0, d1, d2]
 | true =>
  rw [ha] at CA
  cases hb : isLv b with
  | false =>
   have HCF : Hid (catF a b = none) := hid (catF_off (by rw [ha, hb]; rfl))
   rw [hb] at CB
   clear CM CL ha hb HE0 HBX
   go_wp2_with fail
   refine (CA.out _).mono ?_
   rintro e wq ⟨rfl, rfl⟩
   go_wp2_with fail
   refine (CB.out _).mono ?_
   rintro e wq ⟨rfl, rfl⟩
   clear CA CB
   have HE9 := hid (HE.set ⟨#[]⟩ (.slice none 0 0) 0)
   have HB9 := hid (((hb1.setCell (p := ⟨w.heap.size, 0, none⟩) (Nat.le_refl _) (.string ⟨#[]⟩)).setCell (p := ⟨w.heap.size, 1, none⟩) (Nat.le_refl _) (.slice none 0 0)).setCell (p := ⟨w.heap.size, 2, none⟩) (Nat.le_refl _) (.int .i64 0))
   have HF : Hid (CatRes a b w.heap.size (.returned (.tuple #[.agg #[.string ⟨#[]⟩, .slice none 0 0, .int .i64 0], .bool false])) ((((w1).setCell ⟨w.heap.size, 0, none⟩ (.string ⟨#[]⟩)).setCell ⟨w.heap.size, 1, none⟩ (.slice none 0 0)).setCell ⟨w.heap.size, 2, none⟩ (.int .i64 0))) := hid (by unfold CatRes; rw [HCF.out]; rfl)
   obtain ⟨k0, k1, k2, k3, k4, k5⟩ := HE
   go_wp2_with fail
   obtain ⟨d0, d1, d2, _, _, _⟩ := HE9.out
   refine bodyPost_ret (v := .tuple #[.agg #[.string ⟨#[]⟩, .slice none 0 0, .int .i64 0], .bool false]) ?_ rfl ⟨HF.out, HB9.out⟩
   simp [results, Tryd.results17, go_sem, d0, d1, d2]
  | true =>
   have HCN : Hid (∀ i, i < 6 → (∀ j, j < i → (missN a b).testBit j = false) → (missN a b).testBit i = true → catF a b = some i) := hid (fun i hi h1 h2 => by unfold catF; rw [if_pos (by rw [ha, hb]; rfl)]; exact range_find hi h1 h2)
   have HCO : Hid ((∀ j, j < 6 → (missN a b).testBit j = false) → catF a b = none) := hid (fun h1 => by unfold catF; rw [if_pos (by rw [ha, hb]; rfl)]; exact range_none h1)
   rw [hb] at CB
   have HBIT := hid (fun i hi => cat_bit i hi a b)
   have HML := hid (missN_lt a b)
   clear ha hb HE0 HBX
   go_wp2_with fail
   refine (CA.out _).mono ?_
   rintro e wq ⟨rfl, rfl⟩
   go_wp2_with fail
   refine (CB.out _).mono ?_
   rintro e wq ⟨rfl, rfl⟩
   clear CA CB
   go_wp2_with fail
   refine CM.out.mono ?_
   rintro e wq ⟨rfl, rfl⟩
   clear CM
   go_wp2_with fail
   refine (CL.out _).mono ?_
   rintro e w2 ⟨⟨g, vs, us, rfl, hC, hT⟩, h2⟩
   have hg1 := HE.lt
   have HE := HE.below h2 HE.lt
   have hb2 := below_then hb1 h2
   have HCT := hid (fun wx (hx : Below w2.heap.size w2 wx) => hC.below hx)
   have HTT := hid (fun i hi wx (hx : Below w2.heap.size w2 wx) => (hT i hi).below hx)
   have HVF := hid (fun i (hi : i < 6) => txns_slice (hT i hi).txns)
   have HS2 := hid (show w.heap.size < w2.heap.size by have := h2.size; omega)
   clear CL hC hT h2 hb1 hg1
   go_wp2_with fail
   generalize hmm : missN a b = mm at *
   go_loopw [23] (fun i wr => ∃ k : Nat, k ≤ 6 ∧ i = .int .i64 (k : Int) ∧ Hid (∀ j, j < k → mm.testBit j = false) ∧ EntAt wr w.heap.size ByteArray.empty (.slice none 0 0) 0 ∧ Below w2.heap.size w2 wr) (fun i _ => 6 - (intOf i).toNat)
   case atStart => exact ⟨0, by omega, rfl, hid (fun j hj => by omega), HE, Below.refl _ _⟩
   case round =>
    obtain ⟨k, hk, rfl, HN, HE, hbr⟩ := hrel
    by_cases hlt : k < 6
    ·have hki : (k : Int) < 6 := by omega
     obtain ⟨c0, c1, c2⟩ := HCT.out wr hbr k hlt
     obtain ⟨oo, nn, cc, hv⟩ := HVF.out k hlt
     rw [hv] at c1
     have hbt := HBIT.out k hlt
     have hd0 : decide ((k : Int) < 0) = false := decide_eq_false (by omega)
     have hd1 : decide ((6 : Int) ≤ (k : Int)) = false := decide_eq_false (by omega)
     have hd2 : decide (6 ≤ k) = false := decide_eq_false (by omega)
     have hx := box_below wr (.cells #[.string (catS k), .slice oo nn cc, .int .i64 ((2 ^ k : Nat) : Int)] 42)
     have hE := EntAt.made wr (catS k) (.slice oo nn cc) ((2 ^ k : Nat) : Int) 42
     have HER := HE.below hx HE.lt
     have hbx := below_then hbr hx
     have HTK := hid (fun wx (hxx : Below w2.heap.size w2 wx) => by have h := HTT.out k hlt wx hxx; rw [hv] at h; exact h)
     generalize h2k : (((2 ^ k : Nat)) : Int) = tk at *
     have H2K := hid h2k
     clear HE hx hv h2k
     have hlw := hE.lt
     have hneq : w.heap.size < wr.heap.size := by have := HS2.out; have := hbr.size; omega
     go_upto_region 7 with fail
     generalize wr.alloc (.cells #[.string (catS k), .slice oo nn cc, .int .i64 tk] 42) = w3 at *
     generalize wr.heap.size = x3 at *
     obtain ⟨m0, m1, m2, _, _, _⟩ := hE
     cases htb : mm.testBit k with
     | false =>
      rw [htb] at hbt
      have HN2 : Hid (∀ j, j < k + 1 → mm.testBit j = false) := hid (fun j hj => by
       by_cases e : j = k
       ·rw [e]; exact htb
       ·exact HN.out j (by omega))
      clear htb HN
      go_wp2_with fail
      go_roundw
      case rel => exact ⟨k + 1, by omega, by go_num, HN2, HER, hbx⟩
      case measure => simp [intOf]; omega
     | true =>
      rw [htb] at hbt
      subst hmm
      have HCF := hid (HCN.out k hlt HN.out htb)
      have HE9 := hid (HER.set (catS k) (.slice oo nn cc) tk)
      have HB9 := hid ((((below_then hb2 hbx).setCell (p := ⟨w.heap.size, 0, none⟩) (Nat.le_refl _) (.string (catS k))).setCell (p := ⟨w.heap.size, 1, none⟩) (Nat.le_refl _) (.slice oo nn cc)).setCell (p := ⟨w.heap.size, 2, none⟩) (Nat.le_refl _) (.int .i64 tk))
      have HT9 := hid ((((HTK.out _ hbx).far (p := ⟨w.heap.size, 0, none⟩) (by show w.heap.size < w1.heap.size; omega) (.string (catS k))).far (p := ⟨w.heap.size, 1, none⟩) (by show w.heap.size < w1.heap.size; omega) (.slice oo nn cc)).far (p := ⟨w.heap.size, 2, none⟩) (by show w.heap.size < w1.heap.size; omega) (.int .i64 tk))
      clear htb HN HCN HCO
      obtain ⟨k0, k1, k2, k3, k4, k5⟩ := HER
      go_wp2_with fail
      obtain ⟨d0, d1, d2, _, _, _⟩ := HE9.out
      refine bodyPost_ret (v := .tuple #[.agg #[.string (catS k), .slice oo nn cc, .int .i64 tk], .bool true]) ?_ rfl ⟨?_, HB9.out⟩
      ·simp [results, Tryd.results17, go_sem, d0, d1, d2]
      ·unfold CatRes
       rw [HCF.out]
       exact ⟨_, _, by rw [← H2K.out], HT9.out.base (by omega)⟩
    ·obtain rfl : k = 6 := by omega
     have hki : ¬ ((6 : Nat) : Int) < 6 := by omega
     subst hmm
     have HCF : Hid (catF a b = none) := hid (HCO.out HN.out)
     have hbz := below_then hb2 hbr
     clear HCN HCO HBIT HN HTT HCT HVF
     have HE9 := hid (HE.set ⟨#[]⟩ (.slice none 0 0) 0)
     have HB9 := hid (((hbz.setCell (p := ⟨w.heap.size, 0, none⟩) (Nat.le_refl _) (.string ⟨#[]⟩)).setCell (p := ⟨w.heap.size, 1, none⟩) (Nat.le_refl _) (.slice none 0 0)).setCell (p := ⟨w.heap.size, 2, none⟩) (Nat.le_refl _) (.int .i64 0))
     have HF : Hid (CatRes a b w.heap.size (.returned (.tuple #[.agg #[.string ⟨#[]⟩, .slice none 0 0, .int .i64 0], .bool false])) ((((wr).setCell ⟨w.heap.size, 0, none⟩ (.string ⟨#[]⟩)).setCell ⟨w.heap.size, 1, none⟩ (.slice none 0 0)).setCell ⟨w.heap.size, 2, none⟩ (.int .i64 0))) := hid (by unfold CatRes; rw [HCF.out]; rfl)
     obtain ⟨k0, k1, k2, k3, k4, k5⟩ := HE
     go_wp2_with fail
     obtain ⟨d0, d1, d2, _, _, _⟩ := HE9.out
     refine bodyPost_ret (v := .tuple #[.agg #[.string ⟨#[]⟩, .slice none 0 0, .int .i64 0], .bool false]) ?_ rfl ⟨HF.out, HB9.out⟩
     simp [results, Tryd.results17, go_sem, d0, d1, d2]
end

section
open Go.RowKit
theorem catRes_some {a b : Int} {b0 i : Nat} {e : Ending} {w : World} (hf : catF a b = some i) (h : CatRes a b b0 e w) : ∃ oo nn cc u, e = .returned (.tuple #[.agg #[.string (catS i), .slice oo nn cc, .int .i64 ((2 ^ i : Nat) : Int)], .bool true]) ∧ CatH w b0 (.slice oo nn cc) (catN i u) := by
 unfold CatRes at h
 rw [hf] at h
 obtain ⟨v, u, h1, h2⟩ := h
 obtain ⟨oo, nn, cc, rfl⟩ := txns_slice h2.txns
 exact ⟨oo, nn, cc, u, h1, h2⟩
theorem catRes_none {a b : Int} {b0 : Nat} {e : Ending} {w : World} (hf : catF a b = none) (h : CatRes a b b0 e w) : e = .returned (.tuple #[.agg #[.string ⟨#[]⟩, .slice none 0 0, .int .i64 0], .bool false]) := by
 unfold CatRes at h
 rw [hf] at h
 exact h
theorem cat_67 : catF 6 7 = some 4 := by decide +kernel
theorem cat_76 : catF 7 6 = none := by decide +kernel
theorem speaks20_any (w : World) (hK : Kinds w) :
  Calls Tryd.prog 16 #[] w fun e w' => e = .returned (.bool true) ∧ Below w.heap.size w w' := by
 have C1 := hid (cfind_any 6 7 w hK)
 have C2 := hid (fun wx (hx : Below w.heap.size w wx) => cfind_any 7 6 wx (hK.below hx))
 have CL := hid (fun wx => call_any wx)
 clear hK
 go_enter Tryd.func16, Tryd.ntmps16
 go_wp2_with fail
 refine C1.out.mono ?_
 rintro e w1 ⟨hres, hb1⟩
 obtain ⟨o1, n1, c1, u1, rfl, _⟩ := catRes_some cat_67 hres
 rw [show ((2 ^ 4 : Nat) : Int) = 16 from rfl, show catS 4 = ⟨#[119, 114, 105, 116, 101, 32, 115, 107, 101, 119]⟩ from rfl]
 have hE1 := EntAt.made w1 ⟨#[119, 114, 105, 116, 101, 32, 115, 107, 101, 119]⟩ (.slice o1 n1 c1) 16 42
 have hx1 := box_below w1 (.cells #[.string ⟨#[119, 114, 105, 116, 101, 32, 115, 107, 101, 119]⟩, .slice o1 n1 c1, .int .i64 16] 42)
 have hb2 := below_then hb1 hx1
 clear C1 hres hb1 hx1
 go_upto_region 2 with fail
 generalize w1.alloc (.cells #[.string ⟨#[119, 114, 105, 116, 101, 32, 115, 107, 101, 119]⟩, .slice o1 n1 c1, .int .i64 16] 42) = w2 at *
 generalize w1.heap.size = g1 at *
 go_wp2_with fail
 refine (C2.out _ hb2).mono ?_
 rintro e w3 ⟨hres, h3⟩
 obtain rfl := catRes_none cat_76 hres
 have hx3 := box_below w3 (.cells #[.string ⟨#[]⟩, .slice none 0 0, .int .i64 0] 42)
 have hE1 := (hE1.below h3 hE1.lt)
 have hE1 := hE1.below hx3 hE1.lt
 have hb4 := below_then (below_then hb2 h3) hx3
 clear C2 hres h3 hx3 hb2
 go_upto_region 3 with fail
 generalize w3.alloc (.cells #[.string ⟨#[]⟩, .slice none 0 0, .int .i64 0] 42) = w4 at *
 obtain ⟨k0, k1, k2, _, _, _⟩ := hE1
 go_wp2_with fail
 refine (CL.out _).mono ?_
 rintro e w5 ⟨⟨g, vs, us, rfl, _, _⟩, h5⟩
 have hz := below_then hb4 h5
 clear k0 k1 k2 CL h5
 go_wp2_with fail
 go_ret
 exact ⟨rfl, hz⟩
end

end Go.Proofs.YtmcicfdnmfbimaaDoor
