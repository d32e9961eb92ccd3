/- The walk of table.All: the rows of what each level implies. Conditions: the table of the levels lies where it is laid. -/
import Derived.Test.YtecofmcfniicoaaDoorTblB
import Derived.Deep.MidRow
namespace Go.Proofs.YtecofmcfniicoaaDoor
set_option maxRecDepth 100000
open Go.RowKit

/-- The cells of twelve rows; a block that holds them. -/
def tabV (R : Nat → Nat → Bool) : List Value := (List.range 144).map fun i => Value.bool (R (i / 12) (i % 12))
theorem tabV_len (R : Nat → Nat → Bool) : (tabV R).length = 144 := by simp [tabV]
theorem tabV_at (R : Nat → Nat → Bool) {i : Nat} (hi : i < 144) : (tabV R)[i]? = some (.bool (R (i / 12) (i % 12))) := by simp [tabV, hi]
def TblAt (w : World) (g : Nat) (R : Nat → Nat → Bool) : Prop := w.rangeAt g 0 (tabV R) ∧ w.there g 0 144
theorem TblAt.lt {w : World} {g : Nat} {R : Nat → Nat → Bool} (h : TblAt w g R) : g < w.heap.size := block_lt' (h.1 0 _ (tabV_at R (by omega)))
theorem TblAt.below {w w' : World} {g B : Nat} {R : Nat → Nat → Bool} (h : TblAt w g R) (hb : Below B w w') (hB : g < B) : TblAt w' g R :=
  ⟨fun j v hv => by rw [hb.cell (p := ⟨g, 0 + j, none⟩) hB]; exact h.1 j v hv, fun j hj => by rw [hb.cell (p := ⟨g, 0 + j, none⟩) hB, hb.frozen (p := ⟨g, 0 + j, none⟩) hB]; exact h.2 j hj⟩
def rowIn (R : Nat → Nat → Bool) (a : Nat) (r : Nat → Bool) : Nat → Nat → Bool := fun i j => if i = a then r j else R i j
theorem TblAt.there {w : World} {g : Nat} {R : Nat → Nat → Bool} (h : TblAt w g R) {a : Nat} (ha : a < 12) (r : Nat → Bool) : w.there g (a * 12) (rowB r).size := fun j hj => by
  rw [rowB_size] at hj
  have := h.2 (a * 12 + j) (by omega)
  simpa using this
theorem TblAt.store {w : World} {g : Nat} {R : Nat → Nat → Bool} (h : TblAt w g R) {a : Nat} (ha : a < 12) (r : Nat → Bool) : TblAt (w.setCells g (a * 12) (rowB r).toList) g (rowIn R a r) := by
  have hl : (rowB r).toList.length = 12 := by simp [rowB_size]
  have hth := h.there ha r
  rw [rowB_size] at hth
  refine ⟨fun j v hv => ?_, World.there_setCells h.2 _ _ _⟩
  have hj : j < 144 := by
    have := (List.getElem?_eq_some_iff.1 hv).1
    rwa [tabV_len] at this
  rw [tabV_at _ hj] at hv
  obtain rfl := Option.some.inj hv
  have hm : j % 12 < 12 := Nat.mod_lt _ (by omega)
  unfold rowIn
  by_cases e : j / 12 = a
  · rw [if_pos e]
    have hje : 0 + j = a * 12 + j % 12 := by omega
    rw [hje, World.cell?_setCells_in g (rowB r).toList (a * 12) w (fun i hi => (hth i (by omega)).1) (j % 12) (by omega)]
    have := rowB_at r hm
    rw [← Array.getElem?_toList, List.getElem?_eq_getElem (by omega)] at this
    exact this
  · rw [if_neg e, World.cell?_setCells_out g (rowB r).toList (a * 12) w ⟨g, 0 + j, none⟩ (fun _ _ => by simp only [hl]; omega)]
    exact h.1 j _ (tabV_at R hj)
theorem TblAt.apart {w : World} {g g' o : Nat} {R : Nat → Nat → Bool} (h : TblAt w g R) (hne : g ≠ g') (vs : List Value) : TblAt (w.setCells g' o vs) g R :=
  ⟨World.rangeAt_setCells_apart h.1 _ _ _ (.inl hne), World.there_setCells h.2 _ _ _⟩
theorem TblAt.alloc {w : World} {g : Nat} {R : Nat → Nat → Bool} (h : TblAt w g R) (o : Obj) : TblAt (w.alloc o) g R := h.below ((Below.refl w.heap.size w).alloc (Nat.le_refl _) o) h.lt
theorem TblAt.made (w : World) (R : Nat → Nat → Bool) (t : TypeId) {g : Nat} (hg : g = w.heap.size) : TblAt (w.alloc (.cells (tabV R).toArray t)) g R := by
  subst hg
  have hh := heap_alloc_new w (.cells (tabV R).toArray t)
  refine ⟨fun j v hv => ?_, fun j hj => ⟨?_, frozen_of_row _ _ _ _ _ hh⟩⟩
  · rw [cell_of_row _ _ _ _ _ _ hh]; simpa using hv
  · rw [cell_of_row _ _ _ _ _ _ hh, List.getElem?_toArray, Nat.zero_add, tabV_at R hj]; rfl
theorem below_setCells {B g : Nat} {W : World} (hg : B ≤ g) : ∀ (vs : List Value) (o : Nat) (w : World), Below B W w → Below B W (w.setCells g o vs)
  | [], _, _, h => h
  | v :: r, o, w, h => by rw [World.setCells]; exact below_setCells hg r (o + 1) _ (h.setCell hg v)
theorem TblAt.whole {w : World} {g : Nat} {R : Nat → Nat → Bool} (h : w.there g 0 144) : TblAt (w.setCells g 0 (tabV R)) g R :=
  ⟨World.rangeAt_setCells_same w g 0 _ (by rw [tabV_len]; exact h), World.there_setCells h _ _ _⟩
theorem infoTbl (R : Nat → Nat → Bool) : (Tryd.prog.info? 37).map (·.size) = some (tabV R).length := by rw [tabV_len]; kernel_rfl
theorem results_tbl {fn : Func} {p : Tmp} (h : fn.results = #[.cell p 37]) (tmps : Array Value) (w : World) (g : Nat) (R : Nat → Nat → Bool)
    (hp : tmps.getD p undef = .pointer (some ⟨g, 0, none⟩)) (hg : TblAt w g R) : (results fn tmps).run Tryd.prog w = .ok (.agg (tabV R).toArray) w := by
  have hp' : tmps[p]?.getD undef = .pointer (some ⟨g, 0, none⟩) := by simpa using hp
  simp [results, h, hp', asAddr, run_loadVar_mid w g 0 37 (tabV R) _ hg.1 Tryd.underlying37 rfl (infoTbl R)]
theorem wpList_load_tbl {ops : Array Oper} {rest : List Oper} {o : Oper} {a : Act} {w : World} {Q : Exit → Act → World → Prop} {g : Nat} {R : Nat → Nat → Bool} (h : TblAt w g R) (hgd : o.guard = none) (x : Operand) (ho : o.op = .load 37 x)
    (hx : a.eval x = .pointer (some ⟨g, 0, none⟩)) (hn : wpList Tryd.prog ops Q rest (a.put o.dst (.agg (tabV R).toArray)) w) : wpList Tryd.prog ops Q (o :: rest) a w :=
  wpList_load_mid hgd 37 x ho g 0 hx (tabV R) _ h.1 Tryd.underlying37 rfl (infoTbl R) hn
theorem wpList_store_tbl {ops : Array Oper} {rest : List Oper} {o : Oper} {a : Act} {w : World} {Q : Exit → Act → World → Prop} {g : Nat} {S : Nat → Nat → Bool} (h : TblAt w g S) (R : Nat → Nat → Bool) (hgd : o.guard = none) (x y : Operand) (ho : o.op = .store 37 x y)
    (hx : a.eval x = .pointer (some ⟨g, 0, none⟩)) (hy : a.eval y = .agg (tabV R).toArray) (hn : wpList Tryd.prog ops Q rest (a.put o.dst undef) (w.setCells g 0 (tabV R))) : wpList Tryd.prog ops Q (o :: rest) a w :=
  wpList_store_mid hgd 37 x y ho g 0 (tabV R).toArray hx hy (by rw [List.size_toArray, tabV_len]; exact h.2) (by rw [List.size_toArray]; exact infoTbl R)
    (all_oneCell_toArray (fun v hv => by simp only [tabV, List.mem_map] at hv; obtain ⟨i, _, rfl⟩ := hv; rfl)) hn
theorem wpList_store_part {ops : Array Oper} {rest : List Oper} {o : Oper} {a : Act} {w : World} {Q : Exit → Act → World → Prop} {g k : Nat} {S : Nat → Nat → Bool} (h : TblAt w g S) (hk : k < 12) (r : Nat → Bool) (hgd : o.guard = none) (x y : Operand) (ho : o.op = .store 36 x y)
    (hx : a.eval x = .pointer (some ⟨g, k * 12, none⟩)) (hy : a.eval y = .agg (rowB r)) (hn : wpList Tryd.prog ops Q rest (a.put o.dst undef) (w.setCells g (k * 12) (rowB r).toList)) : wpList Tryd.prog ops Q (o :: rest) a w :=
  wpList_store_mid hgd 36 x y ho g (k * 12) (rowB r) hx hy (h.there hk r) (infoRow' _) (rowB_one _) hn
def noT : Nat → Nat → Bool := fun _ _ => false
theorem zeroTbl (w : World) : (zeroValue 37).run Tryd.prog w = .ok (.agg (tabV noT).toArray) w := by kernel_rfl
/-- The rows of the first k levels. -/
def allTo (k : Nat) : Nat → Nat → Bool := fun i j => if i < k then impB (i : Int) (j : Int) else false
theorem allTo_step (k : Nat) : tabV (rowIn (allTo k) k (blw [(k : Int)])) = tabV (allTo (k + 1)) := by
  unfold tabV
  apply List.map_congr_left
  intro i _
  unfold rowIn allTo blw
  by_cases e : i / 12 = k
  · rw [if_pos e, if_pos (by omega), e]; simp
  · rw [if_neg e]
    by_cases h2 : i / 12 < k
    · rw [if_pos h2, if_pos (by omega)]
    · rw [if_neg h2, if_neg (by omega)]
theorem TblAt.congr {w : World} {g : Nat} {R S : Nat → Nat → Bool} (h : TblAt w g R) (e : tabV R = tabV S) : TblAt w g S := by unfold TblAt at *; rw [← e]; exact h
set_option maxHeartbeats 2000000 in
theorem all_any (w : World) (hK : Kinds w) : Calls Tryd.prog 22 #[] w fun e w' => e = .returned (.agg (tabV (allTo 12)).toArray) ∧ Below w.heap.size w w' := by
  have HK := Lib.hid (fun wx (hb : Below w.heap.size w wx) => hK.below hb)
  clear hK
  have hz := zeroTbl
  have h0 := (TblAt.made w noT 37 rfl).alloc (.cells (tabV noT).toArray 37)
  have h1 := TblAt.made (w.alloc (.cells (tabV noT).toArray 37)) noT 37 rfl
  have hbb := ((Below.refl w.heap.size w).alloc (Nat.le_refl _) (.cells (tabV noT).toArray 37)).alloc (by simp) (.cells (tabV noT).toArray 37)
  have hs : (w.alloc (.cells (tabV noT).toArray 37)).heap.size = w.heap.size + 1 := by simp
  rw [hs] at h1
  clear hs
  generalize (tabV noT).toArray = Z at *
  go_enter Tryd.func22, Tryd.ntmps22
  go_wp2_with fail
  clear hz
  go_loopw [3] (fun i wr => ∃ k : Nat, k ≤ 12 ∧ i = .int .i64 k ∧ TblAt wr (w.heap.size + 1) (allTo k) ∧ TblAt wr w.heap.size noT ∧ Below w.heap.size w wr) (fun i _ => 12 - (intOf i).toNat)
  case atStart => exact ⟨0, by omega, rfl, h1, h0, hbb⟩
  case round =>
    clear h0 h1 hbb
    obtain ⟨k, hk, rfl, h1, h0, hb⟩ := hrel
    by_cases hlt : k < 12
    · have hki : (k : Int) < 12 := by omega
      have hsz := hb.size
      have hb1 := hb.alloc hb.size (.cells #[.int .i64 (k : Int)] 23)
      have hI : Ints (wr.alloc (.cells #[.int .i64 (k : Int)] 23)) (.slice (some ⟨wr.heap.size, 0, none⟩) 1 1) [(k : Int)] := by
        refine ⟨rfl, _, 1, rfl, ⟨Nat.le_refl _, by decide⟩, fun h => (by cases h), fun _ => ⟨wr.heap.size, 0, rfl, fun i hi => ?_⟩⟩
        have hi0 : i = 0 := by simp at hi; omega
        subst hi0
        rw [cell_of_row _ _ _ _ _ _ (heap_alloc_new wr _)]; rfl
      have CB := Lib.hid (tbelow_any _ _ _ (HK.out _ hb1) hI)
      have H1 := Lib.hid (h1.alloc (.cells #[.int .i64 (k : Int)] 23))
      have H0 := Lib.hid (h0.alloc (.cells #[.int .i64 (k : Int)] 23))
      have HS := Lib.hid (allTo_step k)
      have hl1 := h1.lt
      clear h1 h0 hb hI
      go_wp2_with fail
      refine (CB.out).mono ?_
      rintro e w6 ⟨rfl, hb6⟩
      have h16 := H1.out.below hb6 (by simp; omega)
      have h06 := H0.out.below hb6 (by simp; omega)
      have hb7 := hb1.trans (hb6.mono hb1.size)
      clear CB hb6 hb1
      go_wp2_with (with_reducible refine wpList_store_part h16 hlt (blw [(k : Int)]) rfl _ _ rfl rfl rfl ?_)
      go_roundw
      case rel => exact ⟨k + 1, by omega, by go_num, (h16.store hlt _).congr HS.out, h06.apart (by omega) _, below_setCells (by omega) _ _ _ hb7⟩
      case measure => simp [intOf]; omega
    · have hkn : k = 12 := by omega
      subst hkn
      go_wp2_with (first
        | (with_reducible refine wpList_load_tbl h1 rfl _ rfl rfl ?_)
        | (with_reducible refine wpList_store_tbl h0 (allTo 12) rfl _ _ rfl rfl rfl ?_))
      have h3 := TblAt.whole (R := allTo 12) h0.2
      exact bodyPost_ret (results_tbl rfl _ _ _ _ rfl h3) rfl ⟨rfl, below_setCells (Nat.le_refl _) _ _ _ hb⟩
end Go.Proofs.YtecofmcfniicoaaDoor
