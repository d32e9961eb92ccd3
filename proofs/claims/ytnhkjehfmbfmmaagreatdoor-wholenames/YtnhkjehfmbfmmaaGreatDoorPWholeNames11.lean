/- Walks and plain facts that the proof of the statement WholeNames uses, joined: VecG VecH LevD TblD TblE TblF TblG TblJ TblH TblK VecJ VecK CanK CanL RenK RenM RenL RenN RenO RenP OkN RenQ NmL RenW. Conditions: each theorem's own. -/
import Derived.Outline
import Derived.Deep.MidRow
import Derived.Laws.BitsAllLaws
import Derived.Test.YtnhkjehfmbfmmaaGreatDoorPWholeNames1
import Derived.Test.YtnhkjehfmbfmmaaGreatDoorPWholeNames2
import Derived.Test.YtnhkjehfmbfmmaaGreatDoorPWholeNames3
import Derived.Test.YtnhkjehfmbfmmaaGreatDoorPWholeNames4
import Derived.Test.YtnhkjehfmbfmmaaGreatDoorPWholeNames7
import Derived.Test.YtnhkjehfmbfmmaaGreatDoorPWholeNames8
import Derived.Test.YtnhkjehfmbfmmaaGreatDoorPWholeNames9
import Derived.Test.YtnhkjehfmbfmmaaGreatDoorPWholeNames10
namespace Go.Proofs.YtnhkjehfmbfmmaaGreatDoor
set_option maxHeartbeats 32000000
set_option maxRecDepth 100000
set_option linter.unusedSimpArgs false
set_option linter.unusedVariables false
open Lib (hid)
section
open Go.RowKit
section
variable {h : List TxnV}
end
theorem fuel_most : fuelN 4611686018427387904 = 4611686018427387904 := by decide +kernel
theorem info_vec (r : Nat → Bool) (ws : Nat → Value × Value) : (Tryz.prog.info? 44).map (·.size) = some (vecL r ws).length := by rw [vecL_len]; kernel_rfl
theorem info_vecA (r : Nat → Bool) (ws : Nat → Value × Value) : (Tryz.prog.info? 44).map (·.size) = some (vecL r ws).toArray.size := by rw [show (vecL r ws).toArray.size = 36 from vecL_len _ _]; kernel_rfl
theorem results_vec3 {fn : Func} {p u v : Tmp} (h : fn.results = #[.tmp u, .cell p 44, .tmp v]) (tmps : Array Value) (w : World) (g : Nat) (r : Nat → Bool) (ws : Nat → Value × Value)
  (hp : tmps.getD p undef = .pointer (some ⟨g, 0, none⟩)) (hg : VecAt w g r ws) : (results fn tmps).run Tryz.prog w = .ok (.tuple #[tmps.getD u undef, .agg (vecL r ws).toArray, tmps.getD v undef]) w := by
 have hp' : tmps[p]?.getD undef = .pointer (some ⟨g, 0, none⟩) := by simpa using hp
 simp [results, h, hp', asAddr, run_loadVar_mid w g 0 44 (vecL r ws) _ hg.all Tryz.underlying44 rfl (info_vec r ws)]
theorem vec_put (w : World) (r : Nat → Bool) (ws : Nat → Value × Value) : VecAt ((w.alloc (.cells #[.bool false, .bool false, .bool false, .bool false, .bool false, .bool false, .bool false, .bool false, .bool false, .bool false, .bool false, .bool false, .slice none 0 0, .slice none 0 0, .slice none 0 0, .slice none 0 0, .slice none 0 0, .slice none 0 0, .slice none 0 0, .slice none 0 0, .slice none 0 0, .slice none 0 0, .slice none 0 0, .slice none 0 0, .slice none 0 0, .slice none 0 0, .slice none 0 0, .slice none 0 0, .slice none 0 0, .slice none 0 0, .slice none 0 0, .slice none 0 0, .slice none 0 0, .slice none 0 0, .slice none 0 0, .slice none 0 0] 44)).setCells w.heap.size 0 (vecL r ws)) w.heap.size r ws ∧ Below w.heap.size w ((w.alloc (.cells #[.bool false, .bool false, .bool false, .bool false, .bool false, .bool false, .bool false, .bool false, .bool false, .bool false, .bool false, .bool false, .slice none 0 0, .slice none 0 0, .slice none 0 0, .slice none 0 0, .slice none 0 0, .slice none 0 0, .slice none 0 0, .slice none 0 0, .slice none 0 0, .slice none 0 0, .slice none 0 0, .slice none 0 0, .slice none 0 0, .slice none 0 0, .slice none 0 0, .slice none 0 0, .slice none 0 0, .slice none 0 0, .slice none 0 0, .slice none 0 0, .slice none 0 0, .slice none 0 0, .slice none 0 0, .slice none 0 0] 44)).setCells w.heap.size 0 (vecL r ws)) ∧ (w.alloc (.cells #[.bool false, .bool false, .bool false, .bool false, .bool false, .bool false, .bool false, .bool false, .bool false, .bool false, .bool false, .bool false, .slice none 0 0, .slice none 0 0, .slice none 0 0, .slice none 0 0, .slice none 0 0, .slice none 0 0, .slice none 0 0, .slice none 0 0, .slice none 0 0, .slice none 0 0, .slice none 0 0, .slice none 0 0, .slice none 0 0, .slice none 0 0, .slice none 0 0, .slice none 0 0, .slice none 0 0, .slice none 0 0, .slice none 0 0, .slice none 0 0, .slice none 0 0, .slice none 0 0, .slice none 0 0, .slice none 0 0] 44)).there w.heap.size 0 (vecL r ws).toArray.size :=
 ⟨(VecAt.zero w).put r ws, below_putC (Nat.le_refl _) _ _ _ (box_below w _), by rw [show (vecL r ws).toArray.size = 36 from vecL_len _ _]; exact (VecAt.zero w).there (by omega)⟩
def WitsIn (h : List TxnV) (ws : Nat → Value × Value) (b0 : Nat) (w : World) : Prop := ∀ i, i < 12 → OwnW w b0 (ws i).1 (ws i).2 (decW h (i : Int)).1 (decW h (i : Int)).2.1
section
variable {h : List TxnV} {ws : Nat → Value × Value} {b0 : Nat} {w w' : World}
theorem WitsIn.below (q : WitsIn h ws b0 w) (hb : Below w.heap.size w w') : WitsIn h ws b0 w' := fun i hi => (q i hi).below hb
theorem WitsIn.cells (q : WitsIn h ws b0 w) {g : Nat} (hg : g < b0) (o : Nat) (vs : List Value) : WitsIn h ws b0 (w.setCells g o vs) := fun i hi => (q i hi).cells hg o vs
theorem WitsIn.base (q : WitsIn h ws b0 w) {b1 : Nat} (hb : b1 ≤ b0) : WitsIn h ws b1 w := fun i hi => (q i hi).base hb
theorem WitsIn.one (q : WitsIn h ws b0 w) (r : Nat → Bool) : (vecL r ws).toArray.all (·.oneCell') = true := vecL_one fun i hi => by
 obtain ⟨_, _, _, _, _, _, e1, e2⟩ := (q i hi).form
 rw [e1, e2]; exact ⟨rfl, rfl⟩
end
theorem map_cells {α : Type} {e : α → Value} {P : Program} {k : TypeId} {w : World} {b n : Nat} {f : Int → Option α} {c g : Nat} (h : MapI e P k w b n f c) {v : Value} (hc : w.cell? ⟨g, 0, none⟩ = some v) : b ≠ g := by
 rintro rfl
 obtain ⟨D, ⟨es, clock, hh, _⟩, _⟩ := h
 unfold World.cell? at hc
 simp [hh] at hc
theorem OrdIs.apart {w : World} {B b : Nat} {h : List TxnV} (hO : OrdIs w B b h) {g : Nat} (hg : g < B) (hgb : g < b) {v : Value} (hc : w.cell? ⟨g, 0, none⟩ = some v) (o : Nat) (vs : List Value) : OrdIs (w.setCells g o vs) B b h := by
 obtain ⟨bm, m, c, vk, vr, K, R, h1, h2, h3, h4, h5, h6⟩ := hO
 refine ⟨bm, m, c, vk, vr, K, R, fun i hi => ?_, MapI.cells (map_cells h2 hc) vs o w h2, h3, h4.cells hgb o vs, h5, h6⟩
 rw [World.frozen?_setCells, cell_put (p := ⟨B, i, none⟩) (by show B ≠ g; omega)]
 exact h1 i hi
theorem vof_ok {w0 w : World} {B b : Nat} {h : List TxnV} (much : Int) (F : Nat) (hF : fuelN much = F) (hO : OrdIs w0 B b h) (ht : Tab w0) (hK : Kinds w0) (hc : checkI h = 0) (hb : Below w0.heap.size w0 w) (hM : ∀ l : Nat, l < 12 → (decN h (l : Int)).2.2 + 2 ≤ 1099511627776) (hl : Lasts F 0 (vecTo h 12).2) :
  Calls Tryz.prog 46 #[.pointer (some ⟨B, 0, none⟩), .int .i64 much] w fun e w' => (∃ ws, e = .returned (.tuple #[.agg (vecL (accV h) ws).toArray, .int .i64 0]) ∧ WitsIn h ws w.heap.size w') ∧ Below w.heap.size w w' := by
 refine (vof_any much F hF hO ht hK hc hb hM).mono ?_
 rintro e w' ⟨hb', ⟨_, ws, rfl, hw⟩ | ⟨hn, _⟩⟩
 ·exact ⟨⟨ws, rfl, hw⟩, hb'⟩
 ·exact (hn hl).elim
theorem vec_few {h : List TxnV} (hn : h.length ≤ 7) : ∀ l : Nat, l < 12 → (decN h (l : Int)).2.2 + 2 ≤ 1099511627776 := fun l _ => by
 have h1 := dec_tries h (l : Int)
 have h2 := tr_le h.length hn
 omega
theorem lawof_any (va : Value) (h : List TxnV) (w : World) (hT : Txns w va h) (hok : ∀ t ∈ h, t.ok) (hsh : Short h) (hc : checkI h = 0) (ht : Tab w) (hK : Kinds w) (hM : ∀ l : Nat, l < 12 → (decN h (l : Int)).2.2 + 2 ≤ 1099511627776) :
  Calls Tryz.prog 15 #[va] w fun e w' => (∃ B ws, e = .returned (.tuple #[.pointer (some ⟨B, 0, none⟩), .agg (vecL (accV h) ws).toArray, .bool true]) ∧ OrdIs w' B (B + 2) h ∧ WitsIn h ws w.heap.size w') ∧ Below w.heap.size w w' := by
 have hg := ht.pos
 have V3 := VecAt.zero w
 have hb1 := box_below w (.cells #[.bool false, .bool false, .bool false, .bool false, .bool false, .bool false, .bool false, .bool false, .bool false, .bool false, .bool false, .bool false, .slice none 0 0, .slice none 0 0, .slice none 0 0, .slice none 0 0, .slice none 0 0, .slice none 0 0, .slice none 0 0, .slice none 0 0, .slice none 0 0, .slice none 0 0, .slice none 0 0, .slice none 0 0, .slice none 0 0, .slice none 0 0, .slice none 0 0, .slice none 0 0, .slice none 0 0, .slice none 0 0, .slice none 0 0, .slice none 0 0, .slice none 0 0, .slice none 0 0, .slice none 0 0, .slice none 0 0] 44)
 have CO := hid (of_done va h _ (hT.below hb1) hok hsh hc)
 have HT : Hid (∀ wx, Below w.heap.size w wx → Tab wx ∧ Kinds wx) := hid (fun wx hb => ⟨ht.below hb hg, hK.below hb⟩)
 have hs1 : (w.alloc (.cells #[.bool false, .bool false, .bool false, .bool false, .bool false, .bool false, .bool false, .bool false, .bool false, .bool false, .bool false, .bool false, .slice none 0 0, .slice none 0 0, .slice none 0 0, .slice none 0 0, .slice none 0 0, .slice none 0 0, .slice none 0 0, .slice none 0 0, .slice none 0 0, .slice none 0 0, .slice none 0 0, .slice none 0 0, .slice none 0 0, .slice none 0 0, .slice none 0 0, .slice none 0 0, .slice none 0 0, .slice none 0 0, .slice none 0 0, .slice none 0 0, .slice none 0 0, .slice none 0 0, .slice none 0 0, .slice none 0 0] 44)).heap.size = w.heap.size + 1 := by simp
 have HC := hid hc
 have HM := hid hM
 clear hT hok hsh hc ht hK hM
 go_enter Tryz.func15, Tryz.ntmps15
 go_upto_region 1 with fail
 generalize w.alloc (.cells #[.bool false, .bool false, .bool false, .bool false, .bool false, .bool false, .bool false, .bool false, .bool false, .bool false, .bool false, .bool false, .slice none 0 0, .slice none 0 0, .slice none 0 0, .slice none 0 0, .slice none 0 0, .slice none 0 0, .slice none 0 0, .slice none 0 0, .slice none 0 0, .slice none 0 0, .slice none 0 0, .slice none 0 0, .slice none 0 0, .slice none 0 0, .slice none 0 0, .slice none 0 0, .slice none 0 0, .slice none 0 0, .slice none 0 0, .slice none 0 0, .slice none 0 0, .slice none 0 0, .slice none 0 0, .slice none 0 0] 44) = w1 at *
 go_wp2_with fail
 refine CO.out.mono ?_
 rintro e w2 ⟨⟨B, rfl, hB, hO⟩, h2⟩
 have hb2 := below_then hb1 h2
 have h12 := h2.size
 have V3 := V3.below h2 V3.lt
 have hTK := HT.out _ hb2
 have CV := hid (vof_ok (w := w2) 4611686018427387904 4611686018427387904 fuel_most hO hTK.1 hTK.2 HC.out (Below.refl _ _) HM.out (.inl rfl))
 have HO := hid (fun wx (hx : Below w2.heap.size w2 wx) => hO.below hx)
 clear CO hO h2 hTK hb1
 go_wp2_with fail
 refine CV.out.mono ?_
 rintro e w3 ⟨⟨ws, rfl, hW⟩, h3⟩
 obtain ⟨V7, hb7, hth⟩ := vec_put w3 (accV h) ws
 have hone := hW.one (accV h)
 have hinf := info_vecA (accV h) ws
 have h27 := below_then h3 hb7
 have HO7 := hid (HO.out _ h27)
 have W7 := hW.below hb7
 have V3 := V3.below h3 V3.lt
 have hne := V3.lt
 have V3 := V3.below hb7 V3.lt
 have hbW := below_then hb2 h27
 clear CV h3 h27 hb2 hW HO
 go_upto_region 5 with (first | (with_reducible refine wpList_store_mid rfl 44 _ _ rfl w3.heap.size 0 (vecL (accV h) ws).toArray rfl rfl hth hinf hone ?_))
 generalize (w3.alloc (.cells #[.bool false, .bool false, .bool false, .bool false, .bool false, .bool false, .bool false, .bool false, .bool false, .bool false, .bool false, .bool false, .slice none 0 0, .slice none 0 0, .slice none 0 0, .slice none 0 0, .slice none 0 0, .slice none 0 0, .slice none 0 0, .slice none 0 0, .slice none 0 0, .slice none 0 0, .slice none 0 0, .slice none 0 0, .slice none 0 0, .slice none 0 0, .slice none 0 0, .slice none 0 0, .slice none 0 0, .slice none 0 0, .slice none 0 0, .slice none 0 0, .slice none 0 0, .slice none 0 0, .slice none 0 0, .slice none 0 0] 44)).setCells w3.heap.size 0 (vecL (accV h) ws) = w7 at *
 generalize w3.heap.size = g7 at *
 have kd := (Below.refl w7.heap.size w7).drew
 have V7 := hid (V7.below kd V7.lt)
 have HO7 := hid (HO7.out.below kd)
 have W7 := W7.below kd
 have HV3 := hid (V3.below kd V3.lt)
 have hbW := below_then hbW kd
 have hinf2 := info_vec (accV h) ws
 clear V3 kd hth
 refine wp_region_held_drew (S := fun wx => wx.rangeAt g7 0 (vecL (accV h) ws)) (by kernel_rfl) V7.out.all (fun hS0 => ?_)
 generalize w7.drew = wd at *
 refine tG (some 25) 0 ?vtg0x1 rfl rfl (Or.inl ⟨by rfl, ?htg0x1⟩) hS0 ?rtg0x1
 case htg0x1 => (intro w hw; go_simp; try (with_reducible rfl))
 try simp only [Act.put, zA, zB, zC]
 refine tG (some 26) 1 _ rfl rfl (yieldsIf_load_mid (by rfl) 44 _ rfl g7 0 rfl (vecL (accV h) ws) _ (fun _ hw => hw) Tryz.underlying44 rfl hinf2) hS0 ?_
 try simp only [Act.put, zA, zB, zC]
 refine tG (some 27) 2 ?vtg2x3 rfl rfl (Or.inl ⟨by rfl, ?htg2x3⟩) hS0 ?rtg2x3
 case htg2x3 => (intro w hw; go_simp; try (with_reducible rfl))
 try simp only [Act.put, zA, zB, zC]
 refine tG (some 28) 3 ?vtg3x4 rfl rfl (Or.inl ⟨by rfl, ?htg3x4⟩) hS0 ?rtg3x4
 case htg3x4 => (intro w hw; go_simp; try (with_reducible rfl))
 try simp only [Act.put, zA, zB, zC]
 refine tG (some 2) 4 ?vtg4x5 rfl rfl (Or.inl ⟨by rfl, ?htg4x5⟩) hS0 ?rtg4x5
 case htg4x5 => (intro w hw; go_simp; try (with_reducible rfl))
 try simp only [Act.put, zA, zB, zC]
 refine rD 5 rfl (fun K hK => ?_)
 have hth := HV3.out.there (o := 0) (n := 36) (by omega)
 rw [show 36 = (vecL (accV h) ws).toArray.size from (vecL_len _ _).symm] at hth
 refine wp_store_mid 44 _ _ rfl w.heap.size 0 (vecL (accV h) ws).toArray rfl rfl hth hinf hone ?_
 have sB : (wd.setCells w.heap.size 0 (vecL (accV h) ws)).rangeAt g7 0 (vecL (accV h) ws) := World.rangeAt_setCells_apart hS0 _ _ _ (.inl (by omega))
 refine hK.out _ _ sB (fun _ => ?_)
 clear hK K hth
 refine tG (some 4) 6 ?vtg6x7 rfl rfl (Or.inl ⟨by rfl, ?htg6x7⟩) sB ?rtg6x7
 case htg6x7 => (intro w hw; go_simp; try (with_reducible rfl))
 try simp only [Act.put, List.setIfInBounds_toArray]
 refine wpAnyH_done (by kernel_rfl) ?_ _
 have HV9 := hid (HV3.out.put (accV h) ws)
 have HF : Hid (OrdIs (wd.setCells w.heap.size 0 (vecL (accV h) ws)) B (B + 2) h ∧ WitsIn h ws w.heap.size (wd.setCells w.heap.size 0 (vecL (accV h) ws)) ∧ Below w.heap.size w (wd.setCells w.heap.size 0 (vecL (accV h) ws))) := hid ⟨HO7.out.apart (by omega) (by omega) (HV3.out 0 (by omega)).1 0 _, (W7.cells (by omega) 0 _).base (by omega), below_putC (Nat.le_refl _) _ _ _ hbW⟩
 go_wp2_with fail
 refine bodyPost_ret (results_vec3 rfl _ _ _ (accV h) ws rfl HV9.out) rfl ⟨⟨B, ws, rfl, HF.out.1, HF.out.2.1⟩, HF.out.2.2⟩
end

section
open Go.RowKit
theorem can_ok {c : List TxnV} (hc : checkI c = 0) : ∀ t ∈ c, t.ok := fun t ht => by
 obtain ⟨m1, m2⟩ := may_at (check_rightB hc).1 ht
 refine ⟨⟨by unfold IntOk; omega, by unfold IntOk; omega, by unfold IntOk; omega⟩, fun o ho => ?_⟩
 have := (mayO_iff o).1 (m2 o ho)
 refine ⟨by unfold IntOk; omega, by unfold IntOk; omega⟩
theorem can_short {c : List TxnV} (hc : checkI c = 0) : Short c := fun t ht => by
 have := (may_at (check_rightB hc).1 ht).1
 omega
theorem can_len {c s h : List TxnV} (hs : IsSrt h s) (hce : c.map txE = canE (s.map txE)) : c.length = h.length := by
 have h1 := congrArg List.length hce
 unfold canE at h1
 simp only [List.length_map] at h1
 rw [h1, hs.1.length_eq]
end

section
open Go.RowKit
theorem srt_some {h : List TxnV} (hc : checkI h = 0) : ∃ s, IsSrt h s := by
 have hn := begins_nodup (check_rightB hc).2.2.1
 refine ⟨h.mergeSort (fun t u => decide (t.b ≤ u.b)), List.mergeSort_perm _ _, ?_⟩
 have h1 := List.pairwise_mergeSort (le := fun t u : TxnV => decide (t.b ≤ u.b)) (fun a b c h1 h2 => by simp at h1 h2 ⊢; omega) (fun a b => by simp; omega) h
 have h2 : ((h.mergeSort (fun t u => decide (t.b ≤ u.b))).map (·.b)).Nodup := ((List.mergeSort_perm _ _).map _).nodup_iff.2 hn
 rw [List.nodup_iff_pairwise_ne, List.pairwise_map] at h2
 exact h1.imp₂ (fun a b q r => by simp at q; omega) h2
end

section
open Go.RowKit
theorem namL_mem {f τ κ ν : Int → Int} {L : List Int} {h : List TxnV} (hL : OrdO L h.length) {e : ETx} (he : e ∈ namL f τ κ ν L h) : ∃ t ∈ h, e = renE f τ κ ν (txE t) := by
 unfold namL at he
 obtain ⟨k, hk, rfl⟩ := List.mem_map.1 he
 have hk := List.mem_range.1 hk
 have hi := (ordO_at hL hk).1
 refine ⟨_, List.getElem_mem hi, ?_⟩
 rw [List.getD_eq_getElem?_getD, List.getElem?_map, List.getElem?_eq_getElem hi]
 rfl
theorem named_ok {f τ κ ν : Int → Int} {L : List Int} {h c : List TxnV} (hL : OrdO L h.length) (e : c.map txE = namL f τ κ ν L h) (hf : ∀ x, IntOk x → IntOk (f x)) (hτ : ∀ x, IntOk x → IntOk (τ x)) (hκ : ∀ x, IntOk x → IntOk (κ x)) (hν : ∀ x, IntOk x → IntOk (ν x)) (hok : ∀ t ∈ h, t.ok) (hsh : Short h) : (∀ t ∈ c, t.ok) ∧ Short c := by
 have key : ∀ t ∈ c, ∃ u ∈ h, txE t = renE f τ κ ν (txE u) := fun t ht => namL_mem hL (e ▸ List.mem_map_of_mem ht)
 refine ⟨fun t ht => ?_, fun t ht => ?_⟩
 ·obtain ⟨u, hu, q⟩ := key t ht
  obtain ⟨s, b, d, v, l⟩ := t
  simp only [txE, renE, Prod.mk.injEq] at q
  obtain ⟨rfl, rfl, rfl, rfl⟩ := q
  obtain ⟨⟨o1, o2, o3⟩, o4⟩ := hok u hu
  refine ⟨⟨hf _ o1, hτ _ o2, hτ _ o3⟩, fun o ho => ?_⟩
  obtain ⟨o', ho', rfl⟩ := List.mem_map.1 ho
  exact ⟨hκ _ (o4 o' ho').1, hν _ (o4 o' ho').2⟩
 ·obtain ⟨u, hu, q⟩ := key t ht
  have q := congrArg (fun e => e.2.2.2.length) q
  simp only [txE, renE, List.length_map] at q
  have := hsh u hu
  omega
theorem whole_ord {L : List Int} {n : Nat} (h : wholeP L n) : OrdO L n := by
 rcases h with rfl | ⟨h1, h2⟩
 ·exact .inl rfl
 ·refine .inr ⟨h1, fun k hk => ?_⟩
  have hm : L[k] ∈ srtI L := (List.mergeSort_perm L fun x y => decide (x ≤ y)).mem_iff.2 (List.getElem_mem hk)
  obtain ⟨i, hi, e⟩ := List.getElem_of_mem hm
  have hl : (srtI L).length = L.length := (List.mergeSort_perm L fun x y => decide (x ≤ y)).length_eq
  exact ⟨i, by rw [← e, h2 i hi], by omega⟩
def appP (FK FS FV FT : Int → Option Int) (L : List Int) (h : List TxnV) : Prop :=
 checkI h = 0 ∧ wholeP L h.length ∧ keepP FK FS (delF FV 0) FT (keyE (h.map txE)) (sesE (h.map txE)) (valA (h.map txE)) (stL h) ∧ checkI ((namL (nmF FS) (nmF FT) (nmF FK) (nmF (delF FV 0)) L h).map tx0) = 0
instance (FK FS FV FT : Int → Option Int) (L : List Int) (h : List TxnV) : Decidable (appP FK FS FV FT L h) := by unfold appP; infer_instance
end

section
open Go.RowKit
def d0T : TxnV := ⟨0, 0, 0, .slice none 0 0, []⟩
theorem ix_perm {L : List Int} {n : Nat} (h : wholeP L n) : ((List.range n).map (ixO L)).Perm (List.range n) := by
 rcases h with rfl | ⟨h1, h2⟩
 ·have e : (List.range n).map (ixO []) = List.range n := by
   conv => rhs; rw [← List.map_id (List.range n)]
   exact List.map_congr_left fun k _ => by simp [ixO]
  rw [e]
 ·by_cases hn : L = []
  ·subst hn
   have e : (List.range n).map (ixO []) = List.range n := by
    conv => rhs; rw [← List.map_id (List.range n)]
    exact List.map_congr_left fun k _ => by simp [ixO]
   rw [e]
  ·have hp : (srtI L).Perm L := List.mergeSort_perm L fun x y => decide (x ≤ y)
   have hl : (srtI L).length = n := hp.length_eq.trans h1
   have e1 : (List.range n).map (ixO L) = L.map Int.toNat := by
    refine List.ext_getElem (by simp [h1]) fun k q1 q2 => ?_
    have hk : k < L.length := by simpa using q2
    rw [List.getElem_map, List.getElem_range, List.getElem_map]
    unfold ixO
    rw [if_neg hn, List.getD_eq_getElem?_getD, List.getElem?_eq_getElem hk]
    rfl
   have e2 : (srtI L).map Int.toNat = List.range n := by
    refine List.ext_getElem (by simp [hl]) fun k q1 q2 => ?_
    rw [List.getElem_map, List.getElem_range, h2 k (by simpa using q1), Int.toNat_natCast]
   rw [e1, ← e2]
   exact (hp.map _).symm
def turnL (L : List Int) (h : List TxnV) : List TxnV := (List.range h.length).map fun k => h.getD (ixO L k) d0T
theorem turnL_perm {L : List Int} {h : List TxnV} (hw : wholeP L h.length) : (turnL L h).Perm h := by
 have e1 : turnL L h = ((List.range h.length).map (ixO L)).map fun i => h.getD i d0T := by unfold turnL; rw [List.map_map]; rfl
 have e2 : (List.range h.length).map (fun i => h.getD i d0T) = h := by
  refine List.ext_getElem (by simp) fun k q1 q2 => ?_
  rw [List.getElem_map, List.getElem_range, List.getD_eq_getElem?_getD, List.getElem?_eq_getElem q2]
  rfl
 rw [e1]
 conv => rhs; rw [← e2]
 exact (ix_perm hw).map _
theorem namL_turn (f τ κ ν : Int → Int) (L : List Int) (h : List TxnV) : namL f τ κ ν L h = ((turnL L h).map txE).map (renE f τ κ ν) := by
 unfold namL turnL
 rw [List.map_map, List.map_map]
 refine List.map_congr_left fun k _ => ?_
 show _ = renE f τ κ ν (txE (h.getD (ixO L k) d0T))
 congr 1
 rw [List.getD_eq_getElem?_getD, List.getD_eq_getElem?_getD, List.getElem?_map]
 cases h[ixO L k]? <;> rfl
theorem risS_far {F : Int → Option Int} {S : List Int} (h : risS F S) : ∀ (d i : Nat) (hd : i + d + 1 < S.length), nmF F (S[i]'(by omega)) < nmF F S[i + d + 1]
 | 0, i, hd => h i hd
 | d + 1, i, hd => by
  have h1 := risS_far h d i (by omega)
  have h2 := h (i + d + 1) (by omega)
  exact Int.lt_trans h1 h2
theorem risP_lt {F : Int → Option Int} {S : List Int} (h : risP F S) : ∀ a ∈ S, ∀ b ∈ S, a < b → nmF F a < nmF F b := by
 intro a ha b hb hab
 have hp : (srtI S).Perm S := List.mergeSort_perm S fun x y => decide (x ≤ y)
 obtain ⟨i, hi, rfl⟩ := List.getElem_of_mem (hp.mem_iff.2 ha)
 obtain ⟨j, hj, rfl⟩ := List.getElem_of_mem (hp.mem_iff.2 hb)
 have hs : (srtI S).Pairwise fun x y => decide (x ≤ y) = true := List.pairwise_mergeSort (le := fun x y : Int => decide (x ≤ y)) (fun a b c h1 h2 => by simp at h1 h2 ⊢; omega) (fun a b => by simp; omega) S
 have hij : i < j := by
  rcases Nat.lt_trichotomy i j with q | q | q
  ·exact q
  ·subst q; omega
  ·have q2 := (List.pairwise_iff_getElem.1 hs) j i hj hi q
   simp at q2
   omega
 have q := risS_far h (j - i - 1) i (by omega)
 have e : i + (j - i - 1) + 1 = j := by omega
 simp only [e] at q
 exact q
theorem nmF_del0 (F : Int → Option Int) : nmF (delF F 0) 0 = 0 := by unfold nmF delF; rw [if_pos rfl]; rfl
theorem srtE_eq : ∀ {s u : List ETx}, s.Pairwise (fun x y => x.2.1 < y.2.1) → u.Pairwise (fun x y => x.2.1 < y.2.1) → s.Perm u → s = u
 | [], _, _, _, hp => hp.nil_eq
 | a :: s, [], _, _, hp => by have := hp.length_eq; simp at this
 | a :: s, b :: u, hs, hu, hp => by
  rw [List.pairwise_cons] at hs hu
  have e : a = b := by
   rcases List.mem_cons.1 (hp.mem_iff.1 List.mem_cons_self) with q | q
   ·exact q
   ·rcases List.mem_cons.1 (hp.mem_iff.2 List.mem_cons_self) with r | r
    ·exact r.symm
    ·have h1 := hu.1 a q
     have h2 := hs.1 b r
     omega
  subst e
  rw [srtE_eq hs.2 hu.2 (List.Perm.cons_inv hp)]
section
variable {FK FS FV FT : Int → Option Int} {L : List Int} {h c : List TxnV}
theorem app_zero (ha : appP FK FS FV FT L h) {v : Int} (hv : ∃ t ∈ h, ∃ o ∈ t.l, o.val = v) (e : nmF (delF FV 0) v = 0) : v = 0 := by
 by_cases h0 : v = 0
 ·exact h0
 ·exfalso
  obtain ⟨t, ht, o, ho, hw, rfl⟩ := val_written ha.1 hv h0
  have hm : renE (nmF FS) (nmF FT) (nmF FK) (nmF (delF FV 0)) (txE t) ∈ namL (nmF FS) (nmF FT) (nmF FK) (nmF (delF FV 0)) L h := by
   rw [namL_turn]
   exact List.mem_map_of_mem (List.mem_map_of_mem ((turnL_perm ha.2.1).mem_iff.2 ht))
  have hq := (may_at (check_rightB ha.2.2.2).1 (List.mem_map_of_mem (f := tx0) hm)).2 (renO (nmF FK) (nmF (delF FV 0)) o) (List.mem_map_of_mem ho)
  exact ((mayO_iff _).1 hq).2.2 hw e
theorem app_key (ha : appP FK FS FV FT L h) (a b : Int) (hka : KeyIn h a) (hkb : KeyIn h b) (e : nmF FK a = nmF FK b) : a = b := ha.2.2.1.1 a (keyE_iff.2 hka) b (keyE_iff.2 hkb) e
theorem app_val (ha : appP FK FS FV FT L h) (a b : Int) (hka : ValIn h a) (hkb : ValIn h b) (e : nmF (delF FV 0) a = nmF (delF FV 0) b) : a = b := by
 rcases hka with rfl | hka
 ·rcases hkb with rfl | hkb
  ·rfl
  ·rw [nmF_del0] at e
   exact (app_zero ha hkb e.symm).symm
 ·rcases hkb with rfl | hkb
  ·rw [nmF_del0] at e
   exact app_zero ha hka e
  ·exact ha.2.2.1.2.2.1 a (valA_iff.2 hka) b (valA_iff.2 hkb) e
theorem app_ses (ha : appP FK FS FV FT L h) : ∀ t ∈ h, ∀ u ∈ h, nmF FS t.s = nmF FS u.s → t.s = u.s := fun t ht u hu e => ha.2.2.1.2.1 t.s (sesE_mem (List.mem_map_of_mem ht)) u.s (sesE_mem (List.mem_map_of_mem hu)) e
theorem app_st (ha : appP FK FS FV FT L h) : ∀ a ∈ stL h, ∀ b ∈ stL h, a < b → nmF FT a < nmF FT b := risP_lt ha.2.2.1.2.2.2
theorem app_check (ha : appP FK FS FV FT L h) (e : c.map txE = namL (nmF FS) (nmF FT) (nmF FK) (nmF (delF FV 0)) L h) : checkI c = 0 := by
 rw [checkI_txE (h := (namL (nmF FS) (nmF FT) (nmF FK) (nmF (delF FV 0)) L h).map tx0) (by rw [tx0_txE, e])]
 exact ha.2.2.2
theorem app_dec (ha : appP FK FS FV FT L h) (e : c.map txE = namL (nmF FS) (nmF FT) (nmF FK) (nmF (delF FV 0)) L h) (lv : Int) : (decW c lv).2.2 = (decW h lv).2.2 := by
 have he : c.map txE = ((turnL L h).map txE).map (renE (nmF FS) (nmF FT) (nmF FK) (nmF (delF FV 0))) := e.trans (namL_turn _ _ _ _ _ _)
 obtain ⟨π, ρ, q, hq⟩ := ren_of (turnL_perm ha.2.1) (begins_nodup (check_rightB ha.1).2.2.1) he (app_key ha) (app_val ha) (nmF_del0 FV)
 exact ren_dec ha.1 (app_check ha e) q hq (app_ses ha) (app_st ha) lv
theorem app_can (ha : appP FK FS FV FT L h) (e : c.map txE = namL (nmF FS) (nmF FT) (nmF FK) (nmF (delF FV 0)) L h) {s u : List TxnV} (hs : IsSrt h s) (hu : IsSrt c u) : canE (u.map txE) = canE (s.map txE) := by
 have he : c.map txE = ((turnL L h).map txE).map (renE (nmF FS) (nmF FT) (nmF FK) (nmF (delF FV 0))) := e.trans (namL_turn _ _ _ _ _ _)
 have hp : (u.map txE).Perm ((s.map txE).map (renE (nmF FS) (nmF FT) (nmF FK) (nmF (delF FV 0)))) := by
  refine (hu.1.map txE).trans ?_
  rw [he]
  exact (((turnL_perm ha.2.1).trans hs.1.symm).map txE).map _
 have h1 : (u.map txE).Pairwise fun x y => x.2.1 < y.2.1 := by rw [List.pairwise_map]; exact hu.2
 have h2 : ((s.map txE).map (renE (nmF FS) (nmF FT) (nmF FK) (nmF (delF FV 0)))).Pairwise fun x y => x.2.1 < y.2.1 := by
  rw [List.pairwise_map, List.pairwise_map]
  refine List.Pairwise.imp_of_mem ?_ hs.2
  intro x y hx hy hxy
  have m : ∀ t ∈ s, t.b ∈ stL h := fun t ht => List.mem_flatMap.2 ⟨t, hs.1.mem_iff.1 ht, List.mem_cons_self⟩
  exact app_st ha _ (m x hx) _ (m y hy) hxy
 have e2 : u.map txE = (s.map txE).map (renE (nmF FS) (nmF FT) (nmF FK) (nmF (delF FV 0))) := srtE_eq h1 h2 hp
 rw [e2]
 refine can_ren ?_ ?_ ?_ (nmF_del0 FV) ?_ ?_
 ·intro a hka b hkb q
  have m : ∀ a, a ∈ sesE (s.map txE) → a ∈ sesE (h.map txE) := fun a ha => by unfold sesE at ha ⊢; exact ((hs.1.map txE).map _).mem_iff.1 ha
  exact ha.2.2.1.2.1 a (m a hka) b (m b hkb) q
 ·intro a hka b hkb q
  have m : ∀ a, a ∈ stE (s.map txE) → a ∈ stL h := fun a ha => by
   rw [stE_txE] at ha
   obtain ⟨t, ht, hm⟩ := List.mem_flatMap.1 ha
   exact List.mem_flatMap.2 ⟨t, hs.1.mem_iff.1 ht, hm⟩
  exact app_st ha a (m a hka) b (m b hkb) q
 ·intro a hka b hkb q
  exact app_key ha a b ((keyE_iff.1 hka).perm hs.1.symm) ((keyE_iff.1 hkb).perm hs.1.symm) q
 ·intro a hka q
  have m := valA_iff.1 hka
  obtain ⟨t, ht, r⟩ := m
  exact app_zero ha ⟨t, hs.1.mem_iff.1 ht, r⟩ q
 ·intro a hka b hkb q
  have m : ∀ a, a ∈ valA (s.map txE) → ValIn h a := fun a ha => by
   obtain ⟨t, ht, r⟩ := valA_iff.1 ha
   exact .inr ⟨t, hs.1.mem_iff.1 ht, r⟩
  exact app_val ha a b (m a hka) (m b hkb) q
end
end

section
open Go.RowKit
theorem ok_ofI {x : Int} (h : InI x) : IntOk x := by
 have q : (Lit.int .i64 x).wf = true := h
 simp [Lit.wf, IntKind.min, IntKind.max, IntKind.signed, IntKind.bits] at q
 unfold IntOk
 omega
theorem keyE_len (h : List TxnV) : (keyE (h.map txE)).length = opsN h := by
 induction h with
 | nil => rfl
 | cons t r ih => unfold keyE opsN at *; simp only [List.map_cons, List.flatMap_cons, List.length_append, List.length_map, List.sum_cons, txE] at *; omega
def OkN (F : Int → Option Int) : Prop := ∀ x, IntOk x → IntOk (nmF F x)
theorem OkN.inF {F : Int → Option Int} (h : OkN F) : InF F := fun x hx => inI_of (h x (ok_ofI hx))
theorem OkN.del {F : Int → Option Int} (h : OkN F) (k : Int) : OkN (delF F k) := fun x hx => by
 by_cases e : x = k
 ·have q : nmF (delF F k) x = x := by unfold nmF delF; rw [if_pos e]; rfl
  rw [q]; exact hx
 ·have q : nmF (delF F k) x = nmF F x := by unfold nmF delF; rw [if_neg e]
  rw [q]; exact h x hx
set_option linter.unusedSimpArgs false in
theorem rapply_any (hv vK vS vV vT vO : Value) (FK FS FV FT : Int → Option Int) (L : List Int) (h : List TxnV) (w : World) (hN : NmA w vK vS vV vT FK FS FV FT) (hO : Ints w vO L) (hLn : L.length ≤ 100000) (hT : Txns w hv h) (hok : ∀ t ∈ h, t.ok) (hsh : Short h)
  (fk : OkN FK) (fs : OkN FS) (fv : OkN FV) (ft : OkN FT) :
  Calls Tryz.prog 13 #[hv, .agg #[vK, vS, vV, vT, vO]] w fun e w' => ((appP FK FS FV FT L h ∧ ∃ v, e = .returned (.tuple #[v, .bool true]) ∧ ∃ c, OwnH w' w.heap.size v c ∧ c.map txE = namL (nmF FS) (nmF FT) (nmF FK) (nmF (delF FV 0)) L h) ∨ (¬ appP FK FS FV FT L h ∧ e = .returned (.tuple #[.slice none 0 0, .bool false]))) ∧ Below w.heap.size w w' := by
 have HT := hid (fun wx (hx : Below w.heap.size w wx) => hT.below hx)
 have HN := hid (fun wx (hx : Below w.heap.size w wx) => hN.below hx)
 have CC := hid (fun wx (hx : Below w.heap.size w wx) => hcheck_any hv h wx (hT.below hx) hok hsh)
 have CW := hid (fun wx (hx : Below w.heap.size w wx) => rwhole_any vO L h.length wx (hO.below hx) hLn)
 have CM := hid (fun wx (hx : Below w.heap.size w wx) => mclone_any vV FV wx (hN.v.below hx))
 have COF := hid (fun (hc : checkI h = 0) wx (hx : Below w.heap.size w wx) => rof21_any hv h wx (hT.below hx) (checkI_right hc).1 (checkI_right hc).2.1)
 have HK : Hid (∀ u', checkI h = 0 → ∀ pk ps pv pt wx wy, Below w.heap.size w wx → NmI wx u' (delF FV 0) → Below wx.heap.size wx wy → ∀ b, R4 wy b pk ps pv pt (keyE (h.map txE)) (sesE (h.map txE)) (valA (h.map txE)) (stL h) → Calls Tryz.prog 42 #[.agg #[vK, vS, u', vT, vO], .agg #[pk, ps, pv, pt]] wy fun e w' => e = .returned (.bool (decide (keepP FK FS (delF FV 0) FT (keyE (h.map txE)) (sesE (h.map txE)) (valA (h.map txE)) (stL h)))) ∧ Below wy.heap.size wy w') := hid (by
  intro u' hc pk ps pv pt wx wy hx hu hxy b hR
  have hy := below_then hx hxy
  obtain ⟨h64, hop, _⟩ := checkI_right hc
  have q := hN.below hy
  have hl1 := keyE_len h
  have hl2 := valA_len h
  have hl3 : (sesE (h.map txE)).length = h.length := by unfold sesE; simp
  have hl4 := stL_len h
  have hi : ∀ t ∈ h, t.ok := hok
  refine rnkeeps_any vK vS u' vT vO pk ps pv pt FK FS (delF FV 0) FT _ _ _ _ wy ⟨q.k, q.s, hu.below hxy, q.t⟩ (by obtain ⟨a, c, e, _⟩ := hO.form; exact ⟨a, _, c, e⟩) hR.o0.ints hR.o1.ints hR.o2.ints hR.o3.ints ?_ ?_ ?_ ?_ fk.inF fs.inF (fv.del 0).inF (by omega) (by omega) (by omega) (by omega)
  ·intro x hx
   unfold keyE at hx
   obtain ⟨e, he, hx⟩ := List.mem_flatMap.1 hx
   obtain ⟨t, ht, rfl⟩ := List.mem_map.1 he
   obtain ⟨o, ho, rfl⟩ := List.mem_map.1 hx
   exact inI_of ((hok t ht).2 o ho).1
  ·intro x hx
   unfold sesE at hx
   obtain ⟨e, he, rfl⟩ := List.mem_map.1 hx
   obtain ⟨t, ht, rfl⟩ := List.mem_map.1 he
   exact inI_of (hok t ht).1.1
  ·intro x hx
   unfold valA at hx
   obtain ⟨e, he, hx⟩ := List.mem_flatMap.1 hx
   obtain ⟨t, ht, rfl⟩ := List.mem_map.1 he
   obtain ⟨o, ho, rfl⟩ := List.mem_map.1 hx
   exact inI_of ((hok t ht).2 o ho).2
  ·intro x hx
   unfold stL at hx
   obtain ⟨t, ht, hx⟩ := List.mem_flatMap.1 hx
   rcases List.mem_cons.1 hx with rfl | hx
   ·exact inI_of (hok t ht).1.2.1
   ·rw [List.mem_singleton] at hx
    subst hx
    exact inI_of (hok t ht).1.2.2)
 have HNM : Hid (∀ u', checkI h = 0 → wholeP L h.length → ∀ wx wy, Below w.heap.size w wx → NmI wx u' (delF FV 0) → Below wx.heap.size wx wy → Calls Tryz.prog 44 #[hv, .agg #[vK, vS, u', vT, vO]] wy fun e w' => ∃ v c, e = .returned v ∧ OwnH w' wy.heap.size v c ∧ c.map txE = namL (nmF FS) (nmF FT) (nmF FK) (nmF (delF FV 0)) L h ∧ Below wy.heap.size wy w') := hid (by
  intro u' hc hw wx wy hx hu hxy
  have hy := below_then hx hxy
  obtain ⟨h64, hop, _⟩ := checkI_right hc
  have q := hN.below hy
  exact rnamed_any hv vK vS u' vT vO FK FS (delF FV 0) FT L h wy ⟨q.k, q.s, hu.below hxy, q.t⟩ (hO.below hy) (hT.below hy) (whole_ord hw) (by omega) (fun t ht => by
   obtain ⟨⟨o1, o2, o3⟩, o4⟩ := hok t ht
   refine ⟨inI_of o1, inI_of o2, inI_of o3, ?_, fun o ho => ⟨inI_of (o4 o ho).1, inI_of (o4 o ho).2⟩⟩
   obtain ⟨i, hi, rfl⟩ := List.getElem_of_mem ht
   have h1 := opsN_take h i hi
   have h2 := opsN_le h (i + 1)
   omega))
 have HNO : Hid (wholeP L h.length → ∀ c : List TxnV, c.map txE = namL (nmF FS) (nmF FT) (nmF FK) (nmF (delF FV 0)) L h → (∀ t ∈ c, t.ok) ∧ Short c) := hid (fun hw c hce => named_ok (whole_ord hw) hce fs ft fk (fv.del 0) hok hsh)
 obtain ⟨mK, rfl⟩ := hN.k.form
 obtain ⟨mS, rfl⟩ := hN.s.form
 obtain ⟨mV, rfl⟩ := hN.v.form
 obtain ⟨mT, rfl⟩ := hN.t.form
 obtain ⟨qa, qc, rfl, _⟩ := hO.form
 obtain ⟨ao, cap, rfl, _⟩ := hT.form
 have hbx := BoxN.new w 34 #[.map mK, .map mS, .map mV, .map mT, .slice qa L.length qc]
 have hb1 := box_below w (.cells #[.map mK, .map mS, .map mV, .map mT, .slice qa L.length qc] 34)
 have hsw : w.heap.size < (w.alloc (.cells #[.map mK, .map mS, .map mV, .map mT, .slice qa L.length qc] 34)).heap.size := by simp
 clear hN hO hT hok hsh fk fs fv ft hLn
 go_enter Tryz.func13, Tryz.ntmps13
 go_upto_region 1 with fail
 generalize w.alloc (.cells #[.map mK, .map mS, .map mV, .map mT, .slice qa L.length qc] 34) = w1 at *
 have HX1 := hid hbx
 have CC1 := hid (CC.out _ hb1)
 clear hbx CC
 by_cases hc : checkI h = 0
 ·rw [hc] at CC1
  have HCC := hid hc
  have COF1 := hid (COF.out hc)
  have HK' := hid (fun u' => HK.out u' hc)
  have HNM' := hid (fun u' => HNM.out u' hc)
  clear hc COF HK HNM
  go_wp2_with fail
  refine CC1.out.mono ?_
  rintro e w2 ⟨rfl, h2⟩
  have hb2 := below_then hb1 h2
  have HX2 := hid (HX1.out.below h2)
  have y4 := HX2.out.cell (i := 4) rfl
  have CW1 := hid (CW.out _ hb2)
  obtain ⟨q, hq⟩ : ∃ q, decide (wholeP L h.length) = q := ⟨_, rfl⟩
  rw [hq] at CW1
  have HQ := hid hq
  have h12 : w1.heap.size ≤ w2.heap.size := h2.size
  clear hq CC1 HX1 CW h2
  go_wp2_with fail
  refine CW1.out.mono ?_
  rintro e w3 ⟨rfl, h3⟩
  have hb3 := below_then hb2 h3
  cases q with
  | false =>
   have HF := hid (of_decide_eq_false HQ.out)
   clear HQ
   go_wp2_with fail
   go_ret2
   exact ⟨.inr ⟨fun a => HF.out a.2.1, rfl⟩, hb3⟩
  | true =>
   have HWP := hid (of_decide_eq_true HQ.out)
   have HNM2 := hid (fun u' => HNM'.out u' HWP.out)
   have HNO := hid (HNO.out HWP.out)
   have HX3 := hid (HX2.out.below h3)
   have h13 : w.heap.size < w3.heap.size := by have := h3.size; omega
   have y2 := HX3.out.cell (i := 2) rfl
   have CM1 := hid (CM.out _ hb3)
   clear HQ CW1 HX2 y4 CM h3 HNM'
   go_wp2_with fail
   refine CM1.out.mono ?_
   rintro e w4 ⟨hcl, h4⟩
   obtain ⟨o, rfl, HQ⟩ : ∃ o, e = .returned (.map o) ∧ Hid ((o = none ∧ FV = fun _ => none) ∨ ∃ n c, o = some w3.heap.size ∧ MapI eI Tryz.prog 3 w4 w3.heap.size n FV c) := by
    rcases hcl with ⟨rfl, q⟩ | ⟨n, c, rfl, q⟩
    ·exact ⟨_, rfl, hid (.inl ⟨rfl, q⟩)⟩
    ·exact ⟨_, rfl, hid (.inr ⟨n, c, rfl, q⟩)⟩
   have hb4 := below_then hb3 h4
   have HX4 := hid (HX3.out.below h4)
   have z2 := HX4.out.cell (i := 2) rfl
   have zf2 := HX4.out.free 2
   clear hcl CM1 HX3 y2 h4
   go_upto_region 4 with fail
   have HX5 : Hid (BoxN (w4.setCell ⟨w.heap.size, 2, none⟩ (.map o)) w.heap.size 34 #[.map mK, .map mS, .map o, .map mT, .slice qa L.length qc]) := hid (HX4.out.set 2 (.map o))
   have hb5 := hb4.setCell (p := ⟨w.heap.size, 2, none⟩) (Nat.le_refl _) (.map o)
   have HQ5 : Hid ((o = none ∧ FV = fun _ => none) ∨ ∃ n c, o = some w3.heap.size ∧ MapI eI Tryz.prog 3 (w4.setCell ⟨w.heap.size, 2, none⟩ (.map o)) w3.heap.size n FV c) := hid (HQ.out.imp id (fun ⟨n, c, q1, q2⟩ => ⟨n, c, q1, q2.kept (grown_set w4 ⟨w.heap.size, 2, none⟩ (.map o)) (fun e => by injection e with e; exact absurd e (by show w3.heap.size ≠ w.heap.size; omega))⟩))
   clear HQ HX4 z2 zf2 hb4
   generalize w4.setCell ⟨w.heap.size, 2, none⟩ (.map o) = w5 at *
   have z2 := HX5.out.cell (i := 2) rfl
   go_cut [23] from 22 to 23 (fun u wx => ∃ m2 : Option Nat, Hid (NmI wx (.map m2) (delF FV 0)) ∧ Hid (BoxN wx w.heap.size 34 #[.map mK, .map mS, .map m2, .map mT, .slice qa L.length qc]) ∧ Hid (Below w.heap.size w wx))
   case first =>
    rcases HQ5.out with ⟨rfl, q⟩ | ⟨n, c, rfl, q⟩
    ·have HD : Hid (delF FV 0 = fun _ => none) := hid (by rw [q]; funext y; unfold delF; split <;> rfl)
     clear q
     go_wp2_with (first | (at_delete; refine wpList_delN _ rfl _ _ 32 3 rfl 3 keyI mapII rfl 0 rfl rfl ?_) | go_in)
     go_meet
     case rel => exact ⟨none, hid (.inl ⟨rfl, HD.out⟩), HX5, hid hb5⟩
    ·go_wp2_with (first | (at_delete; refine wpList_delI _ rfl _ _ 32 3 rfl 3 keyI mapII _ _ _ _ rfl q 0 rfl rfl ?_; intro w6 c6 hM6 hg6) | go_in)
     go_meet
     case rel => exact ⟨_, hid (.inr ⟨_, _, _, rfl, hM6⟩), hid (HX5.out.kept hg6 (fun e => by injection e with e; omega)), hid (hb5.grown hg6 hb5.size (fun k hk => by injection hk with e; omega))⟩
   case rest =>
    obtain ⟨m2, HV2, HX5, HB5⟩ := hcut
    obtain ⟨q2, hq2⟩ : ∃ q, decide (keepP FK FS (delF FV 0) FT (keyE (h.map txE)) (sesE (h.map txE)) (valA (h.map txE)) (stL h)) = q := ⟨_, rfl⟩
    have CK := hid (fun pk ps pv pt wy (hx : Below w.heap.size w wy) (hxy : Below wc.heap.size wc wy) b hR => HK'.out (.map m2) pk ps pv pt wc wy HB5.out HV2.out hxy b hR)
    rw [hq2] at CK
    have HK1 := hid (fun (e : q2 = true) => of_decide_eq_true (hq2.trans e))
    have HK0 := hid (fun (e : q2 = false) => of_decide_eq_false (hq2.trans e))
    have CN := hid (fun wy (hx : Below w.heap.size w wy) (hxy : Below wc.heap.size wc wy) => HNM2.out (.map m2) wc wy HB5.out HV2.out hxy)
    clear hq2 HK' HNM2 HV2
    go_upto_region 5 with fail
    have kd := (Below.refl wc.heap.size wc).drew
    have hb5d := HB5.out.drew
    have HX5d := hid (HX5.out.below kd)
    clear HX5 HB5
    refine wp_region_held_drew (S := fun wx => BoxN wx w.heap.size 34 #[.map mK, .map mS, .map m2, .map mT, .slice qa L.length qc]) (by kernel_rfl) HX5d.out (fun hS0 => ?_)
    generalize wc.drew = w6 at *
    refine tG (some 24) 0 ?vha0x1 rfl rfl (Or.inl ⟨by rfl, ?hha0x1⟩) hS0 ?rha0x1
    case hha0x1 => (intro w hw; have y0 := hw.cell (i := 0) rfl; have y1 := hw.cell (i := 1) rfl; have y2 := hw.cell (i := 2) rfl; have y3 := hw.cell (i := 3) rfl; have y4 := hw.cell (i := 4) rfl; go_simp; try (with_reducible rfl))
    try simp only [Act.put, zA, zB, zC]
    refine tG (some 25) 1 ?vha1x2 rfl rfl (Or.inl ⟨by rfl, ?hha1x2⟩) hS0 ?rha1x2
    case hha1x2 => (intro w hw; have y0 := hw.cell (i := 0) rfl; have y1 := hw.cell (i := 1) rfl; have y2 := hw.cell (i := 2) rfl; have y3 := hw.cell (i := 3) rfl; have y4 := hw.cell (i := 4) rfl; go_simp; try (with_reducible rfl))
    try simp only [Act.put, zA, zB, zC]
    refine rD 2 rfl (fun K hK => ?_)
    go_simp
    refine (COF1.out _ hb5d).mono ?_
    rintro e w7 ⟨⟨vk, vs, vv, vt, rfl, hR⟩, h7⟩
    have hb7 := below_then hb5d h7
    have s7 := BoxN.below hS0 h7
    have CKP := hid (CK.out vk vs vv vt w7 hb7 (below_then kd h7) _ hR)
    clear hR
    show K _ _
    refine hK.out _ _ s7 (fun _ => ?_)
    clear hK K
    refine rD 3 rfl (fun K hK => ?_)
    go_simp
    refine CKP.out.mono ?_
    rintro e w8 ⟨rfl, h8⟩
    have hb8 := below_then hb7 h8
    have hb5w := below_then (below_then kd h7) h8
    have s8 := BoxN.below s7 h8
    show K _ _
    refine hK.out _ _ s8 (fun _ => ?_)
    clear hK K
    refine tG (some 28) 4 ?vha4x5 rfl rfl (Or.inl ⟨by rfl, ?hha4x5⟩) s8 ?rha4x5
    case hha4x5 => (intro w hw; have y0 := hw.cell (i := 0) rfl; have y1 := hw.cell (i := 1) rfl; have y2 := hw.cell (i := 2) rfl; have y3 := hw.cell (i := 3) rfl; have y4 := hw.cell (i := 4) rfl; go_simp; try (with_reducible rfl))
    try simp only [Act.put, zA, zB, zC]
    refine wpAnyH_done (by kernel_rfl) ?_ _
    try simp only [Act.put]
    cases q2 with
    | false =>
     have HKF := hid (HK0.out rfl)
     clear HK0 HK1
     go_wp2_with fail
     go_ret2
     exact ⟨.inr ⟨fun a => HKF.out a.2.2.1, rfl⟩, hb8⟩
    | true =>
     have HKY := hid (HK1.out rfl)
     have HX8 := hid s8
     have CN1 := hid (CN.out w8 hb8 hb5w)
     have y0 := HX8.out.cell (i := 0) rfl; have y1 := HX8.out.cell (i := 1) rfl; have y2 := HX8.out.cell (i := 2) rfl; have y3 := HX8.out.cell (i := 3) rfl; have y4 := HX8.out.cell (i := 4) rfl
     clear s7 s8 CKP h7 h8 hb7 hb5d COF1 CK HK0 HK1 CN
     go_wp2_with fail
     refine CN1.out.mono ?_
     rintro e w9 ⟨v, c, rfl, hM, hce, h9⟩
     have hb9 := below_then hb8 h9
     have HOK := hid (HNO.out c hce)
     have CX := hid (hcheck_any v c w9 hM.txns HOK.out.1 HOK.out.2)
     have HXE : Hid (checkI c = checkI ((namL (nmF FS) (nmF FT) (nmF FK) (nmF (delF FV 0)) L h).map tx0)) := hid (checkI_txE (by rw [tx0_txE, hce]))
     rw [HXE.out] at CX
     obtain ⟨av, cv, rfl⟩ : ∃ a cp, v = .slice a c.length cp := by
      obtain ⟨a, cp, e, _⟩ := hM.txns.form
      exact ⟨a, cp, e⟩
     have HM := hid (fun wx (hx : Below w9.heap.size w9 wx) => hM.below hx)
     have HS8 := hid hb8.size
     have HCE := hid hce
     clear hM hce HOK HXE CN1 h9 HX8 y0 y1 y2 y3 y4
     by_cases hz : checkI ((namL (nmF FS) (nmF FT) (nmF FK) (nmF (delF FV 0)) L h).map tx0) = 0
     ·rw [hz] at CX
      have HZ := hid hz
      clear hz
      go_wp2_with fail
      refine CX.out.mono ?_
      rintro e w10 ⟨rfl, h10⟩
      have hb10 := below_then hb9 h10
      have hM := HM.out _ h10
      go_wp2_with fail
      go_ret2
      exact ⟨.inl ⟨⟨HCC.out, HWP.out, HKY.out, HZ.out⟩, _, rfl, c, ⟨owns_weak hM.1 HS8.out, fun t ht => owns_weak (hM.2.1 t ht) HS8.out, hM.2.2⟩, HCE.out⟩, hb10⟩
     ·have HZ := hid hz
      obtain ⟨z, hzz⟩ : ∃ z, checkI ((namL (nmF FS) (nmF FT) (nmF FK) (nmF (delF FV 0)) L h).map tx0) = z := ⟨_, rfl⟩
      rw [hzz] at CX hz
      clear hzz
      have hz2 : (z == 0) = false := by rw [beq_eq_false_iff_ne]; exact hz
      go_wp2_with fail
      refine CX.out.mono ?_
      rintro e w10 ⟨rfl, h10⟩
      have hb10 := below_then hb9 h10
      go_wp2_with fail
      go_ret2
      exact ⟨.inr ⟨fun a => HZ.out a.2.2.2, rfl⟩, hb10⟩
 ·have HF := hid hc
  obtain ⟨z, hz⟩ : ∃ z, checkI h = z := ⟨_, rfl⟩
  rw [hz] at CC1 hc
  clear hz COF HK HNM
  have hz2 : (z == 0) = false := by rw [beq_eq_false_iff_ne]; exact hc
  go_wp2_with fail
  refine CC1.out.mono ?_
  rintro e w2 ⟨rfl, h2⟩
  have hb2 := below_then hb1 h2
  go_wp2_with fail
  go_ret2
  exact ⟨.inr ⟨fun a => HF.out a.1, rfl⟩, hb2⟩
end

section
open Go.RowKit
def nF : Int → Option Int := fun _ => none
theorem okN_none : OkN nF := fun _ hx => hx
end

section
open Go.RowKit
def bigN (lk ls lv lt : List (Int × Int)) (L : List Int) : Prop := 50 < lk.length ∨ 50 < ls.length ∨ 50 < lv.length ∨ 50 < lt.length ∨ 100 < L.length
instance (lk ls lv lt : List (Int × Int)) (L : List Int) : Decidable (bigN lk ls lv lt L) := by unfold bigN; infer_instance
theorem NmI.box {w w' : World} {v : Value} {F : Int → Option Int} {p : Nat} {t : TypeId} {cs : Array Value} (h : NmI w v F) (hp : BoxN w p t cs) (hg : w.grownBy w' (some p)) : NmI w' v F := by
 rcases h with ⟨rfl, rfl⟩ | ⟨b, n, c, rfl, hM⟩
 ·exact .inl ⟨rfl, rfl⟩
 ·refine .inr ⟨b, n, c, rfl, hM.kept hg (fun e => ?_)⟩
  injection e with e
  subst e
  obtain ⟨D, ⟨es, clock, hb, _⟩, _⟩ := hM
  unfold BoxN at hp
  rw [hp] at hb
  cases hb
set_option linter.unusedSimpArgs false in
theorem map21_any (vk vs vv vt vo : Value) (lk ls lv lt : List (Int × Int)) (L : List Int) (w : World) (hk : PrN w vk lk) (hs : PrN w vs ls) (hv : PrN w vv lv) (ht : PrN w vt lt) (ho : Ints w vo L)
  (ik : ∀ p ∈ lk, InI p.1) (is : ∀ p ∈ ls, InI p.1) (iv : ∀ p ∈ lv, InI p.1) (it : ∀ p ∈ lt, InI p.1) (nk : lk.length ≤ 100000) (ns : ls.length ≤ 100000) (nv : lv.length ≤ 100000) (nt : lt.length ≤ 100000) :
  Calls Tryz.prog 14 #[.agg #[vk, vs, vv, vt, vo]] w fun e w' => (∃ uK uS uV uT, e = .returned (.agg #[uK, uS, uV, uT, vo]) ∧ NmA w' uK uS uV uT (ofF lk) (ofF ls) (ofF lv) (ofF lt)) ∧ Below w.heap.size w w' := by
 have Ck := hid (fun wx (hx : Below w.heap.size w wx) => lof21_any vk lk wx (hk.below hx) ik nk)
 have Cs := hid (fun wx (hx : Below w.heap.size w wx) => lof21_any vs ls wx (hs.below hx) is ns)
 have Cv := hid (fun wx (hx : Below w.heap.size w wx) => lof21_any vv lv wx (hv.below hx) iv nv)
 have Ct := hid (fun wx (hx : Below w.heap.size w wx) => lof21_any vt lt wx (ht.below hx) it nt)
 obtain ⟨ak, ck, rfl, _⟩ := hk.form
 obtain ⟨az, cs, rfl, _⟩ := hs.form
 obtain ⟨av, cv, rfl, _⟩ := hv.form
 obtain ⟨at_, ct, rfl, _⟩ := ht.form
 obtain ⟨ao, co, rfl, _⟩ := ho.form
 have hx1 := BoxN.new w 26 #[.slice ak lk.length ck, .slice az ls.length cs, .slice av lv.length cv, .slice at_ lt.length ct, .slice ao L.length co]
 have hz1 := BoxN.new (w.alloc (.cells #[.slice ak lk.length ck, .slice az ls.length cs, .slice av lv.length cv, .slice at_ lt.length ct, .slice ao L.length co] 26)) 34 #[.map none, .map none, .map none, .map none, .slice none 0 0]
 rw [show (w.alloc (.cells #[.slice ak lk.length ck, .slice az ls.length cs, .slice av lv.length cv, .slice at_ lt.length ct, .slice ao L.length co] 26)).heap.size = w.heap.size + 1 from by simp] at hz1
 have hb1 := box_below w (.cells #[.slice ak lk.length ck, .slice az ls.length cs, .slice av lv.length cv, .slice at_ lt.length ct, .slice ao L.length co] 26)
 have hb2 := hb1.alloc hb1.size (.cells #[.map none, .map none, .map none, .map none, .slice none 0 0] 34)
 have hx2 := hx1.below (box_below _ (.cells #[.map none, .map none, .map none, .map none, .slice none 0 0] 34))
 clear hk hs hv ht ho ik is iv it nk ns nv nt hx1 hb1
 obtain ⟨p2, hp2⟩ : ∃ p, w.heap.size + 1 = p := ⟨_, rfl⟩
 have HP2 := hid hp2
 rw [hp2] at hz1
 have hq2 : w.heap.size ≤ p2 := by omega
 have hq3 : w.heap.size < p2 := by omega
 clear hp2
 go_enter Tryz.func14, Tryz.ntmps14
 go_upto_region 1 with fail
 generalize (w.alloc (.cells #[.slice ak lk.length ck, .slice az ls.length cs, .slice av lv.length cv, .slice at_ lt.length ct, .slice ao L.length co] 26)).alloc (.cells #[.map none, .map none, .map none, .map none, .slice none 0 0] 34) = w2 at *
 rw [HP2.out]
 have HX := hid hx2
 have HZ := hid hz1
 clear hx2 hz1
 have kd := (Below.refl w2.heap.size w2).drew
 have HX := hid (HX.out.below kd)
 have HZ := hid (HZ.out.below kd)
 have hbd := hb2.drew
 clear kd hb2
 refine wp_region_held_drew (S := fun wx => BoxN wx w.heap.size 26 #[.slice ak lk.length ck, .slice az ls.length cs, .slice av lv.length cv, .slice at_ lt.length ct, .slice ao L.length co]) (by kernel_rfl) HX.out (fun hS0 => ?_)
 generalize w2.drew = wd at *
 refine tG (some 3) 0 ?vha0x1 rfl rfl (Or.inl ⟨by rfl, ?hha0x1⟩) hS0 ?rha0x1
 case hha0x1 => (intro w hw; have y0 := hw.cell (i := 0) rfl; have y1 := hw.cell (i := 1) rfl; have y2 := hw.cell (i := 2) rfl; have y3 := hw.cell (i := 3) rfl; have y4 := hw.cell (i := 4) rfl; go_simp; try (with_reducible rfl))
 try simp only [Act.put, zA, zB, zC]
 refine tG (some 4) 1 ?vha1x2 rfl rfl (Or.inl ⟨by rfl, ?hha1x2⟩) hS0 ?rha1x2
 case hha1x2 => (intro w hw; have y0 := hw.cell (i := 0) rfl; have y1 := hw.cell (i := 1) rfl; have y2 := hw.cell (i := 2) rfl; have y3 := hw.cell (i := 3) rfl; have y4 := hw.cell (i := 4) rfl; go_simp; try (with_reducible rfl))
 try simp only [Act.put, zA, zB, zC]
 refine tG (some 6) 3 ?vha3x3 rfl rfl (Or.inl ⟨by rfl, ?hha3x3⟩) hS0 ?rha3x3
 case hha3x3 => (intro w hw; have y0 := hw.cell (i := 0) rfl; have y1 := hw.cell (i := 1) rfl; have y2 := hw.cell (i := 2) rfl; have y3 := hw.cell (i := 3) rfl; have y4 := hw.cell (i := 4) rfl; go_simp; try (with_reducible rfl))
 try simp only [Act.put, zA, zB, zC]
 refine tG (some 7) 4 ?vha4x4 rfl rfl (Or.inl ⟨by rfl, ?hha4x4⟩) hS0 ?rha4x4
 case hha4x4 => (intro w hw; have y0 := hw.cell (i := 0) rfl; have y1 := hw.cell (i := 1) rfl; have y2 := hw.cell (i := 2) rfl; have y3 := hw.cell (i := 3) rfl; have y4 := hw.cell (i := 4) rfl; go_simp; try (with_reducible rfl))
 try simp only [Act.put, zA, zB, zC]
 refine tG (some 9) 6 ?vha6x5 rfl rfl (Or.inl ⟨by rfl, ?hha6x5⟩) hS0 ?rha6x5
 case hha6x5 => (intro w hw; have y0 := hw.cell (i := 0) rfl; have y1 := hw.cell (i := 1) rfl; have y2 := hw.cell (i := 2) rfl; have y3 := hw.cell (i := 3) rfl; have y4 := hw.cell (i := 4) rfl; go_simp; try (with_reducible rfl))
 try simp only [Act.put, zA, zB, zC]
 refine tG (some 10) 7 ?vha7x6 rfl rfl (Or.inl ⟨by rfl, ?hha7x6⟩) hS0 ?rha7x6
 case hha7x6 => (intro w hw; have y0 := hw.cell (i := 0) rfl; have y1 := hw.cell (i := 1) rfl; have y2 := hw.cell (i := 2) rfl; have y3 := hw.cell (i := 3) rfl; have y4 := hw.cell (i := 4) rfl; go_simp; try (with_reducible rfl))
 try simp only [Act.put, zA, zB, zC]
 refine tG (some 12) 9 ?vha9x7 rfl rfl (Or.inl ⟨by rfl, ?hha9x7⟩) hS0 ?rha9x7
 case hha9x7 => (intro w hw; have y0 := hw.cell (i := 0) rfl; have y1 := hw.cell (i := 1) rfl; have y2 := hw.cell (i := 2) rfl; have y3 := hw.cell (i := 3) rfl; have y4 := hw.cell (i := 4) rfl; go_simp; try (with_reducible rfl))
 try simp only [Act.put, zA, zB, zC]
 refine tG (some 13) 10 ?vha10x8 rfl rfl (Or.inl ⟨by rfl, ?hha10x8⟩) hS0 ?rha10x8
 case hha10x8 => (intro w hw; have y0 := hw.cell (i := 0) rfl; have y1 := hw.cell (i := 1) rfl; have y2 := hw.cell (i := 2) rfl; have y3 := hw.cell (i := 3) rfl; have y4 := hw.cell (i := 4) rfl; go_simp; try (with_reducible rfl))
 try simp only [Act.put, zA, zB, zC]
 refine tG (some 15) 12 ?vha12x9 rfl rfl (Or.inl ⟨by rfl, ?hha12x9⟩) hS0 ?rha12x9
 case hha12x9 => (intro w hw; have y0 := hw.cell (i := 0) rfl; have y1 := hw.cell (i := 1) rfl; have y2 := hw.cell (i := 2) rfl; have y3 := hw.cell (i := 3) rfl; have y4 := hw.cell (i := 4) rfl; go_simp; try (with_reducible rfl))
 try simp only [Act.put, zA, zB, zC]
 refine tG (some 16) 13 ?vha13x10 rfl rfl (Or.inl ⟨by rfl, ?hha13x10⟩) hS0 ?rha13x10
 case hha13x10 => (intro w hw; have y0 := hw.cell (i := 0) rfl; have y1 := hw.cell (i := 1) rfl; have y2 := hw.cell (i := 2) rfl; have y3 := hw.cell (i := 3) rfl; have y4 := hw.cell (i := 4) rfl; go_simp; try (with_reducible rfl))
 try simp only [Act.put, zA, zB, zC]
 refine rD 2 rfl (fun K hK => ?_)
 go_simp
 refine (Ck.out _ hbd).mono ?_
 rintro e w3 ⟨⟨b0, n0, c0, rfl, _, _, hm0⟩, h0⟩
 have hb3 := below_then hbd h0
 have HM0 := hid (show NmI w3 (.map (some b0)) (ofF lk) from .inr ⟨_, _, _, rfl, hm0⟩)
 have HZ := hid (HZ.out.below h0)
 have s0 := BoxN.below hS0 h0
 clear Ck hm0 h0
 show K _ _
 refine hK.out _ _ s0 (fun _ => ?_)
 clear hK K
 refine rD 5 rfl (fun K hK => ?_)
 go_simp
 refine (Cs.out _ hb3).mono ?_
 rintro e w4 ⟨⟨b1, n1, c1, rfl, _, _, hm1⟩, h1⟩
 have hb4 := below_then hb3 h1
 have HM1 := hid (show NmI w4 (.map (some b1)) (ofF ls) from .inr ⟨_, _, _, rfl, hm1⟩)
 have HM0 := hid (HM0.out.below h1)
 have HZ := hid (HZ.out.below h1)
 have s1 := BoxN.below s0 h1
 clear Cs hm1 h1
 show K _ _
 refine hK.out _ _ s1 (fun _ => ?_)
 clear hK K
 refine rD 8 rfl (fun K hK => ?_)
 go_simp
 refine (Cv.out _ hb4).mono ?_
 rintro e w5 ⟨⟨b2, n2, c2, rfl, _, _, hm2⟩, h2⟩
 have hb5 := below_then hb4 h2
 have HM2 := hid (show NmI w5 (.map (some b2)) (ofF lv) from .inr ⟨_, _, _, rfl, hm2⟩)
 have HM0 := hid (HM0.out.below h2)
 have HM1 := hid (HM1.out.below h2)
 have HZ := hid (HZ.out.below h2)
 have s2 := BoxN.below s1 h2
 clear Cv hm2 h2
 show K _ _
 refine hK.out _ _ s2 (fun _ => ?_)
 clear hK K
 refine rD 11 rfl (fun K hK => ?_)
 go_simp
 refine (Ct.out _ hb5).mono ?_
 rintro e w6 ⟨⟨b3, n3, c3, rfl, _, _, hm3⟩, h3⟩
 have hb6 := below_then hb5 h3
 have HM3 := hid (show NmI w6 (.map (some b3)) (ofF lt) from .inr ⟨_, _, _, rfl, hm3⟩)
 have HM0 := hid (HM0.out.below h3)
 have HM1 := hid (HM1.out.below h3)
 have HM2 := hid (HM2.out.below h3)
 have HZ := hid (HZ.out.below h3)
 have s3 := BoxN.below s2 h3
 clear Ct hm3 h3
 show K _ _
 refine hK.out _ _ s3 (fun _ => ?_)
 clear hK K
 refine tG (some 17) 14 ?vha14x15 rfl rfl (Or.inl ⟨by rfl, ?hha14x15⟩) s3 ?rha14x15
 case hha14x15 => (intro w hw; have y0 := hw.cell (i := 0) rfl; have y1 := hw.cell (i := 1) rfl; have y2 := hw.cell (i := 2) rfl; have y3 := hw.cell (i := 3) rfl; have y4 := hw.cell (i := 4) rfl; go_simp; try (with_reducible rfl))
 try simp only [Act.put, zA, zB, zC]
 refine rD 15 rfl (fun K hK => ?_)
 have hbP := hid (below_setRow hb6 hq2 #[.map (some b0), .map (some b1), .map (some b2), .map (some b3), .slice ao L.length co])
 have hgr := grown_setRow w6 p2 #[.map (some b0), .map (some b1), .map (some b2), .map (some b3), .slice ao L.length co]
 have hinf : (Tryz.prog.info? 34).map (·.size) = some (#[.map (some b0), .map (some b1), .map (some b2), .map (some b3), .slice ao L.length co] : Array Value).size := (show (Tryz.prog.info? 34).map (·.size) = some 5 by kernel_rfl)
 have HNA : Hid (NmA (w6.setRow p2 #[.map (some b0), .map (some b1), .map (some b2), .map (some b3), .slice ao L.length co]) (.map (some b0)) (.map (some b1)) (.map (some b2)) (.map (some b3)) (ofF lk) (ofF ls) (ofF lv) (ofF lt)) := hid ⟨HM0.out.box HZ.out hgr, HM1.out.box HZ.out hgr, HM2.out.box HZ.out hgr, HM3.out.box HZ.out hgr⟩
 have HPB := hid HZ.out
 rw [if_pos (by rfl)]
 refine wp_store_row 34 _ _ rfl p2 #[.map (some b0), .map (some b1), .map (some b2), .map (some b3), .slice ao L.length co] rfl rfl _ _ HZ.out hinf rfl (by simp [Value.oneCell']) ?_
 have s9 := (setRow_other w6 p2 w.heap.size #[.map (some b0), .map (some b1), .map (some b2), .map (some b3), .slice ao L.length co] (by omega)).trans s3
 refine hK.out _ _ s9 (fun _ => ?_)
 clear hK K hgr
 refine wpAnyH_done (by kernel_rfl) ?_ _
 try simp only [Act.put]
 go_wp2_with fail
 refine bodyPost_ret (v := .agg #[.map (some b0), .map (some b1), .map (some b2), .map (some b3), .slice ao L.length co]) (results_cell_row rfl _ _ p2 _ #[.map (some b0), .map (some b1), .map (some b2), .map (some b3), .slice ao L.length co] _ _ rfl (setRow_heap _ _ _ _ _ _ HPB.out) Tryz.underlying34 rfl hinf) rfl ?_
 exact ⟨⟨_, _, _, _, rfl, HNA.out⟩, hbP.out⟩
end

section
open Go.RowKit
theorem okN_putF {F : Int → Option Int} (hF : OkN F) {k v : Int} (hv : IntOk v) : OkN (putF F k v) := fun x hx => by
 have q := hF x hx
 unfold nmF putF at *
 by_cases e : x = k
 ·rw [if_pos e]; exact hv
 ·rw [if_neg e]; exact q
theorem okN_fold : ∀ (l : List (Int × Int)) (F : Int → Option Int), OkN F → (∀ p ∈ l, IntOk p.2) → OkN (l.foldl (fun f p => putF f p.1 p.2) F)
 | [], _, hF, _ => hF
 | p :: l, _, hF, h => okN_fold l _ (okN_putF hF (h p List.mem_cons_self)) (fun q hq => h q (List.mem_cons_of_mem _ hq))
theorem okN_of {l : List (Int × Int)} (h : ∀ p ∈ l, IntOk p.2) : OkN (ofF l) := okN_fold l _ okN_none h
end

section
open Go.RowKit
theorem wsum {a b : Nat} (h : a + b ≤ 36000000000000) : wrap64 ((a : Int) + (b : Int)) = ((a + b : Nat) : Int) := by
 have := wrap64_small (a := (a : Int) + (b : Int)) (by omega) (by omega)
 rw [this]; omega
theorem nm_sum {a b c d : Nat} (ha : a ≤ 9000000000000) (hb : b ≤ 9000000000000) (hc : c ≤ 9000000000000) (hd : d ≤ 9000000000000) :
  wrap64 ((a : Int) + (b : Int)) = ((a + b : Nat) : Int) ∧ wrap64 (((a + b : Nat) : Int) + (c : Int)) = ((a + b + c : Nat) : Int) ∧ wrap64 (((a + b + c : Nat) : Int) + (d : Int)) = ((a + b + c + d : Nat) : Int) :=
 ⟨wsum (by omega), wsum (by omega), wsum (by omega)⟩
theorem nm_sum2 {a b c d : Nat} (ha : a ≤ 9000000000000) (hb : b ≤ 9000000000000) (hc : c ≤ 9000000000000) (hd : d ≤ 9000000000000) :
  wrap64 ((a : Int) + (b : Int)) = (a : Int) + (b : Int) ∧ wrap64 ((a : Int) + (b : Int) + (c : Int)) = (a : Int) + (b : Int) + (c : Int) ∧ wrap64 ((a : Int) + (b : Int) + (c : Int) + (d : Int)) = (a : Int) + (b : Int) + (c : Int) + (d : Int) := by
 obtain ⟨h1, h2, h3⟩ := nm_sum ha hb hc hd
 simp only [Int.natCast_add] at h1 h2 h3
 exact ⟨h1, h2, h3⟩
theorem nm_gt {a b c d : Nat} (h : 200 < a + b + c + d) : (200 : Int) < (a : Int) + (b : Int) + (c : Int) + (d : Int) := by omega
theorem nm_le {a b c d : Nat} (h : ¬ 200 < a + b + c + d) : ¬ (200 : Int) < (a : Int) + (b : Int) + (c : Int) + (d : Int) := by omega
theorem nm_few {a b c d e : Nat} (h : ¬ 200 < a + b + c + d) (k : ¬ 50 < e) : a ≤ 200 ∧ b ≤ 200 ∧ c ≤ 200 ∧ d ≤ 200 ∧ e ≤ 100 := by omega
theorem le5 {a n : Nat} (h : a ≤ n) (k : n ≤ 100000 := by decide) : a ≤ 100000 := by omega
end

section
open Go.RowKit
theorem canis_nil (w : World) : Calls Tryz.prog 34 #[.slice none 0 0] w fun e w' => e = .returned (.bool true) ∧ Below w.heap.size w w' := by
 have q := canis_ok (.slice none 0 0) [] [] w (txns_none w) (fun t ht => by cases ht) (fun t ht => by cases ht) rfl ⟨List.Perm.refl _, List.Pairwise.nil⟩
 rw [show decide (canE (([] : List TxnV).map txE) = ([] : List TxnV).map txE) = true from by decide] at q
 exact q
theorem wnames_walk (va vk vs vv vt vo : Value) (h : List TxnV) (lk ls lv lt : List (Int × Int)) (L : List Int) (w : World) (htb : Tab w) (hK : Kinds w) (hT : Txns w va h) (hok : ∀ t ∈ h, t.ok) (hsh : Short h)
  (hk : PrN w vk lk) (hs : PrN w vs ls) (hv : PrN w vv lv) (ht : PrN w vt lt) (ho : Ints w vo L) (ik : ∀ p ∈ lk, IntOk p.1 ∧ IntOk p.2) (is : ∀ p ∈ ls, IntOk p.1 ∧ IntOk p.2) (iv : ∀ p ∈ lv, IntOk p.1 ∧ IntOk p.2) (it : ∀ p ∈ lt, IntOk p.1 ∧ IntOk p.2) (nk : lk.length ≤ 9000000000000) (ns : ls.length ≤ 9000000000000) (nv : lv.length ≤ 9000000000000) (nt : lt.length ≤ 9000000000000) :
  Calls Tryz.prog 8 #[va, .agg #[vk, vs, vv, vt, vo]] w fun e w' => e = .returned (.bool true) ∧ Below w.heap.size w w' := by
 have hg := htb.pos
 have HT : Hid (∀ wx, Below w.heap.size w wx → Tab wx ∧ Kinds wx) := hid (fun wx hb => ⟨htb.below hb hg, hK.below hb⟩)
 have HH := hid (fun wx (hx : Below w.heap.size w wx) => hT.below hx)
 have CM := hid (fun (nk : lk.length ≤ 100000) (ns : ls.length ≤ 100000) (nv : lv.length ≤ 100000) (nt : lt.length ≤ 100000) wx (hx : Below w.heap.size w wx) => map21_any vk vs vv vt vo lk ls lv lt L wx (hk.below hx) (hs.below hx) (hv.below hx) (ht.below hx) (ho.below hx) (fun p hp => inI_of (ik p hp).1) (fun p hp => inI_of (is p hp).1) (fun p hp => inI_of (iv p hp).1) (fun p hp => inI_of (it p hp).1) nk ns nv nt)
 have HOL := hid (fun wx (hx : Below w.heap.size w wx) => ho.below hx)
 have fk := hid (okN_of fun p hp => (ik p hp).2)
 have fs := hid (okN_of fun p hp => (is p hp).2)
 have fv := hid (okN_of fun p hp => (iv p hp).2)
 have ft := hid (okN_of fun p hp => (it p hp).2)
 obtain ⟨ha, cap, rfl, hal⟩ := hT.form
 obtain ⟨ak, ck, rfl, _⟩ := hk.form
 obtain ⟨az, cs, rfl, _⟩ := hs.form
 obtain ⟨av, cv, rfl, _⟩ := hv.form
 obtain ⟨at_, ct, rfl, _⟩ := ht.form
 obtain ⟨ao, co, rfl, _⟩ := ho.form
 have HOK := hid hok
 have HSH := hid hsh
 have hx0 := BoxN.new w 26 #[.slice ak lk.length ck, .slice az ls.length cs, .slice av lv.length cv, .slice at_ lt.length ct, .slice ao L.length co]
 have hb0 := box_below w (.cells #[.slice ak lk.length ck, .slice az ls.length cs, .slice av lv.length cv, .slice at_ lt.length ct, .slice ao L.length co] 26)
 clear hg htb hK hT hok hk hs hv ht ho ik is iv it
 go_enter Tryz.func8, Tryz.ntmps8
 go_upto_region 1 with fail
 generalize w.alloc (.cells #[.slice ak lk.length ck, .slice az ls.length cs, .slice av lv.length cv, .slice at_ lt.length ct, .slice ao L.length co] 26) = w0 at *
 have HX := hid hx0
 have HSUM2 := hid (nm_sum2 nk ns nv nt)
 have C0 := hid (lone_any w0)
 have CI := hid canis_nil
 clear hx0 nk ns nv nt
 go_wp2_with fail
 refine (C0.out).mono ?_
 rintro e wa ⟨rfl, h1⟩
 have hba := below_then hb0 h1
 have HX := hid (HX.out.below h1)
 clear C0 h1 hb0
 go_wp2_with fail
 refine (CI.out _).mono ?_
 rintro e w1 ⟨rfl, h1⟩
 have hb1 := below_then hba h1
 have HX := hid (HX.out.below h1)
 clear CI h1 hba
 by_cases h5 : 6 < h.length
 ·have h5i : (6 : Int) < (h.length : Int) := by omega
  clear hsh
  go_wp2_with fail
  go_ret
  exact ⟨rfl, hb1⟩
 have h5i : ¬ (6 : Int) < (h.length : Int) := by omega
 have CC := hid (rcheck_any _ h w1 (HH.out _ hb1) hsh)
 rw [← check_ref] at CC
 by_cases hc : checkI h = 0
 rotate_left
 ·have hcn : ¬ checkI h = 0 := hc
  generalize checkI h = c at *
  have hcb : (c != 0) = true := by rw [bne_iff_ne]; exact hcn
  clear hsh hc
  go_wp2_with fail
  refine (CC.out).mono ?_
  rintro e w2 ⟨rfl, hb2⟩
  have hb2 := below_then hb1 hb2
  go_wp2_with fail
  go_ret
  exact ⟨rfl, hb2⟩
 rw [hc] at CC
 go_wp2_with fail
 refine (CC.out).mono ?_
 rintro e w2 ⟨rfl, h2⟩
 have hb2 := below_then hb1 h2
 have HX := hid (HX.out.below h2)
 have y0 := HX.out.cell (i := 0) rfl
 have y1 := HX.out.cell (i := 1) rfl
 have y2 := HX.out.cell (i := 2) rfl
 have y3 := HX.out.cell (i := 3) rfl
 have y4 := HX.out.cell (i := 4) rfl
 clear CC h2 hb1
 obtain ⟨s1', s2', s3'⟩ := HSUM2.out
 by_cases hs2 : 200 < lk.length + ls.length + lv.length + lt.length
 ·have hs2i : (200 : Int) < (lk.length : Int) + (ls.length : Int) + (lv.length : Int) + (lt.length : Int) := nm_gt hs2
  clear hsh
  go_wp2_with fail
  go_ret
  exact ⟨rfl, hb2⟩
 have hs2i : ¬ (200 : Int) < (lk.length : Int) + (ls.length : Int) + (lv.length : Int) + (lt.length : Int) := nm_le hs2
 by_cases hl5 : 50 < L.length
 ·have hl5i : (50 : Int) < (L.length : Int) := Int.ofNat_lt.2 hl5
  clear hsh
  go_wp2_with fail
  go_ret
  exact ⟨rfl, hb2⟩
 have hl5i : ¬ (50 : Int) < (L.length : Int) := fun q => hl5 (Int.ofNat_lt.1 q)
 have HNB : Hid (lk.length ≤ 200 ∧ ls.length ≤ 200 ∧ lv.length ≤ 200 ∧ lt.length ≤ 200 ∧ L.length ≤ 100) := hid (nm_few hs2 hl5)
 have CM3 := hid (CM.out (le5 HNB.out.1) (le5 HNB.out.2.1) (le5 HNB.out.2.2.1) (le5 HNB.out.2.2.2.1) _ hb2)
 clear CM HSUM2
 go_wp2_with fail
 refine CM3.out.mono ?_
 rintro e w4 ⟨⟨uK, uS, uV, uT, rfl, hN⟩, h4⟩
 have hb4 := below_then hb2 h4
 have CA := hid (rapply_any _ uK uS uV uT _ (ofF lk) (ofF ls) (ofF lv) (ofF lt) L h w4 hN (HOL.out _ hb4) (le5 HNB.out.2.2.2.2) (HH.out _ hb4) HOK.out HSH.out fk.out fs.out fv.out ft.out)
 clear CM3 h4 hb2 hN y0 y1 y2 y3 y4 HOL HNB fk fs fv ft HX s1' s2' s3' hs2 hs2i hl5 hl5i
 go_wp2_with fail
 refine CA.out.mono ?_
 rintro e w5 ⟨hq, h5'⟩
 have hb5 := below_then hb4 h5'
 clear CA h5' hb4
 rcases hq with ⟨hap, v, rfl, c, hM, hce⟩ | ⟨_, rfl⟩
 case inr =>
  go_wp2_with fail
  go_ret
  exact ⟨rfl, hb5⟩
 have HTX := hid (fun wx (hx : Below w5.heap.size w5 wx) => hM.txns.below hx)
 obtain ⟨xa, xc, rfl, _⟩ := hM.txns.form
 have hcc := app_check hap hce
 have hacc : accV c = accV h := by funext l; exact app_dec hap hce (l : Int)
 have hcl : c.length = h.length := by have q := congrArg List.length hce; rw [List.length_map, namL_len] at q; exact q
 obtain ⟨s, hs⟩ := srt_some hc
 obtain ⟨u, hu⟩ := srt_some hcc
 have hcan := app_can hap hce hs hu
 have HCC := hid hcc
 have HACC := hid hacc
 have HCL := hid hcl
 have HC := hid hc
 have HS := hid hs
 have HU := hid hu
 have HCAN := hid hcan
 have H6 : Hid (h.length ≤ 6) := hid (by omega)
 have hTK := HT.out _ hb5
 have CO1 := hid (lawof_any _ h w5 (HH.out _ hb5) HOK.out HSH.out hc hTK.1 hTK.2 (vec_few (h := h) (by omega)))
 have HT5 := hid (fun wx (hx : Below w5.heap.size w5 wx) => HT.out wx (below_then hb5 hx))
 have HH5 := hid (fun wx (hx : Below w5.heap.size w5 wx) => HH.out wx (below_then hb5 hx))
 have HB5 := hid hb5
 clear hM hap hce hcc hacc hcl hc hsh hTK HH HT hb5 hs hu hcan
 go_wp2_with fail
 refine CO1.out.mono ?_
 rintro e w7 ⟨⟨B, ws, rfl, hOr, hW⟩, h7⟩
 obtain ⟨V8, hb8, hth⟩ := vec_put w7 (accV h) ws
 have hone := hW.one (accV h)
 have hinf := info_vecA (accV h) ws
 have hinf2 := info_vec (accV h) ws
 have h8 := below_then h7 hb8
 clear CO1 hOr hW h7 hb8
 go_upto_region 9 with (with_reducible refine wpList_store_mid rfl 44 _ _ rfl w7.heap.size 0 (vecL (accV h) ws).toArray rfl rfl hth hinf hone ?_)
 generalize (w7.alloc (.cells #[.bool false, .bool false, .bool false, .bool false, .bool false, .bool false, .bool false, .bool false, .bool false, .bool false, .bool false, .bool false, .slice none 0 0, .slice none 0 0, .slice none 0 0, .slice none 0 0, .slice none 0 0, .slice none 0 0, .slice none 0 0, .slice none 0 0, .slice none 0 0, .slice none 0 0, .slice none 0 0, .slice none 0 0, .slice none 0 0, .slice none 0 0, .slice none 0 0, .slice none 0 0, .slice none 0 0, .slice none 0 0, .slice none 0 0, .slice none 0 0, .slice none 0 0, .slice none 0 0, .slice none 0 0, .slice none 0 0] 44)).setCells w7.heap.size 0 (vecL (accV h) ws) = w8 at *
 generalize w7.heap.size = x8 at *
 clear hth hone hinf
 have CO2 := hid (lawof_any _ c w8 (HTX.out _ h8) (can_ok HCC.out) (can_short HCC.out) HCC.out (HT5.out _ h8).1 (HT5.out _ h8).2 (vec_few (by have := H6.out; have := HCL.out; omega)))
 rw [HACC.out] at CO2
 go_wp2_with fail
 refine CO2.out.mono ?_
 rintro e w9 ⟨⟨B2, us, rfl, hOr, hW⟩, h10⟩
 obtain ⟨V10, hb10, hth⟩ := vec_put w9 (accV h) us
 have hone := by have := hW.one (accV h); exact this
 have hinf := info_vecA (accV h) us
 have hinf3 := info_vec (accV h) us
 have h11 := below_then h10 hb10
 have V11 := V8.below h11 V8.lt
 have h12 := below_then h8 h11
 clear CO2 hOr hW h10 hb10 V8 h8 h11
 go_upto_region 10 with (with_reducible refine wpList_store_mid rfl 44 _ _ rfl w9.heap.size 0 (vecL (accV h) us).toArray rfl rfl hth hinf hone ?_)
 generalize (w9.alloc (.cells #[.bool false, .bool false, .bool false, .bool false, .bool false, .bool false, .bool false, .bool false, .bool false, .bool false, .bool false, .bool false, .slice none 0 0, .slice none 0 0, .slice none 0 0, .slice none 0 0, .slice none 0 0, .slice none 0 0, .slice none 0 0, .slice none 0 0, .slice none 0 0, .slice none 0 0, .slice none 0 0, .slice none 0 0, .slice none 0 0, .slice none 0 0, .slice none 0 0, .slice none 0 0, .slice none 0 0, .slice none 0 0, .slice none 0 0, .slice none 0 0, .slice none 0 0, .slice none 0 0, .slice none 0 0, .slice none 0 0] 44)).setCells w9.heap.size 0 (vecL (accV h) us) = w10 at *
 generalize w9.heap.size = x10 at *
 clear hth hone hinf
 have CN := hid (canof_ok _ c w10 (HTX.out _ h12) (can_ok HCC.out) (can_short HCC.out) HCC.out)
 go_wp2_with fail
 refine CN.out.mono ?_
 rintro e wc ⟨⟨vd, d, u', rfl, hCp, hu', hde⟩, hwc⟩
 have hdc := can_check HCC.out hu' hde
 have hdl := can_len hu' hde
 have hdacc : accV d = accV h := by rw [← HACC.out]; funext l; exact can_dec HCC.out hu' hde (l : Int)
 have V12 := V11.below hwc V11.lt
 have V13 := V10.below hwc V10.lt
 have h13 := below_then h12 hwc
 have CO3 := hid (lawof_any _ d wc hCp.txns (can_ok hdc) (can_short hdc) hdc (HT5.out _ h13).1 (HT5.out _ h13).2 (vec_few (by have := H6.out; have := HCL.out; omega)))
 rw [hdacc] at CO3
 clear CN hCp hu' hde hdc hdl hdacc V10 V11 h12 hwc
 go_wp2_with fail
 refine CO3.out.mono ?_
 rintro e w12 ⟨⟨B3, ts, rfl, hOr, hW⟩, h14⟩
 obtain ⟨V14, hb14, hth⟩ := vec_put w12 (accV h) ts
 have hone := by have := hW.one (accV h); exact this
 have hinf := info_vecA (accV h) ts
 have hinf4 := info_vec (accV h) ts
 have h15 := below_then h14 hb14
 have V15 := V12.below h15 V12.lt
 have V16 := V13.below h15 V13.lt
 have h16 := below_then h13 h15
 clear CO3 hOr hW h14 hb14 V12 V13 h13 h15
 go_upto_region 11 with (with_reducible refine wpList_store_mid rfl 44 _ _ rfl w12.heap.size 0 (vecL (accV h) ts).toArray rfl rfl hth hinf hone ?_)
 generalize (w12.alloc (.cells #[.bool false, .bool false, .bool false, .bool false, .bool false, .bool false, .bool false, .bool false, .bool false, .bool false, .bool false, .bool false, .slice none 0 0, .slice none 0 0, .slice none 0 0, .slice none 0 0, .slice none 0 0, .slice none 0 0, .slice none 0 0, .slice none 0 0, .slice none 0 0, .slice none 0 0, .slice none 0 0, .slice none 0 0, .slice none 0 0, .slice none 0 0, .slice none 0 0, .slice none 0 0, .slice none 0 0, .slice none 0 0, .slice none 0 0, .slice none 0 0, .slice none 0 0, .slice none 0 0, .slice none 0 0, .slice none 0 0] 44)).setCells w12.heap.size 0 (vecL (accV h) ts) = w13 at *
 generalize w12.heap.size = x13 at *
 clear hth hone hinf
 have hall1 := V15.all
 have hall2 := V16.all
 have hall3 := V14.all
 have CS := hid (vsame_any (accV h) (accV h) ws us w13)
 rw [eqlB_one (fun _ _ => rfl)] at CS
 go_wp2_with (first | (with_reducible refine wpList_load_midG 44 _ rfl (by kernel_rfl) x8 0 rfl (vecL (accV h) ws) _ hall1 Tryz.underlying44 rfl hinf2 ?_) | (with_reducible refine wpList_load_midG 44 _ rfl (by kernel_rfl) x10 0 rfl (vecL (accV h) us) _ hall2 Tryz.underlying44 rfl hinf3 ?_))
 refine CS.out.mono ?_
 rintro e w14 ⟨rfl, h17⟩
 have h18 := below_then h16 h17
 have V17 := V15.below h17 V15.lt
 have V18 := V14.below h17 V14.lt
 have hall1 := V17.all
 have hall3 := V18.all
 have CS2 := hid (vsame_any (accV h) (accV h) ws ts w14)
 rw [eqlB_one (fun _ _ => rfl)] at CS2
 clear CS hall2 h17 h16 V15 V14 V16 V17 V18
 go_wp2_with (first | (with_reducible refine wpList_load_midG 44 _ rfl (by kernel_rfl) x8 0 rfl (vecL (accV h) ws) _ hall1 Tryz.underlying44 rfl hinf2 ?_) | (with_reducible refine wpList_load_midG 44 _ rfl (by kernel_rfl) x13 0 rfl (vecL (accV h) ts) _ hall3 Tryz.underlying44 rfl hinf4 ?_))
 refine CS2.out.mono ?_
 rintro e w15 ⟨rfl, h19⟩
 have h20 := below_then h18 h19
 have CSM := hid (cansame_ok _ _ h c s u w15 (HH5.out _ h20) HOK.out HSH.out HC.out HS.out (HTX.out _ h20) (can_ok HCC.out) (can_short HCC.out) HCC.out HU.out)
 rw [HCAN.out, show decide (canE (s.map txE) = canE (s.map txE)) = true from decide_eq_true rfl] at CSM
 clear CS2 hall1 hall3 h18 h19
 go_wp2_with fail
 refine CSM.out.mono ?_
 rintro e w16 ⟨rfl, h21⟩
 have h22 := below_then h20 h21
 have CN := hid (canof_ok _ c w16 (HTX.out _ h22) (can_ok HCC.out) (can_short HCC.out) HCC.out)
 clear CSM h20 h21
 go_wp2_with fail
 refine CN.out.mono ?_
 rintro e wd ⟨⟨vd2, d2, u2, rfl, hCp, hu', hde⟩, hwc⟩
 have hdc := can_check HCC.out hu' hde
 have CI2 := hid (canis_ok _ d2 d2 wd hCp.txns (can_ok hdc) (can_short hdc) hdc ⟨List.Perm.refl _, can_srt hu' hde⟩)
 rw [show decide (canE (d2.map txE) = d2.map txE) = true from decide_eq_true (can_can hde)] at CI2
 have h23 := below_then h22 hwc
 have HZ := hid (below_then HB5.out h23)
 clear CN hCp hu' hde hdc hwc h22 h23
 go_wp2_with fail
 refine CI2.out.mono ?_
 rintro e w17 ⟨rfl, h24⟩
 have hz := below_then HZ.out h24
 clear CI2 h24
 go_wp2_with fail
 go_ret
 exact ⟨rfl, hz⟩
end

end Go.Proofs.YtnhkjehfmbfmmaaGreatDoor
