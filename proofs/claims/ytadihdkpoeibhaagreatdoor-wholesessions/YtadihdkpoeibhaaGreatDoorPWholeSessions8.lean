/- Walks and plain facts that the proof of the statement WholeSessions uses, joined: SesB. Conditions: each theorem's own. -/
import Derived.Test.YtadihdkpoeibhaaGreatDoorPWholeSessions6
import Derived.Test.YtadihdkpoeibhaaGreatDoorPWholeSessions7
namespace Go.Proofs.YtadihdkpoeibhaaGreatDoor
set_option maxHeartbeats 32000000
set_option maxRecDepth 100000
open Lib (hid)
section
open Go.RowKit
def eU : Unit → Value := fun _ => .agg #[]
theorem mapIU : Tryz.prog.underlying 86 = some (.map 3 87) := Tryz.underlying86
theorem zeroU (w : World) : (zeroValue 87).run Tryz.prog w = .ok (eU ()) w := by kernel_rfl
def inU (R : List Nat) : Int → Option Unit := fun x => if x ∈ R.map Int.ofNat then some () else none
theorem inU_yes {R : List Nat} {k : Nat} (hk : k ∈ R) : inU R (k : Int) = some () := by
 unfold inU; exact if_pos (List.mem_map.2 ⟨k, hk, rfl⟩)
theorem inU_no {R : List Nat} {k : Nat} (hk : k ∉ R) : inU R (k : Int) = none := by
 unfold inU
 rw [if_neg]
 intro hm
 obtain ⟨j, hj, e⟩ := List.mem_map.1 hm
 have : j = k := Int.ofNat.inj e
 exact hk (this ▸ hj)
theorem inU_snoc (R : List Nat) (k : Nat) : putF (inU R) (k : Int) () = inU (R ++ [k]) := by
 funext y
 unfold putF inU
 by_cases e : y = (k : Int)
 ·rw [if_pos e, if_pos (List.mem_map.2 ⟨k, by simp, by rw [e]; rfl⟩)]
 ·rw [if_neg e]
  by_cases e2 : y ∈ R.map Int.ofNat
  ·rw [if_pos e2, if_pos (by rw [List.map_append]; exact List.mem_append.2 (.inl e2))]
  ·rw [if_neg e2, if_neg]
   rw [List.map_append, List.mem_append]
   rintro (q | q)
   ·exact e2 q
   ·exact e (List.mem_singleton.1 q)
theorem nat_inI {k : Nat} (hk : k < 64) : InI (k : Int) := WalkArith.wf_i64 (by omega)
theorem own_ints {w : World} {b : Nat} {v : Value} {l : List Nat} (h : w.ownsRow b 3 1 v l.length (natV l)) : Ints w v (l.map Int.ofNat) := by
 have h1 := Row.of_owns h
 unfold Ints
 rw [List.length_map, List.map_map]
 exact h1
theorem own_at {w : World} {b n cap : Nat} {ao : Option Addr} {l : List Nat} (h : w.ownsRow b 3 1 (.slice ao n cap) l.length (natV l)) {k : Nat} (hk : k < l.length) : ∃ g o, ao = some ⟨g, o, none⟩ ∧ w.cell? ⟨g, o + k, none⟩ = some (.int .i64 (l[k] : Int)) := by
 obtain ⟨g, o, e, hc⟩ := (own_ints h).at (k := k) (by simpa using hk)
 refine ⟨g, o, e, ?_⟩
 rw [hc]; simp
theorem sbytes_at {w : World} {n cap : Nat} {ao : Option Addr} {bs : List Int} (h : Row w (.slice ao n cap) bs.length 1 (bs.map (Value.int .u8))) {k : Nat} (hk : k < bs.length) : ∃ g o, ao = some ⟨g, o, none⟩ ∧ w.cell? ⟨g, o + k, none⟩ = some (.int .u8 bs[k]) := by
 obtain ⟨_, ao', cap', he, _, _, hc⟩ := h
 cases he
 obtain ⟨b, off, e, hcell⟩ := hc (by omega)
 refine ⟨b, off, e, ?_⟩
 have := hcell k (by omega)
 rw [this]
 simp [hk]
theorem ses_slice {w : World} {v : Value} {l : List OpV} (h : Ops w v l) : ∃ ua un uc, v = .slice ua un uc := by
 obtain ⟨_, ao, cap, rfl, _⟩ := h
 exact ⟨ao, _, cap, rfl⟩
theorem txV_setb : ∀ (l : List TxnV) (k : Nat) (hk : k < l.length) (z : Int), txV (l.set k ⟨l[k].s, z, l[k].c, l[k].v, l[k].l⟩) = (txV l).set (k * 4 + 1) (.int .i64 z)
 | a :: l, 0, _, z => rfl
 | a :: l, k + 1, hk, z => by
  have ih := txV_setb l k (by simpa using hk) z
  rw [show (k + 1) * 4 + 1 = (k * 4 + 1) + 1 + 1 + 1 + 1 from by omega]
  show txV (a :: l.set k _) = (Value.int .i64 a.s :: .int .i64 a.b :: .int .i64 a.c :: a.v :: txV l).set _ _
  simp only [List.set_cons_succ]
  rw [← ih]; rfl
theorem OwnT.stamps {w : World} {base g cap : Nat} {h : List TxnV} (hO : OwnT w base (.slice (some ⟨g, 0, none⟩) h.length cap) h) {i : Nat} (hi : i < h.length) (x y : Int) :
  (w.cell? ⟨g, i * 4 + 1, none⟩ = some (.int .i64 h[i].b) ∧ w.frozen? ⟨g, i * 4 + 1, none⟩ = false) ∧
  ((w.setCell ⟨g, i * 4 + 1, none⟩ (.int .i64 x)).cell? ⟨g, i * 4 + 2, none⟩ = some (.int .i64 h[i].c) ∧ (w.setCell ⟨g, i * 4 + 1, none⟩ (.int .i64 x)).frozen? ⟨g, i * 4 + 2, none⟩ = false) ∧
  OwnT ((w.setCell ⟨g, i * 4 + 1, none⟩ (.int .i64 x)).setCell ⟨g, i * 4 + 2, none⟩ (.int .i64 y)) base (.slice (some ⟨g, 0, none⟩) h.length cap) (h.set i ⟨h[i].s, x, y, h[i].v, h[i].l⟩) := by
 have h1 := OwnT.setCell hO (h' := h.set i ⟨h[i].s, x, h[i].c, h[i].v, h[i].l⟩) (by simp) (txV_setb h i hi x)
 have hl : (h.set i ⟨h[i].s, x, h[i].c, h[i].v, h[i].l⟩).length = h.length := by simp
 have hi2 : i < (h.set i ⟨h[i].s, x, h[i].c, h[i].v, h[i].l⟩).length := by omega
 have h2 := OwnT.setCell h1 (h' := (h.set i ⟨h[i].s, x, h[i].c, h[i].v, h[i].l⟩).set i ⟨(h.set i ⟨h[i].s, x, h[i].c, h[i].v, h[i].l⟩)[i].s, (h.set i ⟨h[i].s, x, h[i].c, h[i].v, h[i].l⟩)[i].b, y, (h.set i ⟨h[i].s, x, h[i].c, h[i].v, h[i].l⟩)[i].v, (h.set i ⟨h[i].s, x, h[i].c, h[i].v, h[i].l⟩)[i].l⟩) (by simp) (txV_set2 _ i hi2 y)
 have a1 := hO.at (j := i * 4 + 1) (by omega)
 have a2 := h1.at (j := i * 4 + 2) (by omega)
 obtain ⟨_, q1, _, _⟩ := txV_at h i hi
 obtain ⟨_, _, q2, _⟩ := txV_at _ i hi2
 rw [q1] at a1
 rw [q2] at a2
 simp only [List.getElem_set_self, List.set_set, List.length_set] at a2 h2
 exact ⟨a1, a2, h2⟩
theorem gTo_parts {h : List TxnV} {R : List Nat} (q : Row9 h R) {n : Nat} (hn : n ≤ R.length) {i : Nat} (hi : i < h.length) (hi2 : i < (gTo h R n).length) : (gTo h R n)[i].s = h[i].s ∧ (gTo h R n)[i].v = h[i].v ∧ (gTo h R n)[i].l = h[i].l := by
 have e := gTo_at q n hn i hi
 rw [List.getElem?_eq_getElem hi2] at e
 rw [Option.some.inj e]
 split <;> exact ⟨rfl, rfl, rfl⟩
theorem gTo_step {h : List TxnV} {R : List Nat} (q : Row9 h R) {n : Nat} (hn : n < R.length) {w : World} {base g cap : Nat} (hO : OwnT w base (.slice (some ⟨g, 0, none⟩) h.length cap) (gTo h R n)) : ∃ b c,
  (w.cell? ⟨g, R[n] * 4 + 1, none⟩ = some (.int .i64 b) ∧ w.frozen? ⟨g, R[n] * 4 + 1, none⟩ = false) ∧
  ((w.setCell ⟨g, R[n] * 4 + 1, none⟩ (.int .i64 (2 * (n : Int)))).cell? ⟨g, R[n] * 4 + 2, none⟩ = some (.int .i64 c) ∧ (w.setCell ⟨g, R[n] * 4 + 1, none⟩ (.int .i64 (2 * (n : Int)))).frozen? ⟨g, R[n] * 4 + 2, none⟩ = false) ∧
  OwnT ((w.setCell ⟨g, R[n] * 4 + 1, none⟩ (.int .i64 (2 * (n : Int)))).setCell ⟨g, R[n] * 4 + 2, none⟩ (.int .i64 (2 * (n : Int) + 1))) base (.slice (some ⟨g, 0, none⟩) h.length cap) (gTo h R (n + 1)) := by
 have hi := q.lt _ (List.getElem_mem hn)
 have hl := gTo_len (h := h) (R := R) n
 have hi2 : R[n] < (gTo h R n).length := by omega
 have hO2 : OwnT w base (.slice (some ⟨g, 0, none⟩) (gTo h R n).length cap) (gTo h R n) := by rw [hl]; exact hO
 obtain ⟨x1, x2, x3⟩ := hO2.stamps hi2 (2 * (n : Int)) (2 * (n : Int) + 1)
 obtain ⟨p1, p2, p3⟩ := gTo_parts q (by omega) hi hi2
 rw [p1, p2, p3, ← gTo_succ hn hi, hl] at x3
 exact ⟨_, _, x1, x2, x3⟩
theorem gTo_txns {h : List TxnV} {R : List Nat} (q : Row9 h R) (hl : R.length = h.length) {w : World} {va v : Value} {base : Nat} (hT : Txns w va h) (hO : OwnT w base v (gTo h R R.length)) : Txns w v (gTo h R R.length) := ⟨hO.row, fun t ht => by
 obtain ⟨i, hi, rfl⟩ := List.mem_iff_getElem.1 ht
 obtain ⟨hi', e⟩ := gTo_get q hl hi
 rw [e]
 exact hT.2 h[i] (List.getElem_mem hi')⟩
theorem sessions9_walk (va vb : Value) (h : List TxnV) (bs : List Int) (w : World) (ht : Tab w) (hK : Kinds w) (hT : Txns w va h) (hok : ∀ t ∈ h, t.ok) (hsh : Short h) (hB : Row w vb bs.length 1 (bs.map (Value.int .u8))) (hbs : ∀ x ∈ bs, 0 ≤ x ∧ x < 256) :
  Calls Tryz.prog 10 #[va, vb] w fun e w' => e = .returned (.bool true) ∧ Below w.heap.size w w' := by
 obtain ⟨i1, hj1, hy0, hy1, hy2⟩ := info_parts infoTxn
 obtain ⟨i0, hi, hz0, hz1, hz2⟩ := info_parts infoIntL
 have HBY := hid (fun wx (hx : Below w.heap.size w wx) => Row.below hB hx)
 have HBS := hid hbs
 have HCAP : Hid (∀ ao n cap, va = .slice ao n cap → h.length ≤ cap) := hid (fun ao n cap e => by
  obtain ⟨⟨_, _, _, e2, hm, _, _⟩, _⟩ := hT
  rw [e2] at e; cases e; exact hm.1)
 obtain ⟨_, bo, bcap, rfl, hbm, _, _⟩ := hB
 clear hbs
 have hg := ht.pos
 have HT : Hid (∀ wx, Below w.heap.size w wx → Tab wx ∧ Kinds wx) := hid (fun wx hb => ⟨ht.below hb hg, hK.below hb⟩)
 have HH := hid (fun wx (hx : Below w.heap.size w wx) => hT.below hx)
 obtain ⟨ao, cap, rfl, hal⟩ := hT.form
 have HOK := hid hok
 have HSH := hid hsh
 have C0 := hid (lone_any w)
 clear ht hK hT hok
 go_enter Tryz.func10, Tryz.ntmps10
 go_wp2_with fail
 refine (C0.out).mono ?_
 rintro e w1 ⟨rfl, hb1⟩
 clear C0
 by_cases h5 : 6 < h.length
 ·have h5i : (6 : Int) < (h.length : Int) := by omega
  clear hsh
  go_wp2_with fail
  go_ret
  exact ⟨rfl, hb1⟩
 have h5i : ¬ (6 : Int) < (h.length : Int) := by omega
 have CC := hid (rcheck_any _ h w1 (HH.out _ hb1) hsh)
 rw [← check_ref] at CC
 by_cases hc : checkI h = 0
 rotate_left
 ·have hcn : ¬ checkI h = 0 := hc
  generalize checkI h = c at *
  have hcb : (c != 0) = true := by rw [bne_iff_ne]; exact hcn
  clear hsh hc
  go_wp2_with fail
  refine (CC.out).mono ?_
  rintro e w2 ⟨rfl, hb2⟩
  have hb2 := below_then hb1 hb2
  go_wp2_with fail
  go_ret
  exact ⟨rfl, hb2⟩
 rw [hc] at CC
 go_wp2_with fail
 refine (CC.out).mono ?_
 rintro e w2 ⟨rfl, hb2⟩
 have hb2 := below_then hb1 hb2
 have hTK := HT.out _ hb2
 have H6 : Hid (h.length ≤ 6) := hid (by omega)
 have HM : Hid (∀ l : Nat, l < 12 → (decN h (l : Int)).2.2 + 2 ≤ 1099511627776) := hid (vec_few (h := h) (by omega))
 have HC := hid hc
 have HSH := hid hsh
 have hcap := HCAP.out _ _ _ rfl
 have HH2 := hid (fun wx (hx : Below w2.heap.size w2 wx) => HH.out wx (below_then hb2 hx))
 have HT2 := hid (fun wx (hx : Below w2.heap.size w2 wx) => HT.out wx (below_then hb2 hx))
 have HBY2 := hid (fun wx (hx : Below w2.heap.size w2 wx) => HBY.out wx (below_then hb2 hx))
 have HB2 := hid hb2
 have hm0 := MapI.made eU Tryz.prog 3 w2
 have HXA := hid (box_below w2 (.map #[] 0))
 have hmm := @run_makeMap Tryz.prog
 clear hb1 CC hc hsh hTK HH HT HBY hb2 HCAP
 go_wp2_with fail
 clear hmm
 go_loopw [5, 7] (fun v i wr => ∃ (R : List Nat) (n c : Nat), i = .int .i64 (R.length : Int) ∧ n ≤ R.length ∧ Hid (Row9 h R) ∧ MapI eU Tryz.prog 3 wr w2.heap.size n (inU R) c ∧ Hid (wr.ownsRow (w2.heap.size + 1) 3 1 v R.length (natV R)) ∧ Hid (Below w2.heap.size w2 wr) ∧ w2.heap.size < wr.heap.size) (fun _ i _ => h.length - (intOf i).toNat)
 case atStart => exact ⟨[], 0, 0, rfl, by simp, hid Row9.nil, hm0, hid (World.ownsRow_nil _ _ _ _), HXA, by simp⟩
 case round =>
  obtain ⟨R, n, c, rfl, hn, HR, hM, HRo, HB, hsz⟩ := hrel
  clear hm0
  obtain ⟨_, ro, rcap, rfl, _⟩ := Row.of_owns HRo.out
  by_cases hlt : R.length < h.length
  ·have hki : (R.length : Int) < (h.length : Int) := by omega
   have hh6 := H6.out
   have hR6 : R.length < 6 := by omega
   clear hh6
   generalize wr = wS at *
   have HMS := hid (fun wx (hx : Below wS.heap.size wS wx) => hM.below hx)
   have HBS2 := hid (fun wx (hx : Below wS.heap.size wS wx) => below_then HB.out hx)
   clear hM
   go_wp2_with fail
   go_loopw [8, 49] (fun mv i wr => ∃ k : Nat, k ≤ h.length ∧ i = .int .i64 (k : Int) ∧ Hid (wr.ownsRow wS.heap.size 3 1 mv (mayTo h R k).length (natV (mayTo h R k))) ∧ Hid (Below wS.heap.size wS wr)) (fun _ i _ => h.length - (intOf i).toNat)
   case atStart => exact ⟨0, by omega, rfl, hid (World.ownsRow_nil _ _ _ _), hid (Below.refl _ _)⟩
   case round =>
    obtain ⟨k, hk, rfl, HMo, HB3⟩ := hrel
    by_cases hlt2 : k < h.length
    ·have hki2 : (k : Int) < (h.length : Int) := by omega
     have hk6 : k < 6 := by have := H6.out; omega
     have hkc : (k : Int) ≤ (cap : Int) := by omega
     have hk0 : (0 : Int) ≤ (k : Int) := by omega
     obtain ⟨g1, o1, hao1, d0, d1, d2, d3⟩ := (HH2.out _ (HBS2.out _ HB3.out)).at hlt2
     cases hao1
     obtain ⟨ua, un, uc, hu⟩ := ses_slice ((HH2.out _ (HBS2.out _ HB3.out)).ops hlt2)
     rw [hu] at d3
     have HSK := hid (sAt_eq hlt2)
     clear hu
     generalize h[k] = t at *
     obtain ⟨s, b, cc, v9, l⟩ := t
     simp only at d0 d1 d2 d3 HSK
     obtain ⟨b0, _, _, _⟩ := txnBlock wr (.int .i64 s) (.int .i64 b) (.int .i64 cc) (.slice ua un uc) 59
     have HB5 := hid (HB3.out.alloc HB3.out.size (.cells #[.int .i64 s, .int .i64 b, .int .i64 cc, .slice ua un uc] 59))
     have HMo5 := hid (HMo.out.alloc (.cells #[.int .i64 s, .int .i64 b, .int .i64 cc, .slice ua un uc] 59))
     go_wp2_with fail
     generalize wr.alloc (.cells #[.int .i64 s, .int .i64 b, .int .i64 cc, .slice ua un uc] 59) = w5 at *
     generalize wr.heap.size = p5 at *
     have HS5 := hid (fun wx (hx : Below w5.heap.size w5 wx) => (hx.cell (p := ⟨p5, 0, none⟩) (block_lt b0)).trans b0)
     have HF5 := hid (fun wx (hx : Below w5.heap.size w5 wx) => below_then HB5.out hx)
     clear d0 d1 d2 d3 b0 HB3 HMo
     go_loopw [11, 58] (fun f i wr => ∃ j : Nat, j ≤ k ∧ i = .int .i64 (j : Int) ∧ f = .bool (firstTo h R k j) ∧ Hid (Below w5.heap.size w5 wr)) (fun _ i _ => k - (intOf i).toNat)
     case atStart => exact ⟨0, by omega, rfl, rfl, hid (Below.refl _ _)⟩
     case round =>
      obtain ⟨j, hj, rfl, rfl, HB6⟩ := hrel
      by_cases hlt3 : j < k
      ·have hji : (j : Int) < (k : Int) := by omega
       have hjh : j < h.length := by omega
       obtain ⟨g2, o2, hao2, d0, d1, d2, d3⟩ := (HH2.out _ (HBS2.out _ (HF5.out _ HB6.out))).at hjh
       cases hao2
       obtain ⟨va, vn, vc, hu⟩ := ses_slice ((HH2.out _ (HBS2.out _ (HF5.out _ HB6.out))).ops hjh)
       rw [hu] at d3
       have HSJ := hid (sAt_eq hjh)
       clear hu
       generalize h[j] = t at *
       obtain ⟨s2, b2, c2, v2, l2⟩ := t
       simp only at d0 d1 d2 d3 HSJ
       have hM6 := (HMS.out _ (HF5.out _ HB6.out)).alloc (.cells #[.int .i64 s2, .int .i64 b2, .int .i64 c2, .slice va vn vc] 59)
       have hkj := nat_inI (k := j) (by omega)
       have hc5 := HS5.out _ HB6.out
       have hx6 := box_below wr (.cells #[.int .i64 s2, .int .i64 b2, .int .i64 c2, .slice va vn vc] 59)
       have hx7 := below_then hx6 (box_below (wr.alloc (.cells #[.int .i64 s2, .int .i64 b2, .int .i64 c2, .slice va vn vc] 59)) (.cells #[] 87))
       have hc7 := (hx7.cell (p := ⟨p5, 0, none⟩) (block_lt hc5)).trans hc5
       obtain ⟨e0, _, _, _⟩ := txnBlock wr (.int .i64 s2) (.int .i64 b2) (.int .i64 c2) (.slice va vn vc) 59
       have e7 := ((box_below (wr.alloc (.cells #[.int .i64 s2, .int .i64 b2, .int .i64 c2, .slice va vn vc] 59)) (.cells #[] 87)).cell (p := ⟨wr.heap.size, 0, none⟩) (block_lt e0)).trans e0
       have HB7 := hid (below_then HB6.out hx7)
       have HFS := hid (firstTo_succ h R k j)
       clear hc5 hx6 hx7
       by_cases hjR : j ∈ R
       ·have hv := inU_yes hjR
        have HFE : Hid (firstTo h R k (j + 1) = firstTo h R k j) := hid (by rw [HFS.out, decide_eq_true hjR, Bool.true_or, Bool.and_true])
        clear hjR HFS
        go_wp2_with (first | (at_lookup; refine wpList_lookI_ok _ rfl _ _ 86 rfl 3 87 keyI mapIU () (zeroU _) _ _ _ _ rfl hM6 _ rfl hkj ?_; rw [hv]; simp only [Option.isSome_some, eU]) | go_in)
        go_roundw
        case rel => exact ⟨j + 1, by omega, by go_num, by rw [HFE.out], HB7⟩
        case measure => simp [intOf]; omega
       ·have hv := inU_no hjR
        have HFE : Hid (firstTo h R k (j + 1) = (firstTo h R k j && !decide (s2 = s))) := hid (by rw [HFS.out, decide_eq_false hjR, Bool.false_or, HSJ.out, HSK.out])
        clear hjR HFS
        by_cases hss : s2 = s
        ·have hsq : (s2 == s) = true := by simpa using hss
         have HFF : Hid (firstTo h R k (j + 1) = false) := hid (by rw [HFE.out, decide_eq_true hss]; simp)
         clear hss HFE
         go_wp2_with (first | (at_lookup; refine wpList_lookI_ok _ rfl _ _ 86 rfl 3 87 keyI mapIU () (zeroU _) _ _ _ _ rfl hM6 _ rfl hkj ?_; rw [hv]; simp only [Option.isSome_none, eU]) | go_in)
         go_roundw
         case rel => exact ⟨j + 1, by omega, by go_num, by rw [HFF.out], HB7⟩
         case measure => simp [intOf]; omega
        ·have hsq : (s2 == s) = false := by simpa using hss
         have HFF : Hid (firstTo h R k (j + 1) = firstTo h R k j) := hid (by rw [HFE.out, decide_eq_false hss]; simp)
         have hne : ¬ s2 = s := hss
         clear HFE
         go_wp2_with (first | (at_lookup; refine wpList_lookI_ok _ rfl _ _ 86 rfl 3 87 keyI mapIU () (zeroU _) _ _ _ _ rfl hM6 _ rfl hkj ?_; rw [hv]; simp only [Option.isSome_none, eU]) | go_in)
         go_roundw
         case rel => exact ⟨j + 1, by omega, by go_num, by rw [HFF.out], HB7⟩
         case measure => simp [intOf]; omega
      ·obtain rfl : j = k := by omega
       have hji : ¬ (j : Int) < (j : Int) := by omega
       have hM6 := HMS.out _ (HF5.out _ HB6.out)
       have hkj := nat_inI (k := j) (by omega)
       have hx7 := box_below wr (.cells #[] 87)
       have HB7 := hid (HF5.out _ (below_then HB6.out hx7))
       have hown := owns_below (HMo5.out) (below_then HB6.out hx7)
       have HMS1 := hid (mayTo_succ h R j)
       have hml := mayTo_len h R j
       clear hx7
       by_cases hjR : j ∈ R
       ·have hv := inU_yes hjR
        have HE : Hid (mayTo h R (j + 1) = mayTo h R j) := hid (by rw [HMS1.out]; unfold mayK; rw [decide_eq_true hjR]; simp)
        have HO7 := hid hown
        clear hjR HMS1 hown
        go_wp2_with (first | (at_lookup; refine wpList_lookI_ok _ rfl _ _ 86 rfl 3 87 keyI mapIU () (zeroU _) _ _ _ _ rfl hM6 _ rfl hkj ?_; rw [hv]; simp only [Option.isSome_some, eU]) | go_in)
        go_roundw
        case rel => exact ⟨j + 1, by omega, by go_num, by rw [HE.out]; exact HO7, HB7⟩
        case measure => simp [intOf]; omega
       ·have hv := inU_no hjR
        cases hf : firstTo h R j j with
        | false =>
         have HE : Hid (mayTo h R (j + 1) = mayTo h R j) := hid (by rw [HMS1.out]; unfold mayK; rw [hf]; simp)
         have HO7 := hid hown
         rw [hf] at *
         clear hjR HMS1 hown hf
         go_wp2_with (first | (at_lookup; refine wpList_lookI_ok _ rfl _ _ 86 rfl 3 87 keyI mapIU () (zeroU _) _ _ _ _ rfl hM6 _ rfl hkj ?_; rw [hv]; simp only [Option.isSome_none, eU]) | go_in)
         go_roundw
         case rel => exact ⟨j + 1, by omega, by go_num, by rw [HE.out]; exact HO7, HB7⟩
         case measure => simp [intOf]; omega
        | true =>
         have HE : Hid (mayTo h R (j + 1) = mayTo h R j ++ [j]) := hid (by rw [HMS1.out]; unfold mayK; rw [hf, decide_eq_false hjR]; simp)
         rw [hf] at *
         clear hjR HMS1 hf
         have hsb : wS.heap.size ≤ wr.heap.size := (HF5.out _ HB6.out).size
         go_wp2_with (first | (at_lookup; refine wpList_lookI_ok _ rfl _ _ 86 rfl 3 87 keyI mapIU () (zeroU _) _ _ _ _ rfl hM6 _ rfl hkj ?_; rw [hv]; simp only [Option.isSome_none, eU]) | (at_builtin; refine wpList_append_own _ rfl _ _ 34 rfl wS.heap.size 3 i0 (.int .i64 0) 1 8 Tryz.underlying34 hi hz0 hz1 hz2 rfl (by decide) _ _ _ rfl (hown.alloc _) ⟨_, 0, none⟩ 1 1 [.int .i64 (j : Int)] rfl rfl ?c1 ?c2 ?c3 ?c4 ?c5 ?_) | go_in)
         try case c1 => exact cell_one_new _ _ _
         case c2 => first | rfl | (intro u hu; simp at hu; subst hu; rfl)
         case c3 => unfold maxLen; omega
         case c4 => omega
         case c5 => first | omega | (simp; omega)
         intro v10 w10 hown10 hg10 _
         have HO10 : Hid (w10.ownsRow wS.heap.size 3 1 v10 (mayTo h R (j + 1)).length (natV (mayTo h R (j + 1)))) := hid (by
          rw [HE.out]
          unfold natV
          rw [List.length_append, List.map_append]
          exact hown10)
         have HB10 : Hid (Below wS.heap.size wS w10) := hid (below_app0 HB7.out (Nat.le_refl _) hown (Nat.le_refl _) hg10)
         clear hown10 hg10 hown HE
         go_wp2_with fail
         go_roundw
         case rel => exact ⟨j + 1, by omega, by go_num, HO10, HB10⟩
         case measure => simp [intOf]; omega
    ·obtain rfl : k = h.length := by omega
     have hki2 : ¬ (h.length : Int) < (h.length : Int) := by omega
     have hmp := may_pos hlt
     have HNX := hid (fun m (hm : m ∈ mayTo h R h.length) => HR.out.snoc hm)
     have HLT := hid (fun m (hm : m ∈ mayTo h R h.length) => (mem_may.1 hm).1)
     have HO3 := HMo.out
     obtain ⟨_, mo, mcap, rfl, _⟩ := Row.of_owns HO3
     obtain ⟨gm, om, hmo, hm0⟩ := own_at HO3 hmp
     cases hmo
     have HMA := hid (fun p (hp : p < (mayTo h R h.length).length) => own_at HO3 hp)
     have HME := hid (fun p (hp : p < (mayTo h R h.length).length) => List.getElem_mem hp)
     have hml := mayTo_len h R h.length
     have hM4 := HMS.out _ HB3.out
     have HB4 := HB3
     have hb4z := HB3.out.size
     have hmpi : (0 : Int) < ((mayTo h R h.length).length : Int) := by omega
     have h66 : (mayTo h R h.length).length ≤ 6 := by have := H6.out; omega
     clear HO3 HMo HB3 hlt2
     generalize hMM : mayTo h R h.length = M at *
     have HMM := hid hMM
     clear hMM
     have hmz : ¬ (M.length : Int) = 0 := by omega
     rw [Nat.add_zero] at hm0
     by_cases hby : R.length < bs.length
     ·have hbyi : (R.length : Int) < (bs.length : Int) := by omega
      obtain ⟨gb, ob, hbo, hbc⟩ := sbytes_at (HBY2.out _ (HBS2.out _ HB4.out)) hby
      cases hbo
      have hxb := HBS.out bs[R.length] (List.getElem_mem hby)
      generalize bs[R.length] = x at *
      obtain ⟨p, hp, hpx⟩ : ∃ p : Nat, p < M.length ∧ Int.tmod x (M.length : Int) = (p : Int) := by
       have h1 := Int.tmod_lt_of_pos x (show (0 : Int) < (M.length : Int) by omega)
       have h2 := Int.tmod_nonneg (M.length : Int) hxb.1
       exact ⟨(Int.tmod x (M.length : Int)).toNat, by omega, by omega⟩
      have hwx : IntKind.i64.wrap x = x := by rw [IntKind.wrap_i64]; omega
      have hp0 : (0 : Int) ≤ (p : Int) := by omega
      have hp1 : (p : Int) < (M.length : Int) := by omega
      obtain ⟨gq, oq, hqo, hqc⟩ := HMA.out p hp
      cases hqo
      have hmm2 := HME.out p hp
      generalize M[p] = m at *
      generalize M[0] = mz at *
      have HNm := hid (HNX.out m hmm2)
      have hmh := HLT.out m hmm2
      have hkq := nat_inI (k := m) (by omega)
      have hown := owns_below HRo.out HB4.out
      have hbq := HBS2.out _ HB4.out
      have HL1 : Hid ((R ++ [m]).length = R.length + 1) := hid (by simp)
      have hszq := HB4.out.size
      clear HNX HLT HMA HME hmm2
      go_wp2_with (first | (at_builtin; refine wpList_append_own _ rfl _ _ 34 rfl (w2.heap.size + 1) 3 i0 (.int .i64 0) 1 8 Tryz.underlying34 hi hz0 hz1 hz2 rfl (by decide) _ _ _ rfl (hown.alloc _) ⟨_, 0, none⟩ 1 1 [.int .i64 (m : Int)] rfl rfl ?y1 ?y2 ?y3 ?y4 ?y5 ?_) | go_in)
      try case y1 => exact cell_one_new _ _ _
      case y2 => first | rfl | (intro u hu; simp at hu; subst hu; rfl)
      case y3 => unfold maxLen; omega
      case y4 => omega
      case y5 => first | omega | (simp; omega)
      intro v10 w10 hown10 hg10 _
      have hMq := (hM4.alloc _).kept hg10 (fun e => by have := (World.ownsRow.lt hown _ e.symm).1; omega)
      have hb10 : Below w2.heap.size w2 w10 := below_app0 hbq (Nat.le_refl _) hown (Nat.le_succ _) hg10
      have hs10 : w2.heap.size < w10.heap.size := by have := hg10.size; simp at this; omega
      have HO10 := hid hown10
      clear hown hown10 hg10 hbq hM4
      go_wp2_with (first | (at_mapUpdate; refine wpList_putI _ rfl _ _ _ 86 rfl 3 87 keyI mapIU _ _ _ _ rfl hMq (by unfold maxLen; omega) _ rfl hkq () rfl ?_; intro w1x hM12 hgm; go_frame) | go_in)
      have HO11 : Hid (w1x.ownsRow (w2.heap.size + 1) 3 1 v10 (R ++ [m]).length (natV (R ++ [m]))) := hid (by
       rw [HL1.out]
       unfold natV
       rw [List.map_append]
       exact World.ownsRow.kept HO10.out hgm (.inr (fun e => by have := (World.ownsRow.lt HO10.out _ e).1; omega)))
      have HB11 := hid (hb10.grown hgm hb10.size (fun j hj => by cases hj; omega))
      have hs11 : w2.heap.size < w1x.heap.size := by have := hgm.size; omega
      obtain ⟨cn, hM11⟩ : ∃ cn, MapI eU Tryz.prog 3 w1x w2.heap.size (n + 1) (inU (R ++ [m])) cn := ⟨_, by rw [← inU_snoc]; exact hM12⟩
      clear hMq hM12 hgm hb10 HO10
      go_wp2_with fail
      go_roundw
      case rel => exact ⟨R ++ [m], n + 1, _, by rw [HL1.out]; go_num, by rw [HL1.out]; omega, HNm, hM11, HO11, HB11, hs11⟩
      case measure => simp [intOf]; omega
     ·have hbyi : ¬ (R.length : Int) < (bs.length : Int) := by omega
      have hmm2 := HME.out 0 hmp
      generalize M[0] = m at *
      have HNm := hid (HNX.out m hmm2)
      have hmh := HLT.out m hmm2
      have hkq := nat_inI (k := m) (by omega)
      have hown := owns_below HRo.out HB4.out
      have hbq := HBS2.out _ HB4.out
      have HL1 : Hid ((R ++ [m]).length = R.length + 1) := hid (by simp)
      have hszq := HB4.out.size
      clear HNX HLT HMA HME hmm2
      go_wp2_with (first | (at_builtin; refine wpList_append_own _ rfl _ _ 34 rfl (w2.heap.size + 1) 3 i0 (.int .i64 0) 1 8 Tryz.underlying34 hi hz0 hz1 hz2 rfl (by decide) _ _ _ rfl (hown.alloc _) ⟨_, 0, none⟩ 1 1 [.int .i64 (m : Int)] rfl rfl ?z1 ?z2 ?z3 ?z4 ?z5 ?_) | go_in)
      try case z1 => exact cell_one_new _ _ _
      case z2 => first | rfl | (intro u hu; simp at hu; subst hu; rfl)
      case z3 => unfold maxLen; omega
      case z4 => omega
      case z5 => first | omega | (simp; omega)
      intro v10 w10 hown10 hg10 _
      have hMq := (hM4.alloc _).kept hg10 (fun e => by have := (World.ownsRow.lt hown _ e.symm).1; omega)
      have hb10 : Below w2.heap.size w2 w10 := below_app0 hbq (Nat.le_refl _) hown (Nat.le_succ _) hg10
      have hs10 : w2.heap.size < w10.heap.size := by have := hg10.size; simp at this; omega
      have HO10 := hid hown10
      clear hown hown10 hg10 hbq hM4
      go_wp2_with (first | (at_mapUpdate; refine wpList_putI _ rfl _ _ _ 86 rfl 3 87 keyI mapIU _ _ _ _ rfl hMq (by unfold maxLen; omega) _ rfl hkq () rfl ?_; intro w1x hM12 hgm; go_frame) | go_in)
      have HO11 : Hid (w1x.ownsRow (w2.heap.size + 1) 3 1 v10 (R ++ [m]).length (natV (R ++ [m]))) := hid (by
       rw [HL1.out]
       unfold natV
       rw [List.map_append]
       exact World.ownsRow.kept HO10.out hgm (.inr (fun e => by have := (World.ownsRow.lt HO10.out _ e).1; omega)))
      have HB11 := hid (hb10.grown hgm hb10.size (fun j hj => by cases hj; omega))
      have hs11 : w2.heap.size < w1x.heap.size := by have := hgm.size; omega
      obtain ⟨cn, hM11⟩ : ∃ cn, MapI eU Tryz.prog 3 w1x w2.heap.size (n + 1) (inU (R ++ [m])) cn := ⟨_, by rw [← inU_snoc]; exact hM12⟩
      clear hMq hM12 hgm hb10 HO10
      go_wp2_with fail
      go_roundw
      case rel => exact ⟨R ++ [m], n + 1, _, by rw [HL1.out]; go_num, by rw [HL1.out]; omega, HNm, hM11, HO11, HB11, hs11⟩
      case measure => simp [intOf]; omega
  ·have hki : ¬ (R.length : Int) < (h.length : Int) := by omega
   have HRL : Hid (R.length = h.length) := hid (by have := HR.out.len; omega)
   generalize wr = wS at *
   have HBS2 := hid (fun wx (hx : Below wS.heap.size wS wx) => below_then HB.out hx)
   have HROx := hid (fun wx (hx : Below wS.heap.size wS wx) => owns_below HRo.out hx)
   have hT5 := HH2.out wS HB.out
   have HO1 := hid (txV_one hT5)
   have hrl6 : R.length ≤ 6 := by have := HRL.out; have := H6.out; omega
   clear hM HRo hlt hn
   go_wp2_with (first | (at_builtin; refine wpList_append_row rfl _ _ 22 rfl wS.heap.size 59 i1 (.agg #[.int .i64 0, .int .i64 0, .int .i64 0, .slice none 0 0]) 4 48 Tryz.underlying22 hj1 hy0 hy1 hy2 rfl (by decide) _ 0 [] rfl (World.ownsRow_lit _ _ _ (Nat.le_refl _) (by decide) rfl) _ h.length _ rfl (hT5.1.below ((Below.refl _ _).alloc (Nat.le_refl _) _)) ?d1 ?d2 ?d3 ?d4 ?_) | go_in)
   case d1 => exact HO1.out
   case d2 => unfold maxLen; omega
   case d3 => omega
   intro v5 w5 hown5 hg5
   have hO5 : OwnT w5 wS.heap.size v5 h := by
    refine ⟨by rw [txV_len], ?_⟩
    have := hown5.2
    simpa using this
   have hb5 : Below wS.heap.size wS w5 := ((Below.refl wS.heap.size wS).alloc (Nat.le_refl _) (.cells #[] 59)).grown hg5 (by simp) (by intro k hk; simp [Value.ownBlock] at hk; omega)
   obtain ⟨ga, gn, gc, rfl, hgf⟩ : ∃ ga gn gc, v5 = .slice ga gn gc ∧ (0 < h.length → ∃ g, ga = some ⟨g, 0, none⟩ ∧ gn = h.length ∧ wS.heap.size ≤ g) := by
    rcases hO5.split with ⟨rfl, e⟩ | ⟨g, cap, rfl, hg⟩
    ·exact ⟨_, _, _, rfl, fun e2 => by rw [e] at e2; cases e2⟩
    ·exact ⟨_, _, _, rfl, fun _ => ⟨g, rfl, rfl, hg⟩⟩
   have HGF := hid hgf
   have HO5 := hid hO5
   have HB5 := hid hb5
   clear hgf hO5 hb5 hown5 hg5 hT5
   go_wp2_with fail
   go_loopw [125] (fun i wr => ∃ k : Nat, k ≤ R.length ∧ i = .int .i64 (k : Int) ∧ Hid (OwnT wr wS.heap.size (.slice ga gn gc) (gTo h R k)) ∧ Hid (Below wS.heap.size wS wr)) (fun i _ => R.length - (intOf i).toNat)
   case atStart => exact ⟨0, by omega, rfl, HO5, HB5⟩
   case round =>
    obtain ⟨k, hk, rfl, HO, HB6⟩ := hrel
    by_cases hlt : k < R.length
    ·have hki2 : (k : Int) < (R.length : Int) := by omega
     have hmh := HR.out.lt _ (List.getElem_mem hlt)
     obtain ⟨g, rfl, rfl, hgb⟩ := HGF.out (by omega)
     obtain ⟨gr, or, hro, hrc⟩ := own_at (HROx.out _ HB6.out) hlt
     cases hro
     obtain ⟨b0, c0, ⟨a1, f1⟩, ⟨a2, f2⟩, hOn⟩ := gTo_step HR.out hlt HO.out
     have hmi : (R[k] : Int) < (h.length : Int) := by omega
     have hk6 : (k : Int) ≤ 6 := by omega
     clear HO
     generalize R[k] = m at *
     have HOn := hid hOn
     have HBn := hid ((HB6.out.setCell (p := ⟨g, m * 4 + 1, none⟩) hgb (.int .i64 (2 * (k : Int)))).setCell (p := ⟨g, m * 4 + 2, none⟩) hgb (.int .i64 (2 * (k : Int) + 1)))
     clear hOn HB6
     go_wp2_with fail
     go_roundw
     case rel => exact ⟨k + 1, by omega, by go_num, HOn, HBn⟩
     case measure => simp [intOf]; omega
    ·obtain rfl : k = R.length := by omega
     have hki2 : ¬ (R.length : Int) < (R.length : Int) := by omega
     have hbw := HBS2.out _ HB6.out
     have hG := gTo_txns HR.out HRL.out (HH2.out _ hbw) HO.out
     have hTK := HT2.out _ hbw
     have CO1 := hid (lawof_any _ h wr (HH2.out _ hbw) HOK.out HSH.out HC.out hTK.1 hTK.2 HM.out)
     have CO2 := hid (fun wx (hx : Below wr.heap.size wr wx) => lawof_any _ (gTo h R R.length) wx (hG.below hx) (gTo_ok HOK.out HC.out HR.out HRL.out) (gTo_short HSH.out HR.out HRL.out) (gTo_check HC.out HR.out HRL.out) (HT2.out _ (below_then hbw hx)).1 (HT2.out _ (below_then hbw hx)).2 (vec_few (by rw [gTo_len]; have := H6.out; omega)))
     have HACC := hid (fun l (hl : l < 8) => gTo_acc HC.out HR.out HRL.out hl)
     have HBW := hid (fun wx (hx : Below wr.heap.size wr wx) => below_then HB2.out (below_then hbw hx))
     clear HO hG hTK hbw HB6
     generalize gTo h R R.length = G at *
     go_wp2_with fail
     refine CO1.out.mono ?_
     rintro e w7 ⟨⟨B, ws, rfl, hOr, hW⟩, h7⟩
     obtain ⟨V8, hb8, hth⟩ := vec_put w7 (accV h) ws
     have hone := hW.one (accV h)
     have hinf := info_vecA (accV h) ws
     have h8 := below_then h7 hb8
     clear CO1 hOr hW h7 hb8
     go_upto_region 38 with (with_reducible refine wpList_store_mid rfl 40 _ _ rfl w7.heap.size 0 (vecL (accV h) ws).toArray rfl rfl hth hinf hone ?_)
     generalize (w7.alloc (.cells #[.bool false, .bool false, .bool false, .bool false, .bool false, .bool false, .bool false, .bool false, .bool false, .bool false, .bool false, .bool false, .slice none 0 0, .slice none 0 0, .slice none 0 0, .slice none 0 0, .slice none 0 0, .slice none 0 0, .slice none 0 0, .slice none 0 0, .slice none 0 0, .slice none 0 0, .slice none 0 0, .slice none 0 0, .slice none 0 0, .slice none 0 0, .slice none 0 0, .slice none 0 0, .slice none 0 0, .slice none 0 0, .slice none 0 0, .slice none 0 0, .slice none 0 0, .slice none 0 0, .slice none 0 0, .slice none 0 0] 40)).setCells w7.heap.size 0 (vecL (accV h) ws) = w8 at *
     generalize w7.heap.size = x8 at *
     clear hth hone hinf
     have CO3 := hid (CO2.out _ h8)
     clear CO2
     go_wp2_with fail
     refine CO3.out.mono ?_
     rintro e w9 ⟨⟨B2, us, rfl, hOr, hW⟩, h9⟩
     obtain ⟨V10, hb10, hth⟩ := vec_put w9 (accV G) us
     have hone := hW.one (accV G)
     have hinf := info_vecA (accV G) us
     have h10 := below_then h9 hb10
     have V11 := V8.below h10 V8.lt
     have h11 := below_then h8 h10
     clear CO3 hOr hW h9 hb10 V8 h10 h8
     go_upto_region 39 with (with_reducible refine wpList_store_mid rfl 40 _ _ rfl w9.heap.size 0 (vecL (accV G) us).toArray rfl rfl hth hinf hone ?_)
     generalize (w9.alloc (.cells #[.bool false, .bool false, .bool false, .bool false, .bool false, .bool false, .bool false, .bool false, .bool false, .bool false, .bool false, .bool false, .slice none 0 0, .slice none 0 0, .slice none 0 0, .slice none 0 0, .slice none 0 0, .slice none 0 0, .slice none 0 0, .slice none 0 0, .slice none 0 0, .slice none 0 0, .slice none 0 0, .slice none 0 0, .slice none 0 0, .slice none 0 0, .slice none 0 0, .slice none 0 0, .slice none 0 0, .slice none 0 0, .slice none 0 0, .slice none 0 0, .slice none 0 0, .slice none 0 0, .slice none 0 0, .slice none 0 0] 40)).setCells w9.heap.size 0 (vecL (accV G) us) = w10 at *
     generalize w9.heap.size = x10 at *
     clear hth hone hinf
     have HV8 := hid (fun wx (hx : Below w10.heap.size w10 wx) => V11.below hx V11.lt)
     have HV10 := hid (fun wx (hx : Below w10.heap.size w10 wx) => V10.below hx V10.lt)
     have HZ := hid (fun wx (hx : Below w10.heap.size w10 wx) => HBW.out wx (below_then h11 hx))
     clear V10 V11 h11 HBW
     go_wp2_with fail
     go_loopw [156] (fun i wr => ∃ l : Nat, l ≤ 8 ∧ i = .int .i64 (l : Int) ∧ Hid (Below w10.heap.size w10 wr)) (fun i _ => 8 - (intOf i).toNat)
     case atStart => exact ⟨0, by omega, rfl, hid (Below.refl _ _)⟩
     case round =>
      obtain ⟨l, hl, rfl, HB12⟩ := hrel
      by_cases hl8 : l < 8
      ·have hli : (l : Int) < 8 := by omega
       have c1 := ((HV8.out _ HB12.out) l (by omega)).1
       have c2 := ((HV10.out _ HB12.out) l (by omega)).1
       rw [show vecF (accV h) ws l = .bool (accV h l) by unfold vecF; rw [if_pos (by omega)]] at c1
       rw [show vecF (accV G) us l = .bool (accV h l) by unfold vecF; rw [if_pos (by omega), HACC.out l hl8]] at c2
       generalize accV h l = q at *
       have hqq : (q != q) = false := by cases q <;> rfl
       have hd0 : decide ((l : Int) < 0) = false := decide_eq_false (by omega)
       have hd1 : decide ((12 : Int) ≤ (l : Int)) = false := decide_eq_false (by omega)
       have hd2 : decide (12 ≤ l) = false := decide_eq_false (by omega)
       go_wp2_with fail
       go_region
       go_wp2_with fail
       go_roundw
       case rel => exact ⟨l + 1, by omega, by go_num, hid (HB12.out.drew)⟩
       case measure => simp [intOf]; omega
      ·obtain rfl : l = 8 := by omega
       have hz := HZ.out _ HB12.out
       go_wp2_with fail
       go_ret
       exact ⟨rfl, hz⟩
end

end Go.Proofs.YtadihdkpoeibhaaGreatDoor
