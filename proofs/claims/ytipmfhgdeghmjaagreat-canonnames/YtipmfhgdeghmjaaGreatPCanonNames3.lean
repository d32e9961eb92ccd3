/- Walks and plain facts that the proof of the statement CanonNames uses, joined: CroA CroB CroC CroD RenF0 RenF. Conditions: each theorem's own. -/
import Derived.Deep.RegionLaw
import Derived.Maps.AppendAt
import Derived.Test.YtipmfhgdeghmjaaGreatPCanonNames0
import Derived.Test.YtipmfhgdeghmjaaGreatPCanonNames1
import Derived.Test.YtipmfhgdeghmjaaGreatPCanonNames2
namespace Go.Proofs.YtipmfhgdeghmjaaGreat
set_option maxHeartbeats 32000000
set_option maxRecDepth 100000
set_option linter.unusedSimpArgs false
set_option linter.unusedVariables false
open Lib (hid)
section
open Go.RowKit
theorem Row.grown {w w' : World} {v : Value} {n size : Nat} {cs : List Value} {row : Option Nat} (h : Row w v n size cs) (hg : w.grownBy w' row) (hne : ∀ b, row = some b → v.ownBlock ≠ some b) : Row w' v n size cs := by
 obtain ⟨hl, ao, cap, rfl, hm, hno, hc⟩ := h
 refine ⟨hl, ao, cap, rfl, hm, hno, fun hn => ?_⟩
 obtain ⟨b, off, rfl, hcell⟩ := hc hn
 refine ⟨b, off, rfl, fun i hi => ?_⟩
 have h2 := hcell i hi
 rw [List.getElem?_eq_getElem (by omega)] at h2 ⊢
 exact hg.cell h2 (fun e => hne b e.symm rfl)
theorem txV_drop (h : List TxnV) (k : Nat) : txV (h.drop k) = (txV h).drop (k * 4) := by
 have e := congrArg txV (List.take_append_drop k h)
 rw [txV_app] at e
 rcases Nat.lt_or_ge k h.length with q | q
 ·have hl : (txV (h.take k)).length = k * 4 := by rw [txV_len, List.length_take]; omega
  rw [← e, List.drop_append_of_le_length (by omega), List.drop_of_length_le (l := txV (h.take k)) (by omega), List.nil_append]
 ·rw [List.drop_of_length_le q, List.drop_of_length_le (l := txV h) (by rw [txV_len]; omega)]; rfl
theorem txV_tak (h : List TxnV) (k : Nat) : txV (h.take k) = (txV h).take (k * 4) := by
 have e := congrArg txV (List.take_append_drop k h)
 rw [txV_app] at e
 rcases Nat.lt_or_ge k h.length with q | q
 ·have hl : (txV (h.take k)).length = k * 4 := by rw [txV_len, List.length_take]; omega
  rw [← e, List.take_append_of_le_length (by omega), List.take_of_length_le (l := txV (h.take k)) (by omega)]
 ·rw [List.take_of_length_le q, List.take_of_length_le (l := txV h) (by rw [txV_len]; omega)]
theorem txV_memb {h : List TxnV} {u : Value} : u ∈ txV h ↔ ∃ t ∈ h, u = .int .i64 t.s ∨ u = .int .i64 t.b ∨ u = .int .i64 t.c ∨ u = t.v := by unfold txV; simp [List.mem_flatMap]
structure SrtAt (h acc L : List TxnV) : Prop where
 perm : (acc ++ L).Perm h
 srt : acc.Pairwise fun t u => t.b < u.b
 ahead : ∀ t ∈ acc, ∀ u ∈ L, t.b < u.b
section
variable {h acc L : List TxnV}
theorem SrtAt.first (h : List TxnV) : SrtAt h [] h := ⟨List.Perm.refl _, List.Pairwise.nil, fun t ht => by cases ht⟩
theorem SrtAt.done (q : SrtAt h acc []) : IsSrt h acc := ⟨by have := q.perm; rwa [List.append_nil] at this, q.srt⟩
theorem SrtAt.next (q : SrtAt h acc L) (hn : (h.map (·.b)).Nodup) {k : Nat} (hk : k < L.length) (hm : ∀ i (hi : i < L.length), L[k].b ≤ L[i].b) : SrtAt h (acc ++ [L[k]]) (L.take k ++ L.drop (k + 1)) := by
 have eL : L = L.take k ++ L[k] :: L.drop (k + 1) := by rw [← List.drop_eq_getElem_cons hk, List.take_append_drop]
 have hnd : ((acc ++ L).map (·.b)).Nodup := (q.perm.map _).nodup_iff.2 hn
 rw [List.map_append, List.nodup_append] at hnd
 have hL := hnd.2.1
 have hmin : ∀ u ∈ L.take k ++ L.drop (k + 1), L[k].b < u.b := fun u hu => by
  have hu2 : u ∈ L := by
   rcases List.mem_append.1 hu with e | e
   ·exact List.mem_of_mem_take e
   ·exact List.mem_of_mem_drop e
  obtain ⟨i, hi, rfl⟩ := List.mem_iff_getElem.1 hu2
  have h1 := hm i hi
  have h2 : L[k].b ≠ L[i].b := fun e => by
   rw [eL, List.map_append, List.map_cons, List.nodup_append, List.nodup_cons] at hL
   rcases List.mem_append.1 hu with x | x
   ·exact hL.2.2 _ (List.mem_map_of_mem x) _ (List.mem_cons_self ..) e.symm
   ·exact hL.2.1.1 (e ▸ List.mem_map_of_mem (f := fun t : TxnV => t.b) x)
  omega
 refine ⟨?_, ?_, ?_⟩
 ·rw [List.append_assoc, List.singleton_append]
  refine List.Perm.trans ?_ q.perm
  conv => rhs; rw [eL]
  exact List.perm_middle.symm.append_left acc
 ·rw [List.pairwise_append]
  refine ⟨q.srt, List.pairwise_singleton _ _, fun t ht u hu => ?_⟩
  rw [List.mem_singleton] at hu; subst hu
  exact q.ahead t ht _ (List.getElem_mem hk)
 ·intro t ht u hu
  rcases List.mem_append.1 ht with ht | ht
  ·refine q.ahead t ht u ?_
   rcases List.mem_append.1 hu with e | e
   ·exact List.mem_of_mem_take e
   ·exact List.mem_of_mem_drop e
  ·rw [List.mem_singleton] at ht; subst ht
   exact hmin u hu
theorem SrtAt.mem (q : SrtAt h acc L) {t : TxnV} (ht : t ∈ L) : t ∈ h := q.perm.mem_iff.1 (List.mem_append.2 (.inr ht))
theorem SrtAt.len (q : SrtAt h acc L) : acc.length + L.length = h.length := by rw [← List.length_append]; exact q.perm.length_eq
theorem SrtAt.one (q : SrtAt h acc L) (ho : ∀ u ∈ txV h, u.oneCell' = true) : ∀ u ∈ txV L, u.oneCell' = true := fun u hu => by
 obtain ⟨t, ht, e⟩ := txV_memb.1 hu
 exact ho u (txV_memb.2 ⟨t, q.mem ht, e⟩)
end
theorem rows_form {w : World} {v : Value} {l : List TxnV} (h : Row w v l.length 4 (txV l)) : ∃ ao cap, v = .slice ao l.length cap ∧ (l.length ≤ cap ∧ cap ≤ 9223372036854775807) ∧ (ao = none → l.length = 0) := by
 obtain ⟨_, ao, cap, rfl, hm, hno, _⟩ := h
 exact ⟨ao, cap, rfl, hm, fun e => (hno e).1⟩
theorem rows_at {w : World} {ao : Option Addr} {n cap : Nat} {l : List TxnV} (h : Row w (.slice ao n cap) l.length 4 (txV l)) {k : Nat} (hk : k < l.length) :
  ∃ b off, ao = some ⟨b, off, none⟩ ∧ w.cell? ⟨b, off + k * 4, none⟩ = some (.int .i64 l[k].s) ∧ w.cell? ⟨b, off + k * 4 + 1, none⟩ = some (.int .i64 l[k].b) ∧ w.cell? ⟨b, off + k * 4 + 2, none⟩ = some (.int .i64 l[k].c) ∧ w.cell? ⟨b, off + k * 4 + 3, none⟩ = some l[k].v := by
 obtain ⟨_, ao', cap', he, hm, _, hc⟩ := h
 obtain ⟨rfl, _, _⟩ : ao = ao' ∧ n = l.length ∧ cap = cap' := by simpa using he
 obtain ⟨b, off, rfl, hcell⟩ := hc (by omega)
 obtain ⟨h0, h1, h2, h3⟩ := txV_at l k hk
 refine ⟨b, off, rfl, ?_, ?_, ?_, ?_⟩
 ·rw [hcell (k * 4) (by omega), h0]
 ·rw [Nat.add_assoc, hcell (k * 4 + 1) (by omega), h1]
 ·rw [Nat.add_assoc, hcell (k * 4 + 2) (by omega), h2]
 ·rw [Nat.add_assoc, hcell (k * 4 + 3) (by omega), h3]
theorem row4_newR (w : World) (x y z u : Value) (t : TypeId) : ∀ j v, [x, y, z, u][j]? = some v → (w.alloc (.cells #[x, y, z, u] t)).cell? ((⟨w.heap.size, 0, none⟩ : Addr).add j) = some v := by
 intro j v hj
 obtain ⟨c0, c1, c2, c3⟩ := txnBlock w x y z u t
 match j, hj with
 | 0, hu => simp at hu; subst hu; exact c0
 | 1, hu => simp at hu; subst hu; exact c1
 | 2, hu => simp at hu; subst hu; exact c2
 | 3, hu => simp at hu; subst hu; exact c3
 | j + 4, hu => simp at hu
theorem rows_slice {l : List TxnV} (hv : ∀ t ∈ l, ∃ a n c, t.v = .slice a n c) {k : Nat} (hk : k < l.length) : ∃ a n c, l[k].v = .slice a n c := hv _ (List.getElem_mem hk)
theorem rows_part {w : World} {g o n cap : Nat} {L : List TxnV} (h : Row w (.slice (some ⟨g, o, none⟩) n cap) L.length 4 (txV L)) (k : Nat) :
  ∀ j u, (txV (L.drop k))[j]? = some u → w.cell? ((⟨g, o + k * 4, none⟩ : Addr).add j) = some u := fun j u hu => by
 obtain rfl : n = L.length := by
  obtain ⟨_, ao', cap', he, _⟩ := h
  exact (Value.slice.inj he).2.1
 rw [txV_drop] at hu
 exact Row.part h k j u hu
theorem rsorted22_any (va : Value) (h : List TxnV) (w : World) (hT : Txns w va h) (hn : (h.map (·.b)).Nodup) (hl : h.length ≤ 1000) :
  Calls Tryz.prog 40 #[va] w fun e w' => (∃ v s, e = .returned v ∧ OwnT w' w.heap.size v s ∧ IsSrt h s) ∧ Below w.heap.size w w' := by
 obtain ⟨i0, hi, hz0, hz1, hz2⟩ := info_parts infoTxn
 have HN := hid hn
 have HONE := hid (txV_one hT)
 have HV : Hid (∀ t ∈ h, ∃ a n c, t.v = .slice a n c) := hid (fun t ht => by
  obtain ⟨_, ao, cap, e, _⟩ := hT.2 t ht
  exact ⟨ao, _, cap, e⟩)
 obtain ⟨ao, cap, rfl, hal⟩ := hT.form
 have hR := hT.1
 clear hn hT
 go_enter Tryz.func40, Tryz.ntmps40
 have hbx := (Below.refl w.heap.size w).alloc (Nat.le_refl _) (.cells #[] 52)
 have hO1 := hid (World.ownsRow_made (base := w.heap.size) (e := 52) (size := 4) w #[] 0 (Nat.le_refl _) (by decide) rfl)
 have hO2 : World.ownsRow ((w.alloc (.cells #[] 52)).alloc (.cells #[] 52)) (w.heap.size + 1) 52 4 (.slice (some ⟨w.heap.size + 1, 0, none⟩) 0 0) 0 [] := by
  have q := World.ownsRow_lit (base := w.heap.size + 1) (e := 52) (size := 4) (w.alloc (.cells #[] 52)) #[] 0 (by simp) (by decide) rfl
  rwa [World.size_alloc] at q
 go_wp2_with (first | (at_builtin; refine wpList_append_row rfl _ _ 22 rfl (w.heap.size + 1) 52 i0 (.agg #[.int .i64 0, .int .i64 0, .int .i64 0, .slice none 0 0]) 4 48 Tryz.underlying22 hi hz0 hz1 hz2 rfl (by decide) _ 0 [] rfl hO2 _ h.length _ rfl ((hR.below hbx).below ((Below.refl _ _).alloc (Nat.le_refl _) _)) ?d1 ?d2 ?d3 ?d4 ?_) | go_in)
 case d1 => exact HONE.out
 case d2 => unfold maxLen; omega
 case d3 => omega
 case d4 => simp
 intro v5 w5 hown5 hg5
 have hO5 : OwnT w5 (w.heap.size + 1) v5 h := by
  refine ⟨by rw [txV_len], ?_⟩
  have := hown5.2
  simpa using this
 have hb15 : Below (w.alloc (.cells #[] 52)).heap.size (w.alloc (.cells #[] 52)) w5 := ((Below.refl _ _).alloc (Nat.le_refl _) (.cells #[] 52)).grown hg5 (by simp) (by intro k hk; simp [Value.ownBlock] at hk; simp; omega)
 have hb5 : Below w.heap.size w w5 := hbx.trans (hb15.mono (by simp))
 have hA5 : OwnT w5 w.heap.size (.slice (some ⟨w.heap.size, 0, none⟩) 0 0) [] := owns_below hO1.out hb15
 have hap5 : ∀ b, (Value.slice (some ⟨w.heap.size, 0, none⟩) 0 0).ownBlock = some b → v5.ownBlock ≠ some b := fun b h1 h2 => by
  have q := (World.ownsRow.lt hO5 b h2).1
  simp [Value.ownBlock] at h1
  omega
 have hR5 := hO5.row
 clear hown5 hg5 hO5 hb15 hO1 hO2 hR hbx
 go_wp2_with fail
 go_loopw [3, 4] (fun vo vl wr => ∃ acc L, Hid (SrtAt h acc L) ∧ OwnT wr w.heap.size vo acc ∧ Row wr vl L.length 4 (txV L) ∧ Hid (∀ b, vo.ownBlock = some b → vl.ownBlock ≠ some b) ∧ Below w.heap.size w wr) (fun _ vl _ => lenV vl)
 case atStart => exact ⟨[], h, hid (SrtAt.first h), hA5, hR5, hid hap5, hb5⟩
 case round =>
  obtain ⟨acc, L, HS, hA, hR, HAP, hb⟩ := hrel
  have hll := HS.out.len
  have hll1 : L.length ≤ 1000 := by omega
  have hll2 : acc.length ≤ 1000 := by omega
  clear hll
  obtain ⟨lo, lcap, rfl, ⟨hlc, hlm⟩, hno⟩ := rows_form hR
  rcases Nat.eq_zero_or_pos L.length with h0 | h0
  ·have hq : ¬ (0 : Int) < (L.length : Int) := by omega
   have hs : IsSrt h acc := by
    have := List.eq_nil_of_length_eq_zero h0
    have q := HS.out
    rw [this] at q
    exact q.done
   have HSR := hid hs
   clear hs hno h0
   go_wp2_with fail
   go_ret
   exact ⟨⟨_, rfl, _, hA, HSR.out⟩, hb⟩
  ·have hq : (0 : Int) < (L.length : Int) := by omega
   obtain ⟨g, o, hgo, _⟩ := rows_at hR (k := 0) h0
   subst hgo
   clear hno
   have HR := hid (fun wx (hx : Below wr.heap.size wr wx) => Row.below hR hx)
   have HA := hid hA
   have HB := hid hb
   clear hR hA hb
   go_wp2_with fail
   go_loopw [5, 6] (fun vk vi wq => ∃ k i : Nat, k < L.length ∧ i ≤ L.length ∧ vk = .int .i64 (k : Int) ∧ vi = .int .i64 (i : Int) ∧ Hid (∀ (hk : k < L.length) (j : Nat) (hj : j < L.length), j < i → L[k].b ≤ L[j].b) ∧ Hid (Below wr.heap.size wr wq)) (fun _ vi _ => L.length - (intOf vi).toNat)
   case atStart => exact ⟨0, 0, h0, by omega, rfl, rfl, hid (fun _ j _ hj => absurd hj (Nat.not_lt_zero _)), hid (Below.refl _ _)⟩
   case round =>
    obtain ⟨k, i, hk, hi', rfl, rfl, HM, HBQ⟩ := hrel
    have hki : (k : Int) < (L.length : Int) := by omega
    by_cases hlt : i < L.length
    ·have hii : (i : Int) < (L.length : Int) := by omega
     obtain ⟨g1, o1, e1, _, d1, _⟩ := rows_at (HR.out _ HBQ.out) hk
     cases e1
     obtain ⟨g2, o2, e2, _, d2, _⟩ := rows_at (HR.out _ HBQ.out) hlt
     cases e2
     have HY : Hid (L[i].b < L[k].b → ∀ (hk : i < L.length) (j : Nat) (hj : j < L.length), j < i + 1 → L[i].b ≤ L[j].b) := hid (fun e hk j hj q => by
      rcases Nat.lt_or_ge j i with z | z
      ·have := HM.out (by omega) j hj z; omega
      ·obtain rfl : j = i := by omega
       exact Int.le_refl _)
     have HN2 : Hid (¬ L[i].b < L[k].b → ∀ (hk : k < L.length) (j : Nat) (hj : j < L.length), j < i + 1 → L[k].b ≤ L[j].b) := hid (fun e hk j hj q => by
      rcases Nat.lt_or_ge j i with z | z
      ·exact HM.out (by omega) j hj z
      ·obtain rfl : j = i := by omega
       omega)
     generalize L[i].b = x at *
     generalize L[k].b = y at *
     by_cases hxy : x < y
     ·have hxd : decide (x < y) = true := decide_eq_true hxy
      have HM2 := hid (HY.out hxy)
      clear HY HN2 HM
      go_wp2_with fail
      go_quiet (fail)
      go_wp2_with fail
      go_roundw
      case rel => exact ⟨i, i + 1, hlt, by omega, rfl, by go_num, HM2, hid (below_drewN HBQ.out _)⟩
      case measure => simp [intOf]; omega
     ·have hxd : decide (x < y) = false := decide_eq_false hxy
      have HM2 := hid (HN2.out hxy)
      clear HY HN2 HM
      go_wp2_with fail
      go_quiet (fail)
      go_wp2_with fail
      go_roundw
      case rel => exact ⟨k, i + 1, hk, by omega, rfl, by go_num, HM2, hid (below_drewN HBQ.out _)⟩
      case measure => simp [intOf]; omega
    ·obtain rfl : i = L.length := by omega
     have hii : ¬ (L.length : Int) < (L.length : Int) := by omega
     have HNX := hid (HS.out.next HN.out hk (fun j hj => HM.out hk j hj hj))
     have hAq := owns_below HA.out HBQ.out
     have HRq := hid (HR.out _ HBQ.out)
     have hbq := below_then HB.out HBQ.out
     obtain ⟨g1, o1, e1, c0, c1, c2, c3⟩ := rows_at HRq.out hk
     cases e1
     obtain ⟨ua, un, uc, hu⟩ := rows_slice (l := L) (fun t ht => HV.out t (HS.out.mem ht)) hk
     rw [hu] at c3
     have HL : Hid (txV (acc ++ [L[k]]) = txV acc ++ [.int .i64 L[k].s, .int .i64 L[k].b, .int .i64 L[k].c, .slice ua un uc]) := hid (by rw [txV_app, ← hu]; rfl)
     have hlk : (acc ++ [L[k]]).length = acc.length + 1 := by simp
     have HONE2 := hid (HS.out.one HONE.out)
     have hbs := hbq.size
     clear HM HA HR hu
     generalize L[k] = t at *
     obtain ⟨s, b, cc, tv, tl⟩ := t
     simp only at c0 c1 c2 HL
     go_wp2_with (first | (at_builtin; refine wpList_append_own _ rfl _ _ 22 rfl w.heap.size 52 i0 (.agg #[.int .i64 0, .int .i64 0, .int .i64 0, .slice none 0 0]) 4 48 Tryz.underlying22 hi hz0 hz1 hz2 rfl (by decide) _ _ _ rfl (hAq.alloc _) ⟨_, 0, none⟩ 1 1 [.int .i64 s, .int .i64 b, .int .i64 cc, .slice ua un uc] rfl rfl ?c1 ?c2 ?c3 ?c4 ?c5 ?_) | go_in)
     case c2 => exact ⟨rfl, rfl, rfl, rfl⟩
     case c3 => unfold maxLen; omega
     case c4 => omega
     case c5 => omega
     intro v6 w6 hown6 hg6 _
     have hO6 : OwnT w6 w.heap.size v6 (acc ++ [⟨s, b, cc, tv, tl⟩]) := by
      unfold OwnT
      rw [HL.out, hlk]
      exact hown6
     have hb6 : Below w.heap.size w w6 := below_app hbq (Nat.le_refl _) hAq hg6
     have hR6 := ((HRq.out).below ((Below.refl _ _).alloc (Nat.le_refl _) (.cells #[.int .i64 s, .int .i64 b, .int .i64 cc, .slice ua un uc] 52))).grown hg6 HAP.out
     clear hown6 hg6 hAq c0 c1 c2 c3 HAP HBQ HB hbq HRq HL hlk hbs
     have hs6 := hb6.size
     have hW : Below w6.heap.size w6 (w6.drew.alloc (.cells #[] 52)) := (⟨rfl, rfl, rfl, Nat.le_refl _, fun _ _ => rfl⟩ : Below w6.heap.size w6 w6.drew).alloc (Nat.le_refl _) _
     have HOW := hid (World.ownsRow_made (base := w6.heap.size) (e := 52) (size := 4) w6.drew #[] 0 (Nat.le_refl _) (by decide) rfl)
     obtain ⟨A, hA, HC2⟩ : ∃ A : Addr, (if lcap = k + 1 then some (⟨g, o, none⟩ : Addr) else some ⟨g, o + (k + 1) * 4, none⟩) = some A ∧ Hid (∀ w7, Below w6.heap.size w6 w7 → ∀ i u, (txV (L.drop (k + 1)))[i]? = some u → w7.cell? (A.add i) = some u) := by
      by_cases h : lcap = k + 1
      ·refine ⟨⟨g, o, none⟩, by simp [h], hid fun w7 hb7 i u hu => ?_⟩
       rw [List.drop_eq_nil_of_le (by omega)] at hu
       simp [txV] at hu
      ·exact ⟨⟨g, o + (k + 1) * 4, none⟩, by simp [h], hid fun w7 hb7 => rows_part (hR6.below hb7) (k + 1)⟩
     have HC1 : Hid (∀ i u, (txV (L.take k))[i]? = some u → (w6.drew.alloc (.cells #[] 52)).cell? ((⟨g, o, none⟩ : Addr).add i) = some u) := hid (fun i u hu => by
      have hi : i < k * 4 := by
       have := (List.getElem?_eq_some_iff.1 hu).1
       rw [txV_len, List.length_take] at this; omega
      refine rows_part (hR6.below hW) 0 i u ?_
      rw [List.drop_zero, ← hu, txV_tak, List.getElem?_take, if_pos hi])
     have s1 : Hid ((txV (L.take k)).length = k * 4) := hid (by rw [txV_len, List.length_take]; omega)
     have s2 : Hid (∀ u ∈ txV (L.take k), u.oneCell' = true) := hid (fun u hu => HONE2.out u (by rw [txV_tak] at hu; exact List.mem_of_mem_take hu))
     have t1 : Hid ((txV (L.drop (k + 1))).length = (L.length - (k + 1)) * 4) := hid (by rw [txV_len, List.length_drop])
     have t2 : Hid (∀ u ∈ txV (L.drop (k + 1)), u.oneCell' = true) := hid (fun u hu => HONE2.out u (by rw [txV_drop] at hu; exact List.mem_of_mem_drop hu))
     have HS5 : Hid (w6.heap.size ≤ (w6.drew.alloc (.cells #[] 52)).heap.size) := hid hW.size
     have HB7 : Hid (∀ w7, (w6.drew.alloc (.cells #[] 52)).grownBy w7 (some w6.heap.size) → Below w6.heap.size w6 w7) := hid (fun w7 hg => hW.grown hg hW.size (fun k hk => by cases hk; exact Nat.le_refl _))
     have hjc : k ≤ lcap := by omega
     have hwr : IntKind.i64.wrap ((k : Int) + 1) = (k : Int) + 1 := by rw [IntKind.wrap_i64]; omega
     have hp0 : (0 : Int) ≤ (k : Int) + 1 := by omega
     have hp1 : (k : Int) + 1 ≤ (L.length : Int) := by omega
     have hp2 : ((k : Int) + 1).toNat = k + 1 := by omega
     have HR6 := hid hR6
     have HO6 := hid hO6
     clear hR6 hO6 hW
     go_wp2_with fail
     go_region_law (first
      | (refine step_app _ rfl (.tmp 43) (.tmp 47) 22 rfl w6.heap.size 52 i0 (.agg #[.int .i64 0, .int .i64 0, .int .i64 0, .slice none 0 0]) 4 48 Tryz.underlying22 hi hz0 hz1 hz2 rfl (by decide) v7 (0 + k) _ (by simp [Act.eval]) hown7 A (L.length - (k + 1)) (lcap - (k + 1)) _ (by simp [Act.eval]) t1.out (HC2.out _ (HB7.out _ hg7)) t2.out (by unfold maxLen; omega) (by omega) (Nat.le_trans HS5.out hg7.size) ?_; intro v8 w8 hown8 hg8)
      | (refine step_app _ rfl (.tmp 39) (.tmp 42) 22 rfl w6.heap.size 52 i0 (.agg #[.int .i64 0, .int .i64 0, .int .i64 0, .slice none 0 0]) 4 48 Tryz.underlying22 hi hz0 hz1 hz2 rfl (by decide) _ 0 [] (by simp [Act.eval]) HOW.out ⟨g, o, none⟩ k lcap _ (by simp [Act.eval]) s1.out HC1.out s2.out (by unfold maxLen; omega) (by omega) HS5.out ?_; intro v7 w7 hown7 hg7))
     have hb8 : Below w6.heap.size w6 w8 := (HB7.out _ hg7).trans ((Below.refl _ _).grown hg8 (Nat.le_trans HS5.out hg7.size) (fun k hk => (hown7.lt k hk).1))
     have hR8 : Row w8 v8 (L.take k ++ L.drop (k + 1)).length 4 (txV (L.take k ++ L.drop (k + 1))) := by
      rw [txV_app, List.length_append, List.length_take, List.length_drop, Nat.min_eq_left (by omega)]
      have := Row.of_owns hown8
      rw [Nat.zero_add] at this
      exact this
     have hlv := owns_lenV hown8
     have hap8 : ∀ b, v6.ownBlock = some b → v8.ownBlock ≠ some b := fun b h6 h8 => by
      have := (World.ownsRow.lt HO6.out b h6).2
      have := (hown8.lt b h8).1
      omega
     have ho8 : OwnT w8 w.heap.size v6 (acc ++ [⟨s, b, cc, tv, tl⟩]) := OwnT.below HO6.out hb8
     have hbe := hb6.trans (hb8.mono hs6)
     go_simp
     go_wp2
     go_roundw
     case rel => exact ⟨acc ++ [⟨s, b, cc, tv, tl⟩], L.take k ++ L.drop (k + 1), HNX, ho8, hR8, hid hap8, hbe⟩
     case measure => rw [hlv]; simp [lenV]; omega
end

section
open Go.RowKit
theorem rankN_app (L M : List Int) (x : Int) : rankN (L ++ M) x = rankN L x + rankN M x := by unfold rankN; rw [List.countP_append]
def rankTo (h : List TxnV) (x : Int) (k : Nat) : Nat := rankN (stL (h.take k)) x
theorem rankTo_le (h : List TxnV) (x : Int) (k : Nat) : rankTo h x k ≤ 2 * k := by
 unfold rankTo rankN
 refine Nat.le_trans List.countP_le_length ?_
 unfold stL
 rw [List.length_flatMap]
 have : ∀ l : List TxnV, (l.map fun t => [t.b, t.c].length).sum = 2 * l.length := fun l => by
  induction l with
  | nil => rfl
  | cons a l ih => rw [List.map_cons, List.sum_cons, ih, List.length_cons]; simp; omega
 rw [this, List.length_take]
 omega
theorem rankTo_succ (h : List TxnV) (x : Int) {k : Nat} (hk : k < h.length) : rankTo h x (k + 1) = rankTo h x k + ((if h[k].b < x then 1 else 0) + (if h[k].c < x then 1 else 0)) := by
 unfold rankTo
 rw [stL_succ h k hk, rankN_app]
 congr 1
 unfold rankN
 rw [List.countP_cons, List.countP_cons, List.countP_nil]
 by_cases h1 : h[k].b < x <;> by_cases h2 : h[k].c < x <;> simp [h1, h2]
theorem rrank22_any (va : Value) (h : List TxnV) (x : Int) (w : World) (hT : Txns w va h) (hl : h.length ≤ 1000) :
  Calls Tryz.prog 41 #[va, .int .i64 x] w fun e w' => e = .returned (.int .i64 (rankI (stL h) x)) ∧ w = w' := by
 have HT := hid hT
 have HV : Hid (rankI (stL h) x = ((rankTo h x h.length : Nat) : Int)) := hid (by unfold rankTo rankI; rw [List.take_length])
 rw [HV.out]
 obtain ⟨ao, cap, rfl, hal⟩ := hT.form
 clear hT
 go_enter Tryz.func41, Tryz.ntmps41
 go_wp2_with fail
 go_loopw [5, 6] (fun n i wr => ∃ k : Nat, k ≤ h.length ∧ i = .int .i64 (k : Int) ∧ n = .int .i64 ((rankTo h x k : Nat) : Int) ∧ wr = w) (fun _ i _ => h.length - (intOf i).toNat)
 case atStart => exact ⟨0, by omega, rfl, rfl, rfl⟩
 case round =>
  obtain ⟨k, hk, rfl, rfl, rfl⟩ := hrel
  by_cases hlt : k < h.length
  ·have hki : (k : Int) < (h.length : Int) := by omega
   obtain ⟨g, o, hg, _, c1, c2, _⟩ := HT.out.at hlt
   cases hg
   have hs := rankTo_succ h x hlt
   have hle := rankTo_le h x k
   have HS := hid hs
   clear hs HV
   obtain ⟨n2, hn2e⟩ : ∃ n2, rankTo h x (k + 1) = n2 := ⟨_, rfl⟩
   rw [hn2e] at HS
   have HE := hid hn2e
   clear hn2e
   generalize rankTo h x k = n at *
   generalize h[k].b = y at *
   generalize h[k].c = z at *
   by_cases h1 : y < x
   ·by_cases h2 : z < x
    ·have hn2 : n2 = n + 2 := by have := HS.out; rw [if_pos h1, if_pos h2] at this; omega
     subst hn2
     clear HS
     go_wp2_with fail
     go_roundw
     case rel => exact ⟨k + 1, by omega, by go_num, by rw [HE.out]; go_num, trivial⟩
     case measure => simp [intOf]; omega
    ·have hn2 : n2 = n + 1 := by have := HS.out; rw [if_pos h1, if_neg h2] at this; omega
     subst hn2
     clear HS
     go_wp2_with fail
     go_roundw
     case rel => exact ⟨k + 1, by omega, by go_num, by rw [HE.out]; go_num, trivial⟩
     case measure => simp [intOf]; omega
   ·by_cases h2 : z < x
    ·have hn2 : n2 = n + 1 := by have := HS.out; rw [if_neg h1, if_pos h2] at this; omega
     subst hn2
     clear HS
     go_wp2_with fail
     go_roundw
     case rel => exact ⟨k + 1, by omega, by go_num, by rw [HE.out]; go_num, trivial⟩
     case measure => simp [intOf]; omega
    ·have hn2 : n2 = n := by have := HS.out; rw [if_neg h1, if_neg h2] at this; omega
     subst hn2
     clear HS
     go_wp2_with fail
     go_roundw
     case rel => exact ⟨k + 1, by omega, by go_num, by rw [HE.out], trivial⟩
     case measure => simp [intOf]; omega
  ·obtain rfl : k = h.length := by omega
   have hki : ¬ (h.length : Int) < (h.length : Int) := by omega
   clear HV
   go_wp2_with fail
   go_ret
   exact ⟨rfl, rfl⟩
theorem posL_hit {L : List Int} {x : Int} {k : Nat} (hk : k < L.length) (h0 : ∀ j (hj : j < L.length), j < k → L[j] ≠ x) (h1 : L[k] = x) : posL L x = k ∧ addN L x = L := by
 have hm : x ∈ L := h1 ▸ List.getElem_mem hk
 refine ⟨?_, by unfold addN; rw [if_pos hm]⟩
 unfold posL
 rw [List.findIdx_eq hk]
 refine ⟨by simpa using h1, fun j hj => ?_⟩
 simpa using h0 j (by omega) hj
theorem posL_miss {L : List Int} {x : Int} (h0 : ∀ j (hj : j < L.length), j < L.length → L[j] ≠ x) : posL L x = L.length ∧ addN L x = L ++ [x] := by
 have hm : x ∉ L := fun h => by
  obtain ⟨j, hj, e⟩ := List.mem_iff_getElem.1 h
  exact h0 j hj hj e
 exact ⟨posL_new hm, by unfold addN; rw [if_neg hm]⟩
theorem rname22_any (b : Nat) (va : Value) (L : List Int) (x : Int) (w : World) (hO : IntO w b va L) (hb : b ≤ w.heap.size) (hl : L.length ≤ 100000) :
  Calls Tryz.prog 42 #[va, .int .i64 x] w fun e w' => ∃ v, e = .returned (.tuple #[v, .int .i64 ((posL L x : Nat) : Int)]) ∧ IntO w' b v (addN L x) ∧ Below w.heap.size w w' := by
 obtain ⟨i0, hi, hz0, hz1, hz2⟩ := info_parts infoInt
 have hI := hO.ints
 have HI := hid hI
 have HO := hid hO
 obtain ⟨ao, cap, rfl, hal⟩ := hI.form
 clear hI hO
 go_enter Tryz.func42, Tryz.ntmps42
 go_wp2_with fail
 go_loopw [6] (fun i wr => ∃ k : Nat, k ≤ L.length ∧ i = .int .i64 (k : Int) ∧ Hid (∀ j (hj : j < L.length), j < k → L[j] ≠ x) ∧ wr = w) (fun i _ => L.length - (intOf i).toNat)
 case atStart => exact ⟨0, by omega, rfl, hid (fun j _ hj => absurd hj (Nat.not_lt_zero _)), rfl⟩
 case round =>
  obtain ⟨k, hk, rfl, HN, rfl⟩ := hrel
  by_cases hlt : k < L.length
  ·have hki : (k : Int) < (L.length : Int) := by omega
   obtain ⟨g, o, hg, hc⟩ := HI.out.at hlt
   cases hg
   have HY := hid (fun e => posL_hit hlt HN.out (x := x) e)
   have HN2 : Hid (L[k] ≠ x → ∀ j (hj : j < L.length), j < k + 1 → L[j] ≠ x) := hid (fun e j hj q => by
    rcases Nat.lt_or_ge j k with z | z
    ·exact HN.out j hj z
    ·obtain rfl : j = k := by omega
     exact e)
   generalize L[k] = y at *
   by_cases hyx : y = x
   ·obtain ⟨e1, e2⟩ := HY.out hyx
    have hq : (y == x) = true := by simpa using hyx
    have HR : Hid (IntO wr b (.slice (some ⟨g, o, none⟩) L.length cap) (addN L x)) := hid (by rw [e2]; exact HO.out)
    have HT : Hid (Ending.returned (.tuple #[.slice (some ⟨g, o, none⟩) L.length cap, .int .i64 (k : Int)]) = .returned (.tuple #[.slice (some ⟨g, o, none⟩) L.length cap, .int .i64 ((posL L x : Nat) : Int)])) := hid (by rw [e1])
    clear HN HY HN2 e1 e2 hyx
    go_wp2_with fail
    go_ret2
    exact ⟨_, HT.out, HR.out, Below.refl _ _⟩
   ·have hq : (y == x) = false := by simpa using hyx
    have HN3 := hid (HN2.out hyx)
    clear HN HY HN2 hyx
    go_wp2_with fail
    go_roundw
    case rel => exact ⟨k + 1, by omega, by go_num, HN3, trivial⟩
    case measure => simp [intOf]; omega
  ·obtain rfl : k = L.length := by omega
   have hki : ¬ (L.length : Int) < (L.length : Int) := by omega
   obtain ⟨e1, e2⟩ := posL_miss HN.out
   have HE := hid (And.intro e1 e2)
   have hlb := (Below.refl wr.heap.size wr).alloc (Nat.le_refl _) (.cells #[] 3)
   have hI1 := HI.out.below hlb
   clear HN e1 e2
   go_wp2_with (first | (at_builtin; refine wpList_append_row rfl _ _ 24 rfl wr.heap.size 3 i0 (.int .i64 0) 1 8 Tryz.underlying24 hi hz0 hz1 hz2 rfl (by decide) (.slice (some ⟨wr.heap.size, 0, none⟩) 0 0) 0 [] rfl (World.ownsRow_lit _ _ _ (Nat.le_refl _) (by decide) rfl) _ L.length _ rfl hI1 ?d1 ?d2 ?d3 ?d4 ?_) | go_in)
   case d1 => intro u _; rfl
   case d2 => unfold maxLen; omega
   case d3 => omega
   intro v5 w5 hown5 hg5
   have hb5 := hlb.grown hg5 (by simp) (by intro k hk; simp [Value.ownBlock] at hk; omega)
   have hO5 : w5.ownsRow wr.heap.size 3 1 v5 L.length (L.map (Value.int .i64)) := by
    exact hown5
   have hbs := hb5.size
   clear hown5 hg5 hlb hI1
   go_wp2_with (first | (at_builtin; refine wpList_append_own _ rfl _ _ 24 rfl wr.heap.size 3 i0 (.int .i64 0) 1 8 Tryz.underlying24 hi hz0 hz1 hz2 rfl (by decide) _ _ _ rfl (hO5.alloc _) ⟨_, 0, none⟩ 1 1 [.int .i64 x] rfl rfl ?c1 ?c2 ?c3 ?c4 ?c5 ?_) | go_in)
   try case c1 => exact cell_one_new _ _ _
   try case c2 => first | rfl | (intro u hu; simp at hu; subst hu; rfl)
   case c3 => unfold maxLen; omega
   case c4 => omega
   case c5 => simp; omega
   intro v6 w6 hown6 hg6 _
   have hI6 : IntO w6 b v6 (L ++ [x]) := by
    refine owns_weak (b := wr.heap.size) ?_ hb
    rw [List.map_append, List.length_append]
    exact hown6
   have hb6 : Below wr.heap.size wr w6 := below_app hb5 (Nat.le_refl _) hO5 hg6
   have HT6 : Hid (Ending.returned (.tuple #[v6, .int .i64 (L.length : Int)]) = .returned (.tuple #[v6, .int .i64 ((posL L x : Nat) : Int)])) := hid (by rw [HE.out.1])
   have HI6 : Hid (IntO w6 b v6 (addN L x)) := hid (by rw [HE.out.2]; exact hI6)
   clear hown6 hg6 hO5 hb5 hI6
   go_wp2_with fail
   go_ret2
   exact ⟨_, HT6.out, HI6.out, hb6⟩
end

section
open Go.RowKit
structure CroI (s : List TxnV) (B M : Nat) (L : List Int) (w : World) (vo vl vs : Value) (c : List TxnV) : Prop where
 o : OwnT w B vo c
 lo : ∀ b, vo.ownBlock = some b → b < M
 k : ∀ t ∈ c, Own w B t.v t.l
 lk : ∀ t ∈ c, ∀ b, t.v.ownBlock = some b → b < M
 l : OwnT w B vl s
 ll : ∀ b, vl.ownBlock = some b → b < M
 ap : ∀ b, vo.ownBlock = some b → vl.ownBlock ≠ some b
 se : IntO w B vs L
section
variable {s c : List TxnV} {B M M' : Nat} {L : List Int} {w w' : World} {vo vo' vl vs : Value}
theorem CroI.below (h : CroI s B M L w vo vl vs c) (hb : Below w.heap.size w w') : CroI s B M L w' vo vl vs c :=
 ⟨h.o.below hb, h.lo, fun t ht => (h.k t ht).below hb, h.lk, h.l.below hb, h.ll, h.ap, h.se.below hb⟩
theorem CroI.mono (h : CroI s B M L w vo vl vs c) (hm : M ≤ M') : CroI s B M' L w vo vl vs c :=
 ⟨h.o, fun b e => Nat.lt_of_lt_of_le (h.lo b e) hm, h.k, fun t ht b e => Nat.lt_of_lt_of_le (h.lk t ht b e) hm, h.l, fun b e => Nat.lt_of_lt_of_le (h.ll b e) hm, h.ap, h.se⟩
theorem no_row {v : Value} {row : Option Nat} (hv : ∀ b, v.ownBlock = some b → b < M) (hr : ∀ g, row = some g → M ≤ g) : v.ownBlock = none ∨ v.ownBlock ≠ row := by
 cases e : v.ownBlock with
 | none => exact .inl rfl
 | some b =>
  right
  intro q
  have := hv b e
  have := hr b q.symm
  omega
theorem CroI.row {row : Option Nat} (h : CroI s B M L w vo vl vs c) (hr : ∀ g, row = some g → M ≤ g) (hi : vs.ownBlock = none ∨ vs.ownBlock ≠ row) (hg : w.grownBy w' row) : CroI s B M L w' vo vl vs c :=
 ⟨World.ownsRow.kept h.o hg (no_row h.lo hr), h.lo, fun t ht => World.ownsRow.kept (h.k t ht) hg (no_row (h.lk t ht) hr), h.lk, World.ownsRow.kept h.l hg (no_row h.ll hr), h.ll, h.ap, World.ownsRow.kept h.se hg hi⟩
theorem CroI.box {p : Nat} {t : TypeId} {cs : Array Value} (h : CroI s B M L w vo vl vs c) (hp : M ≤ p) (k : BoxN w p t cs) (hne : 3 ≠ t) (hg : w.grownBy w' (some p)) : CroI s B M L w' vo vl vs c :=
 h.row (fun g e => by cases e; exact hp) (owns_no_box h.se k hne) hg
theorem CroI.ops {vt : Value} {m : List OpV} (h : CroI s B M L w vo vl vs c) (hu : Own w M vt m) (hg : w.grownBy w' vt.ownBlock) : CroI s B M L w' vo vl vs c :=
 h.row (fun g e => (World.ownsRow.lt hu g e).1) (owns_apart h.se hu (by decide)) hg
theorem CroI.txns (h : CroI s B M L w vo vl vs c) : Txns w vo c := ⟨h.o.row, fun t ht => (h.k t ht).ops⟩
theorem CroI.add {x y z : Int} {vt : Value} {m : List OpV} {g cap : Nat} (h : CroI s B M L w vo vl vs c) (hBM : B ≤ M) (hu : Own w M vt m) (hO : OwnT w' B (.slice (some ⟨g, 0, none⟩) (c.length + 1) cap) (c ++ [⟨x, y, z, vt, m⟩])) (hg : w.grownBy w' vo.ownBlock) (hl : vo.ownBlock = some g ∨ g = w.heap.size) :
  CroI s B w'.heap.size L w' (.slice (some ⟨g, 0, none⟩) (c.length + 1) cap) vl vs (c ++ [⟨x, y, z, vt, m⟩]) := by
 have hvl : vl.ownBlock = none ∨ vl.ownBlock ≠ vo.ownBlock := by
  cases e : vl.ownBlock with
  | none => exact .inl rfl
  | some b => exact .inr fun q => h.ap b q.symm e
 have hkk : ∀ t ∈ c, Own w' B t.v t.l := fun t ht => World.ownsRow.kept (h.k t ht) hg (owns_apart (h.k t ht) h.o (by decide))
 have hu' : Own w' M vt m := World.ownsRow.kept hu hg (owns_apart hu h.o (by decide))
 have hl' : OwnT w' B vl s := World.ownsRow.kept h.l hg hvl
 refine ⟨hO, fun b e => (World.ownsRow.lt hO b e).2, fun t ht => ?_, fun t ht b e => ?_, hl', fun b e => (World.ownsRow.lt hl' b e).2, fun b e q => ?_, World.ownsRow.kept h.se hg (owns_apart h.se h.o (by decide))⟩
 ·rcases List.mem_append.1 ht with ht | ht
  ·exact hkk t ht
  ·rw [List.mem_singleton] at ht; subst ht; exact hu'.base hBM
 ·rcases List.mem_append.1 ht with ht | ht
  ·exact (World.ownsRow.lt (hkk t ht) b e).2
  ·rw [List.mem_singleton] at ht; subst ht; exact (World.ownsRow.lt hu' b e).2
 ·simp [Value.ownBlock] at e
  subst e
  rcases hl with hl | hl
  ·exact h.ap g hl q
  ·have := (World.ownsRow.lt h.l g q).2; omega
end
theorem stL_permC {h s : List TxnV} (hs : s.Perm h) : (stL s).Perm (stL h) := by unfold stL; exact hs.flatMap_right _
theorem rank_perm {h s : List TxnV} (hs : s.Perm h) (x : Int) : rankI (stL h) x = rankI (stE (s.map txE)) x := by
 rw [stE_txE]
 unfold rankI rankN
 rw [(stL_permC hs).countP_eq]
theorem can_next {s c : List TxnV} {i : Nat} (hi : i < s.length) (hc : c.map txE = (canE (s.map txE)).take i) {vt : Value} {x y z : Int} (hx : x = noI (sesE (s.map txE)) s[i].s) (hy : y = rankI (stE (s.map txE)) s[i].b) (hz : z = rankI (stE (s.map txE)) s[i].c) :
  (c ++ [(⟨x, y, z, vt, (opsAt s i).map (cOp (s.map txE))⟩ : TxnV)]).map txE = (canE (s.map txE)).take (i + 1) := by
 have hl : i < (canE (s.map txE)).length := by unfold canE; simpa using hi
 have key : (canE (s.map txE))[i]? = some (renE (noI (sesE (s.map txE))) (rankI (stE (s.map txE))) (noI (keyE (s.map txE))) (noV (valE (s.map txE))) (txE s[i])) := by
  unfold canE
  rw [List.getElem?_map, List.getElem?_map, List.getElem?_eq_getElem hi]; rfl
 have e2 := List.getElem?_eq_getElem hl
 rw [key] at e2
 have e3 := (Option.some.inj e2).symm
 subst hx hy hz
 rw [List.take_succ_eq_append_getElem hl, List.map_append, hc, e3, opsAt_eq hi]
 rfl
theorem can_all {s c : List TxnV} (hc : c.map txE = (canE (s.map txE)).take s.length) : c.map txE = canE (s.map txE) := by
 rw [hc, List.take_of_length_le]
 unfold canE; simp
theorem val_new (q : List Int) (x : Int) (h : x ≠ 0) : addN (firsts (valP q)) x = firsts (valP (q ++ [x])) := by
 unfold valP
 rw [List.filter_append, show List.filter (fun v => v != 0) [x] = [x] by simp [h], firsts_snoc]
theorem val_old (q : List Int) : firsts (valP (q ++ [0])) = firsts (valP q) := by
 unfold valP
 rw [List.filter_append]
 simp
theorem kTo_len {s : List TxnV} {i k : Nat} (hi : i < s.length) : (firsts (kTo s i k)).length ≤ opsN s := by
 refine Nat.le_trans (firsts_len _) ?_
 have h1 : (keyE (s.map txE)).length = opsN s := by
  unfold keyE opsN
  rw [List.flatMap_map, List.length_flatMap]
  congr 1
  exact List.map_congr_left fun t _ => by simp [txE]
 have h2 : kTo s i k <+: keyE (s.map txE) := by
  have hiE : i < (s.map txE).length := by simpa using hi
  have eE : (txE s[i]).2.2.2 = opsAt s i := (opsAt_eq hi).symm
  have e : keyE (s.map txE) = keyE ((s.map txE).take i) ++ ((opsAt s i).map (·.key) ++ keyE ((s.map txE).drop (i + 1))) := by
   have q := congrArg keyE (List.take_append_drop i (s.map txE))
   unfold keyE at q ⊢
   rw [List.flatMap_append, List.drop_eq_getElem_cons hiE, List.flatMap_cons, List.getElem_map, eE] at q
   exact q.symm
  rw [e]
  unfold kTo
  refine (List.prefix_append_right_inj _).2 ?_
  refine List.IsPrefix.trans ?_ (List.prefix_append _ _)
  rw [List.map_take]
  exact List.take_prefix _ _
 rw [← h1]
 exact h2.length_le
theorem vTo_len {s : List TxnV} {i k : Nat} (hi : i < s.length) : (firsts (valP (vTo s i k))).length ≤ opsN s := by
 refine Nat.le_trans (firsts_len _) (Nat.le_trans (List.length_filter_le _ _) ?_)
 rw [← valA_len s]
 have h2 : vTo s i k <+: valA (s.map txE) := by
  have hiE : i < (s.map txE).length := by simpa using hi
  have eE : (txE s[i]).2.2.2 = opsAt s i := (opsAt_eq hi).symm
  have e : valA (s.map txE) = valA ((s.map txE).take i) ++ ((opsAt s i).map (·.val) ++ valA ((s.map txE).drop (i + 1))) := by
   have q := congrArg valA (List.take_append_drop i (s.map txE))
   unfold valA at q ⊢
   rw [List.flatMap_append, List.drop_eq_getElem_cons hiE, List.flatMap_cons, List.getElem_map, eE] at q
   exact q.symm
  rw [e]
  unfold vTo
  refine (List.prefix_append_right_inj _).2 ?_
  refine List.IsPrefix.trans ?_ (List.prefix_append _ _)
  rw [List.map_take]
  exact List.take_prefix _ _
 exact h2.length_le
theorem sTo_len {s : List TxnV} {i : Nat} : (firsts (sTo s i)).length ≤ s.length := by
 refine Nat.le_trans (firsts_len _) ?_
 unfold sTo sesE
 simp
 omega
theorem opsTake_succ {s : List TxnV} {i k : Nat} (E : List ETx) (hk : k < (opsAt s i).length) : ((opsAt s i).take (k + 1)).map (cOp E) = ((opsAt s i).take k).map (cOp E) ++ [cOp E (opsAt s i)[k]] := by
 rw [List.take_succ_eq_append_getElem hk, List.map_append]; rfl
theorem cOp_val {s : List TxnV} {i k : Nat} (hi : i < s.length) (hk : k < (opsAt s i).length) :
  cOp (s.map txE) (opsAt s i)[k] = ⟨(opsAt s i)[k].wr, ((posL (firsts (kTo s i k)) (opsAt s i)[k].key : Nat) : Int), if (opsAt s i)[k].val = 0 then 0 else ((posL (firsts (valP (vTo s i k))) (opsAt s i)[k].val : Nat) : Int) + 1⟩ := by
 rw [← cOp_now hi hk]
 congr 1
 by_cases h : (opsAt s i)[k].val = 0
 ·rw [if_pos h, h, pos_zero]; rfl
 ·rw [if_neg h, pos_cons _ h]; omega
end

section
open Go.RowKit
theorem Own.keep {w w' : World} {b : Nat} {v : Value} {l : List OpV} {row : Option Nat} (h : Own w b v l) (hg : w.grownBy w' row) (hne : v.ownBlock = none ∨ v.ownBlock ≠ row) : Own w' b v l := World.ownsRow.kept h hg hne
theorem infoTxnA {x y z u : Value} : (Tryz.prog.info? 52).map (·.size) = some (#[x, y, z, u] : Array Value).size := (show (Tryz.prog.info? 52).map (·.size) = some 4 by kernel_rfl)
theorem rof22_any (va : Value) (h : List TxnV) (w : World) (hT : Txns w va h) (hc : checkI h = 0) :
  Calls Tryz.prog 15 #[va] w fun e w' => (∃ v c s, e = .returned v ∧ Txns w' v c ∧ IsSrt h s ∧ c.map txE = canE (s.map txE)) ∧ Below w.heap.size w w' := by
 obtain ⟨i0, hi, hz0, hz1, hz2⟩ := info_parts infoTxn
 obtain ⟨i1, hj, hy0, hy1, hy2⟩ := info_parts infoOp
 obtain ⟨h64, hopn, _, _⟩ := check_zero hc
 have HOL : Hid (∀ t ∈ h, t.l.length ≤ 64) := hid (fun t ht => (may_at (check_rightB hc).1 ht).1.2.2.2.2.2.2)
 have HT := hid (fun wx (hx : Below w.heap.size w wx) => hT.below hx)
 have CS := hid (fun wx (hx : Below w.heap.size w wx) => rsorted22_any va h wx (hT.below hx) (begins_nodup (check_rightB hc).2.2.1) (by omega))
 have CR := hid (fun x wx (hx : Below w.heap.size w wx) => rrank22_any va h x wx (hT.below hx) (by omega))
 have HOPN := hid hopn
 clear hT hc hopn
 have hO1 : OwnT (w.alloc (.cells #[] 52)) w.heap.size (.slice (some ⟨w.heap.size, 0, none⟩) 0 0) [] := World.ownsRow_lit (base := w.heap.size) (size := 4) w #[] 0 (Nat.le_refl _) (by decide) rfl
 have hb1 := (Below.refl w.heap.size w).alloc (Nat.le_refl _) (.cells #[] 52)
 have hs1 : (w.alloc (.cells #[] 52)).heap.size = w.heap.size + 1 := by simp
 go_enter Tryz.func15, Tryz.ntmps15
 go_upto_region 2 with fail
 generalize w.alloc (.cells #[] 52) = w1 at *
 have CS1 := hid (CS.out _ hb1)
 clear CS
 go_wp2_with fail
 refine CS1.out.mono ?_
 rintro e w2 ⟨⟨vl, s, rfl, hL, hs⟩, hb2⟩
 have HS := hid hs
 have hsl : s.length ≤ 64 := by have := hs.1.length_eq; omega
 have HOS : Hid (opsN s ≤ 1024) := hid (by have := HOPN.out; unfold opsN at this ⊢; rw [sum_perm (hs.1.map _)]; exact this)
 have hB2 := below_then hb1 hb2
 have h2s := hB2.size
 have hsz2 := hb2.size
 have hI0 : CroI s w.heap.size w2.heap.size (firsts (sTo s 0)) ((w2.alloc (.cells #[] 3))) (.slice (some ⟨w.heap.size, 0, none⟩) 0 0) vl (.slice (some ⟨w2.heap.size, 0, none⟩) 0 0) [] := by
  have hbx := box_below w2 (.cells #[] 3)
  refine ⟨(hO1.below hb2).below hbx, fun b e => ?_, fun t ht => (by cases ht), fun t ht => (by cases ht), OwnT.below (show OwnT w2 w.heap.size vl s from owns_weak hL (by omega)) hbx, fun b e => (World.ownsRow.lt hL b e).2, fun b e q => ?_, IntO.lit w2 h2s⟩
  ·simp [Value.ownBlock] at e; omega
  ·simp [Value.ownBlock] at e
   have := (World.ownsRow.lt hL b q).1
   omega
 have hk0 : IntO ((w2.alloc (.cells #[] 3)).alloc (.cells #[] 3)) w.heap.size (.slice (some ⟨w2.heap.size + 1, 0, none⟩) 0 0) [] := by
  have q := IntO.lit (w2.alloc (.cells #[] 3)) (b := w.heap.size) (by simp; omega)
  rwa [World.size_alloc] at q
 have hv0 : IntO (((w2.alloc (.cells #[] 3)).alloc (.cells #[] 3)).alloc (.cells #[] 3)) w.heap.size (.slice (some ⟨w2.heap.size + 1 + 1, 0, none⟩) 0 0) [] := by
  have q := IntO.lit ((w2.alloc (.cells #[] 3)).alloc (.cells #[] 3)) (b := w.heap.size) (by simp; omega)
  rwa [World.size_alloc, World.size_alloc] at q
 have hI1 := (hI0.below (box_below _ (.cells #[] 3))).below (box_below _ (.cells #[] 3))
 have hk1 := hk0.below (box_below _ (.cells #[] 3))
 have hb5 := ((hB2.alloc hB2.size (.cells #[] 3)).alloc (by simp; omega) (.cells #[] 3)).alloc (by simp; omega) (.cells #[] 3)
 have hm5 : w2.heap.size ≤ (((w2.alloc (.cells #[] 3)).alloc (.cells #[] 3)).alloc (.cells #[] 3)).heap.size := by simp; omega
 have hI2 := hid (hI1.mono hm5)
 have hL9 := hL.row
 clear hO1 hb1 hs1 hb2 hL hs CS1 hI0 hk0 hI1 hsz2
 go_upto_region 6 with fail
 generalize ((w2.alloc (.cells #[] 3)).alloc (.cells #[] 3)).alloc (.cells #[] 3) = w5 at *
 obtain ⟨vs0, hvs0⟩ : ∃ v, Value.slice (some ⟨w2.heap.size, 0, none⟩) 0 0 = v := ⟨_, rfl⟩
 have HK1 := hid hk1
 have HV0 := hid hv0
 have HB5 := hid hb5
 obtain ⟨lo, lc, rfl⟩ : ∃ ao cap, vl = .slice ao s.length cap := by
  obtain ⟨_, ao, cap, rfl, _⟩ := hL9
  exact ⟨ao, cap, rfl⟩
 clear hvs0 hk1 hv0 hb5 hm5 hB2 hL9
 go_wp2_with fail
 go_loopw [3, 5, 6, 7, 8] (fun vo vs vk vv vi wr => ∃ (i : Nat) (c : List TxnV), i ≤ s.length ∧ vi = .int .i64 (i : Int) ∧ Hid (c.map txE = (canE (s.map txE)).take i) ∧ Hid (CroI s w.heap.size wr.heap.size (firsts (sTo s i)) wr vo (.slice lo s.length lc) vs c) ∧ Hid (IntO wr w.heap.size vk (firsts (kTo s i 0))) ∧ Hid (IntO wr w.heap.size vv (firsts (valP (vTo s i 0)))) ∧ Hid (Below w.heap.size w wr)) (fun _ _ _ _ vi _ => s.length - (intOf vi).toNat)
 case atStart => exact ⟨0, [], by omega, rfl, hid rfl, hI2, HK1, HV0, HB5⟩
 case round =>
  obtain ⟨i, c, hil, rfl, HCM, HI, HK, HV, HB⟩ := hrel
  by_cases hlt : i < s.length
  ·have hii : (i : Int) < (s.length : Int) := by omega
   obtain ⟨g, o, hgo, a0, a1, a2, a3⟩ := rows_at HI.out.l.row hlt
   cases hgo
   have hmem := HS.out.1.mem_iff.1 (List.getElem_mem hlt)
   have HOPS := hid (fun wx (hx : Below w.heap.size w wx) => (HT.out wx hx).2 _ hmem)
   obtain ⟨oo, oc, hov, _⟩ := (HOPS.out _ HB.out).form
   have hol := HOL.out _ hmem
   have hop : opsAt s i = s[i].l := opsAt_eq hlt
   have CRB := hid (fun wx (hx : Below wr.heap.size wr wx) => CR.out s[i].b wx (below_then HB.out hx))
   have CRC := hid (fun wx (hx : Below wr.heap.size wr wx) => CR.out s[i].c wx (below_then HB.out hx))
   rw [rank_perm HS.out.1] at CRB CRC
   have HSN := hid (ses_now hlt)
   obtain ⟨ss, hss⟩ : ∃ x, s[i].s = x := ⟨_, rfl⟩
   have HSS := hid hss
   rw [hss] at a0 HSN
   have HCN := hid (fun vt x y z => can_next (vt := vt) (x := x) (y := y) (z := z) hlt HCM.out)
   have HXK := hid (fun k (hk : k < (opsAt s i).length) => cOp_val hlt hk)
   have HOV : Hid (s[i].v = .slice oo (opsAt s i).length oc) := hid (by rw [hop]; exact hov)
   rw [hov] at a3 HOPS
   rw [← hop] at HOPS hol a3
   have HLN := hid hol
   have hcl : c.length ≤ 64 := by have q := congrArg List.length HCM.out; rw [List.length_map, List.length_take] at q; omega
   clear hmem hop hol HCM
   generalize s[i].b = sb at *
   generalize s[i].c = sc at *
   obtain ⟨rb, hrb⟩ : ∃ r, rankI (stE (s.map txE)) sb = r := ⟨_, rfl⟩
   obtain ⟨rc, hrc⟩ : ∃ r, rankI (stE (s.map txE)) sc = r := ⟨_, rfl⟩
   rw [hrb] at CRB
   rw [hrc] at CRC
   have HRB := hid (And.intro hrb hrc)
   clear hrb hrc
   have b1 := fun O => ((box_below wr O).cell (p := ⟨g, o + i * 4 + 1, none⟩) (block_lt a1)).trans a1
   have b2 := fun O => ((box_below wr O).cell (p := ⟨g, o + i * 4 + 2, none⟩) (block_lt a2)).trans a2
   go_upto_region 9 with fail
   go_cut [9, 12, 13, 14, 15, 16, 17] from 9 to 38 (fun u9 u12 u13 u14 u15 u16 u17 wx => ∃ p : Nat, u9 = .pointer (some ⟨p, 0, none⟩) ∧ u12 = .slice (some ⟨w.heap.size, 0, none⟩) 0 0 ∧ u13 = va ∧ u14 = .slice (some ⟨g, o, none⟩) s.length lc ∧ u15 = .slice (some ⟨w2.heap.size, 0, none⟩) 0 0 ∧ u16 = .slice (some ⟨w2.heap.size + 1, 0, none⟩) 0 0 ∧ u17 = .slice (some ⟨w2.heap.size + 1 + 1, 0, none⟩) 0 0 ∧ Hid (wr.heap.size ≤ p) ∧ Hid (BoxN wx p 52 #[.int .i64 0, .int .i64 rb, .int .i64 rc, .slice none 0 0]) ∧ Hid (Below wr.heap.size wr wx))
   case first =>
    have kd := (Below.refl wr.heap.size wr).drew
    have hwd : wr.drew.heap.size = wr.heap.size := rfl
    have hgl : g < wr.heap.size := block_lt a1
    have hgd : g ≠ wr.heap.size := by omega
    have a1 := (kd.cell (p := ⟨g, o + i * 4 + 1, none⟩) (block_lt a1)).trans a1
    have a2 := (kd.cell (p := ⟨g, o + i * 4 + 2, none⟩) (block_lt a2)).trans a2
    clear b1 b2
    refine wp_region_held_drew (S := fun wx => wx.cell? ⟨g, o + i * 4 + 1, none⟩ = some (.int .i64 sb) ∧ wx.cell? ⟨g, o + i * 4 + 2, none⟩ = some (.int .i64 sc)) (by kernel_rfl) ⟨a1, a2⟩ (fun hS0 => ?_)
    generalize wr.drew = wd at *
    refine tG (some 24) 0 ?vra0x1 rfl rfl (Or.inl ⟨by rfl, ?hra0x1⟩) hS0 ?rra0x1
    case hra0x1 => (intro w hw; obtain ⟨m1, m2⟩ := hw; go_simp; try (with_reducible rfl))
    try simp only [Act.put, zA, zB, zC]
    refine tG (some 25) 1 ?vra1x2 rfl rfl (Or.inl ⟨by rfl, ?hra1x2⟩) hS0 ?rra1x2
    case hra1x2 => (intro w hw; obtain ⟨m1, m2⟩ := hw; go_simp; try (with_reducible rfl))
    try simp only [Act.put, zA, zB, zC]
    refine tG (some 26) 2 ?vra2x3 rfl rfl (Or.inl ⟨by rfl, ?hra2x3⟩) hS0 ?rra2x3
    case hra2x3 => (intro w hw; obtain ⟨m1, m2⟩ := hw; go_simp; try (with_reducible rfl))
    try simp only [Act.put, zA, zB, zC]
    refine tG (some 27) 3 ?vra3x4 rfl rfl (Or.inl ⟨by rfl, ?hra3x4⟩) hS0 ?rra3x4
    case hra3x4 => (intro w hw; obtain ⟨m1, m2⟩ := hw; go_simp; try (with_reducible rfl))
    try simp only [Act.put, zA, zB, zC]
    refine tG (some 28) 4 ?vra4x5 rfl rfl (Or.inl ⟨by rfl, ?hra4x5⟩) hS0 ?rra4x5
    case hra4x5 => (intro w hw; obtain ⟨m1, m2⟩ := hw; go_simp; try (with_reducible rfl))
    try simp only [Act.put, zA, zB, zC]
    refine tG (some 29) 5 ?vra5x6 rfl rfl (Or.inl ⟨by rfl, ?hra5x6⟩) hS0 ?rra5x6
    case hra5x6 => (intro w hw; obtain ⟨m1, m2⟩ := hw; go_simp; try (with_reducible rfl))
    try simp only [Act.put, zA, zB, zC]
    refine tG (some 31) 7 ?vra7x7 rfl rfl (Or.inl ⟨by rfl, ?hra7x7⟩) hS0 ?rra7x7
    case hra7x7 => (intro w hw; obtain ⟨m1, m2⟩ := hw; go_simp; try (with_reducible rfl))
    try simp only [Act.put, zA, zB, zC]
    refine tG (some 32) 8 ?vra8x8 rfl rfl (Or.inl ⟨by rfl, ?hra8x8⟩) hS0 ?rra8x8
    case hra8x8 => (intro w hw; obtain ⟨m1, m2⟩ := hw; go_simp; try (with_reducible rfl))
    try simp only [Act.put, zA, zB, zC]
    refine tG (some 33) 9 ?vra9x9 rfl rfl (Or.inl ⟨by rfl, ?hra9x9⟩) hS0 ?rra9x9
    case hra9x9 => (intro w hw; obtain ⟨m1, m2⟩ := hw; go_simp; try (with_reducible rfl))
    try simp only [Act.put, zA, zB, zC]
    refine tG (some 34) 10 ?vra10x10 rfl rfl (Or.inl ⟨by rfl, ?hra10x10⟩) hS0 ?rra10x10
    case hra10x10 => (intro w hw; obtain ⟨m1, m2⟩ := hw; go_simp; try (with_reducible rfl))
    try simp only [Act.put, zA, zB, zC]
    refine tG (some 35) 11 ?vra11x11 rfl rfl (Or.inl ⟨by rfl, ?hra11x11⟩) hS0 ?rra11x11
    case hra11x11 => (intro w hw; obtain ⟨m1, m2⟩ := hw; go_simp; try (with_reducible rfl))
    try simp only [Act.put, zA, zB, zC]
    refine tG (some 36) 12 ?vra12x12 rfl rfl (Or.inl ⟨by rfl, ?hra12x12⟩) hS0 ?rra12x12
    case hra12x12 => (intro w hw; obtain ⟨m1, m2⟩ := hw; go_simp; try (with_reducible rfl))
    try simp only [Act.put, zA, zB, zC]
    refine wpAnyH_ready (rs := [6, 15]) (by kernel_rfl) (by simp) ?_
    refine AllReadyH.cons rfl (fun K hK => ?_) (AllReadyH.cons rfl (fun K hK => ?_) AllReadyH.nil)
    ·
     go_simp
     refine (CRB.out _ kd).mono ?_
     rintro e wq ⟨rfl, rfl⟩
     show K _ _
     refine hK.out _ _ hS0 (fun _ => ?_)
     clear hK K
     refine wpAnyH_ready (rs := [13, 15]) (by kernel_rfl) (by simp) ?_
     refine AllReadyH.cons rfl (fun K hK => ?_) (AllReadyH.cons rfl (fun K hK => ?_) AllReadyH.nil)
     ·
      go_simp
      refine (CRC.out _ kd).mono ?_
      rintro e wq ⟨rfl, rfl⟩
      show K _ _
      refine hK.out _ _ hS0 (fun _ => ?_)
      clear hK K
      refine tG (some 38) 14 ?vra14x15 rfl rfl (Or.inl ⟨by rfl, ?hra14x15⟩) hS0 ?rra14x15
      case hra14x15 => (intro w hw; obtain ⟨m1, m2⟩ := hw; go_simp; try (with_reducible rfl))
      try simp only [Act.put, zA, zB, zC]
      refine rD 15 rfl (fun K hK => ?_)
      go_simp
      have kA := kd.alloc kd.size (.cells #[.int .i64 0, .int .i64 0, .int .i64 0, .slice none 0 0] 52)
      have zA : BoxN (wd.alloc (.cells #[.int .i64 0, .int .i64 0, .int .i64 0, .slice none 0 0] 52)) wr.heap.size 52 #[.int .i64 0, .int .i64 0, .int .i64 0, .slice none 0 0] := by have q := BoxN.new wd 52 #[.int .i64 0, .int .i64 0, .int .i64 0, .slice none 0 0]; rwa [hwd] at q
      have sA := And.intro (((box_below wd (.cells #[.int .i64 0, .int .i64 0, .int .i64 0, .slice none 0 0] 52)).cell (p := ⟨g, o + i * 4 + 1, none⟩) (block_lt hS0.1)).trans hS0.1) (((box_below wd (.cells #[.int .i64 0, .int .i64 0, .int .i64 0, .slice none 0 0] 52)).cell (p := ⟨g, o + i * 4 + 2, none⟩) (block_lt hS0.2)).trans hS0.2)
      show K _ _
      refine hK.out _ _ sA (fun _ => ?_)
      clear hK K
      refine rD 16 rfl (fun K hK => ?_)
      rw [if_pos (by rfl)]
      refine wp_store_row 52 _ _ rfl wr.heap.size #[.int .i64 0, .int .i64 rb, .int .i64 rc, .slice none 0 0] rfl rfl _ _ zA infoTxnA rfl (by simp [Value.oneCell']) ?_
      have sB := And.intro ((cell_setRow_other (wd.alloc (.cells #[.int .i64 0, .int .i64 0, .int .i64 0, .slice none 0 0] 52)) wr.heap.size #[.int .i64 0, .int .i64 rb, .int .i64 rc, .slice none 0 0] ⟨g, o + i * 4 + 1, none⟩ hgd).trans sA.1) ((cell_setRow_other (wd.alloc (.cells #[.int .i64 0, .int .i64 0, .int .i64 0, .slice none 0 0] 52)) wr.heap.size #[.int .i64 0, .int .i64 rb, .int .i64 rc, .slice none 0 0] ⟨g, o + i * 4 + 2, none⟩ hgd).trans sA.2)
      refine hK.out _ _ sB (fun _ => ?_)
      clear hK K
      refine wpAnyH_done (by kernel_rfl) ?_ _
      try simp only [Act.put]
      go_wp2_with fail
      go_meet
      exact ⟨wr.heap.size, rfl, rfl, rfl, rfl, rfl, rfl, rfl, hid (Nat.le_refl _), hid (setRow_heap _ _ _ _ _ _ zA), hid (below_setRow kA (Nat.le_refl _) #[.int .i64 0, .int .i64 rb, .int .i64 rc, .slice none 0 0])⟩
     ·
      go_simp
      have kA := kd.alloc kd.size (.cells #[.int .i64 0, .int .i64 0, .int .i64 0, .slice none 0 0] 52)
      have zA : BoxN (wd.alloc (.cells #[.int .i64 0, .int .i64 0, .int .i64 0, .slice none 0 0] 52)) wr.heap.size 52 #[.int .i64 0, .int .i64 0, .int .i64 0, .slice none 0 0] := by have q := BoxN.new wd 52 #[.int .i64 0, .int .i64 0, .int .i64 0, .slice none 0 0]; rwa [hwd] at q
      have sA := And.intro (((box_below wd (.cells #[.int .i64 0, .int .i64 0, .int .i64 0, .slice none 0 0] 52)).cell (p := ⟨g, o + i * 4 + 1, none⟩) (block_lt hS0.1)).trans hS0.1) (((box_below wd (.cells #[.int .i64 0, .int .i64 0, .int .i64 0, .slice none 0 0] 52)).cell (p := ⟨g, o + i * 4 + 2, none⟩) (block_lt hS0.2)).trans hS0.2)
      show K _ _
      refine hK.out _ _ sA (fun _ => ?_)
      clear hK K
      refine rD 13 rfl (fun K hK => ?_)
      go_simp
      refine (CRC.out _ kA).mono ?_
      rintro e wq ⟨rfl, rfl⟩
      show K _ _
      refine hK.out _ _ sA (fun _ => ?_)
      clear hK K
      refine tG (some 38) 14 ?vra14x20 rfl rfl (Or.inl ⟨by rfl, ?hra14x20⟩) sA ?rra14x20
      case hra14x20 => (intro w hw; obtain ⟨m1, m2⟩ := hw; go_simp; try (with_reducible rfl))
      try simp only [Act.put, zA, zB, zC]
      refine rD 16 rfl (fun K hK => ?_)
      rw [if_pos (by rfl)]
      refine wp_store_row 52 _ _ rfl wr.heap.size #[.int .i64 0, .int .i64 rb, .int .i64 rc, .slice none 0 0] rfl rfl _ _ zA infoTxnA rfl (by simp [Value.oneCell']) ?_
      have sB := And.intro ((cell_setRow_other (wd.alloc (.cells #[.int .i64 0, .int .i64 0, .int .i64 0, .slice none 0 0] 52)) wr.heap.size #[.int .i64 0, .int .i64 rb, .int .i64 rc, .slice none 0 0] ⟨g, o + i * 4 + 1, none⟩ hgd).trans sA.1) ((cell_setRow_other (wd.alloc (.cells #[.int .i64 0, .int .i64 0, .int .i64 0, .slice none 0 0] 52)) wr.heap.size #[.int .i64 0, .int .i64 rb, .int .i64 rc, .slice none 0 0] ⟨g, o + i * 4 + 2, none⟩ hgd).trans sA.2)
      refine hK.out _ _ sB (fun _ => ?_)
      clear hK K
      refine wpAnyH_done (by kernel_rfl) ?_ _
      try simp only [Act.put]
      go_wp2_with fail
      go_meet
      exact ⟨wr.heap.size, rfl, rfl, rfl, rfl, rfl, rfl, rfl, hid (Nat.le_refl _), hid (setRow_heap _ _ _ _ _ _ zA), hid (below_setRow kA (Nat.le_refl _) #[.int .i64 0, .int .i64 rb, .int .i64 rc, .slice none 0 0])⟩
    ·
     go_simp
     have kA := kd.alloc kd.size (.cells #[.int .i64 0, .int .i64 0, .int .i64 0, .slice none 0 0] 52)
     have zA : BoxN (wd.alloc (.cells #[.int .i64 0, .int .i64 0, .int .i64 0, .slice none 0 0] 52)) wr.heap.size 52 #[.int .i64 0, .int .i64 0, .int .i64 0, .slice none 0 0] := by have q := BoxN.new wd 52 #[.int .i64 0, .int .i64 0, .int .i64 0, .slice none 0 0]; rwa [hwd] at q
     have sA := And.intro (((box_below wd (.cells #[.int .i64 0, .int .i64 0, .int .i64 0, .slice none 0 0] 52)).cell (p := ⟨g, o + i * 4 + 1, none⟩) (block_lt hS0.1)).trans hS0.1) (((box_below wd (.cells #[.int .i64 0, .int .i64 0, .int .i64 0, .slice none 0 0] 52)).cell (p := ⟨g, o + i * 4 + 2, none⟩) (block_lt hS0.2)).trans hS0.2)
     show K _ _
     refine hK.out _ _ sA (fun _ => ?_)
     clear hK K
     refine rD 6 rfl (fun K hK => ?_)
     go_simp
     refine (CRB.out _ kA).mono ?_
     rintro e wq ⟨rfl, rfl⟩
     show K _ _
     refine hK.out _ _ sA (fun _ => ?_)
     clear hK K
     refine rD 13 rfl (fun K hK => ?_)
     go_simp
     refine (CRC.out _ kA).mono ?_
     rintro e wq ⟨rfl, rfl⟩
     show K _ _
     refine hK.out _ _ sA (fun _ => ?_)
     clear hK K
     refine tG (some 38) 14 ?vra14x25 rfl rfl (Or.inl ⟨by rfl, ?hra14x25⟩) sA ?rra14x25
     case hra14x25 => (intro w hw; obtain ⟨m1, m2⟩ := hw; go_simp; try (with_reducible rfl))
     try simp only [Act.put, zA, zB, zC]
     refine rD 16 rfl (fun K hK => ?_)
     rw [if_pos (by rfl)]
     refine wp_store_row 52 _ _ rfl wr.heap.size #[.int .i64 0, .int .i64 rb, .int .i64 rc, .slice none 0 0] rfl rfl _ _ zA infoTxnA rfl (by simp [Value.oneCell']) ?_
     have sB := And.intro ((cell_setRow_other (wd.alloc (.cells #[.int .i64 0, .int .i64 0, .int .i64 0, .slice none 0 0] 52)) wr.heap.size #[.int .i64 0, .int .i64 rb, .int .i64 rc, .slice none 0 0] ⟨g, o + i * 4 + 1, none⟩ hgd).trans sA.1) ((cell_setRow_other (wd.alloc (.cells #[.int .i64 0, .int .i64 0, .int .i64 0, .slice none 0 0] 52)) wr.heap.size #[.int .i64 0, .int .i64 rb, .int .i64 rc, .slice none 0 0] ⟨g, o + i * 4 + 2, none⟩ hgd).trans sA.2)
     refine hK.out _ _ sB (fun _ => ?_)
     clear hK K
     refine wpAnyH_done (by kernel_rfl) ?_ _
     try simp only [Act.put]
     go_wp2_with fail
     go_meet
     exact ⟨wr.heap.size, rfl, rfl, rfl, rfl, rfl, rfl, rfl, hid (Nat.le_refl _), hid (setRow_heap _ _ _ _ _ _ zA), hid (below_setRow kA (Nat.le_refl _) #[.int .i64 0, .int .i64 rb, .int .i64 rc, .slice none 0 0])⟩
   case rest =>
    obtain ⟨p9, rfl, rfl, rfl, rfl, rfl, rfl, rfl, HP, HX, HC⟩ := hcut
    have HI9 := hid (HI.out.below HC.out)
    have HK9 := HK.out.below HC.out
    have HV9 := HV.out.below HC.out
    have HB9 := hid (below_then HB.out HC.out)
    have a0 := (HC.out.cell (p := ⟨g, o + i * 4, none⟩) (block_lt a0)).trans a0
    have hpM := HP.out
    have hbM := HB.out.size
    have hsb := HC.out.size
    have CNS := hid (rname22_any w.heap.size _ (firsts (sTo s i)) ss _ HI9.out.se (by omega) (by have := sTo_len (s := s) (i := i); omega))
    clear HI HK HV HB b1 b2 a1 a2 a3 HC
    go_wp2_with fail
    refine CNS.out.mono ?_
    rintro e wy ⟨vs2, rfl, hO2, hby⟩
    rw [show addN (firsts (sTo s i)) ss = firsts (sTo s (i + 1)) from by rw [sTo_succ hlt, firsts_snoc, HSS.out]] at hO2
    have hIy : CroI s w.heap.size wr.heap.size (firsts (sTo s (i + 1))) wy u3 (.slice (some ⟨g, o, none⟩) s.length lc) vs2 c := { HI9.out.below hby with se := hO2 }
    have HXy := HX.out.below hby
    have hc0 := HXy.cell (i := 0) rfl
    have hf0 := HXy.free 0
    have HKy := HK9.below hby
    have HVy := HV9.below hby
    have HBy := below_then HB9.out hby
    obtain ⟨px, hpx⟩ : ∃ px, ((posL (firsts (sTo s i)) ss : Nat) : Int) = px := ⟨_, rfl⟩
    rw [hpx]
    have HPX := hid hpx
    have hgs := grown_set wy ⟨p9, 0, none⟩ (.int .i64 px)
    have hIz := hid (hIy.box hpM HXy (by decide) hgs)
    have HXz : Hid (BoxN (wy.setCell ⟨p9, 0, none⟩ (.int .i64 px)) p9 52 #[.int .i64 px, .int .i64 rb, .int .i64 rc, .slice none 0 0]) := hid (HXy.set 0 (.int .i64 px))
    have HKz := hid (HKy.box HXy (by decide) hgs)
    have HVz := hid (HVy.box HXy (by decide) hgs)
    have HBz := hid (HBy.setCell (p := ⟨p9, 0, none⟩) (by show w.heap.size ≤ p9; omega) (.int .i64 px))
    clear CNS hO2 hby hIy HXy HKy HVy HBy hgs HI9 HK9 HV9 HX HB9 hpx
    go_upto_region 12 with fail
    have hIz1 := hIz
    have hMz : wr.heap.size ≤ (wy.setCell ⟨p9, 0, none⟩ (.int .i64 px)).heap.size := by have := HBz.out.size; have := HXz.out.lt; omega
    generalize wy.setCell ⟨p9, 0, none⟩ (.int .i64 px) = wz at *
    generalize wr.heap.size = M at *
    go_loopw [6, 7, 10] (fun vk vv ik wr => ∃ (k : Nat) (vt : Value), k ≤ (opsAt s i).length ∧ ik = .int .i64 (k : Int) ∧ Hid (BoxN wr p9 52 #[.int .i64 px, .int .i64 rb, .int .i64 rc, vt]) ∧ Hid (Own wr M vt (((opsAt s i).take k).map (cOp (s.map txE)))) ∧ Hid (CroI s w.heap.size M (firsts (sTo s (i + 1))) wr u3 (.slice (some ⟨g, o, none⟩) s.length lc) vs2 c) ∧ Hid (IntO wr w.heap.size vk (firsts (kTo s i k))) ∧ Hid (IntO wr w.heap.size vv (firsts (valP (vTo s i k)))) ∧ Hid (Below w.heap.size w wr)) (fun _ _ ik _ => (opsAt s i).length - (intOf ik).toNat)
    case atStart => exact ⟨0, .slice none 0 0, by omega, rfl, HXz, hid (Own.nil _ _), hIz, HKz, HVz, HBz⟩
    case round =>
     obtain ⟨k, vt, hkl, rfl, HXq, HTq, HIq, HKq, HVq, HBq⟩ := hrel
     clear HXz hIz HKz HVz HBz hIz1 hMz
     obtain ⟨g', o', e', _, _, _, d3⟩ := rows_at HIq.out.l.row hlt
     cases e'
     rw [HOV.out] at d3
     have hln := HLN.out
     by_cases hkt : k < (opsAt s i).length
     ·have hki : (k : Int) < ((opsAt s i).length : Int) := by omega
      obtain ⟨g2, o2, ego, e0, e1, e2⟩ := (HOPS.out _ HBq.out).at hkt
      cases ego
      have hxk := HXK.out k hkt
      have HKS : Hid (kTo s i (k + 1) = kTo s i k ++ [(opsAt s i)[k].key]) := hid (kTo_succ hkt)
      have HVS : Hid (vTo s i (k + 1) = vTo s i k ++ [(opsAt s i)[k].val]) := hid (vTo_succ hkt)
      have HOS2 := hid (opsTake_succ (s.map txE) hkt)
      generalize (opsAt s i)[k] = x at *
      obtain ⟨xw, xk, xv⟩ := x
      simp only at e0 e1 e2 hxk HKS HVS
      obtain ⟨pk, hpk⟩ : ∃ z, ((posL (firsts (kTo s i k)) xk : Nat) : Int) = z := ⟨_, rfl⟩
      rw [hpk] at hxk
      have hbb := box_below wr (.cells #[.bool xw, .int .i64 xk, .int .i64 xv] 54)
      have HO11 := BoxN.new wr 54 #[.bool xw, .int .i64 xk, .int .i64 xv]
      have HX11 := HXq.out.below hbb
      have HT11 := HTq.out.below hbb
      have HI11 := HIq.out.below hbb
      have HK11 := HKq.out.below hbb
      have HV11 := hid (HVq.out.below hbb)
      have HB11 := HBq.out.alloc HBq.out.size (.cells #[.bool xw, .int .i64 xk, .int .i64 xv] 54)
      have hp11 : M ≤ wr.heap.size := by have := HXq.out.lt; omega
      have hpp : p9 < wr.heap.size := HXq.out.lt
      have HTB : Hid (∀ b, vt.ownBlock = some b → b < wr.heap.size) := hid (fun b e => (World.ownsRow.lt HTq.out b e).2)
      go_upto_region 15 with fail
      clear e0 e1 e2 d3 HXq HTq HIq HKq HVq HBq hbb
      generalize wr.alloc (.cells #[.bool xw, .int .i64 xk, .int .i64 xv] 54) = w11 at *
      generalize wr.heap.size = p11 at *
      have CNK := hid (rname22_any w.heap.size _ (firsts (kTo s i k)) xk _ HK11 HB11.size (by have := kTo_len (s := s) (i := i) (k := k) hlt; have := HOS.out; omega))
      have HX11 := hid HX11
      have HT11 := hid HT11
      have HI11 := hid HI11
      have HB11 := hid HB11
      have y1 := HO11.cell (i := 1) rfl
      have HO11 := hid HO11
      clear HK11
      go_wp2_with fail
      refine CNK.out.mono ?_
      rintro e wA ⟨vk2, rfl, hOA, hbA⟩
      rw [hpk]
      have HKA : Hid (IntO wA w.heap.size vk2 (firsts (kTo s i (k + 1)))) := hid (by rw [HKS.out, firsts_snoc]; exact hOA)
      have HOA := HO11.out.below hbA
      have hcA := HOA.cell (i := 1) rfl
      have hfA := HOA.free 1
      have hgs := grown_set wA ⟨p11, 1, none⟩ (.int .i64 pk)
      have HOB : BoxN (wA.setCell ⟨p11, 1, none⟩ (.int .i64 pk)) p11 54 #[.bool xw, .int .i64 pk, .int .i64 xv] := HOA.set 1 (.int .i64 pk)
      have HXB := hid ((HX11.out.below hbA).far (a := ⟨p11, 1, none⟩) (by show p9 ≠ p11; omega) (.int .i64 pk))
      have HTW := hid (Own.keep (HT11.out.below hbA) hgs (no_row HTB.out (fun g e => by cases e; exact Nat.le_refl _)))
      have HIB := hid ((HI11.out.below hbA).box hp11 HOA (by decide) hgs)
      have HKB := hid (HKA.out.box HOA (by decide) hgs)
      have HVB := hid ((HV11.out.below hbA).box HOA (by decide) hgs)
      have HBB := hid ((below_then HB11.out hbA).setCell (p := ⟨p11, 1, none⟩) (by show w.heap.size ≤ p11; omega) (.int .i64 pk))
      clear hOA hbA HOA hgs HX11 HT11 HI11 HV11 HB11 HO11 CNK HKA y1
      go_upto_region 16 with fail
      generalize wA.setCell ⟨p11, 1, none⟩ (.int .i64 pk) = wB at *
      have y2 := HOB.cell (i := 2) rfl
      have HOB := hid HOB
      by_cases hxv : xv = 0
      ·subst hxv
       have HXV : Hid (cOp (s.map txE) ⟨xw, xk, 0⟩ = ⟨xw, pk, 0⟩) := hid (by rw [hxk, if_pos rfl])
       have hq0 : ((0 : Int) != 0) = false := rfl
       have HVB2 : Hid (IntO wB w.heap.size u7 (firsts (valP (vTo s i (k + 1))))) := hid (by rw [HVS.out, val_old]; exact HVB.out)
       clear hxk
       go_upto_region 19 with fail
       have HO9 := HOB
       have HX9 := HXB
       have HT9 := HTW
       have HI9 := HIB
       have HK9 := HKB
       have HV9 := HVB2
       have HB9 := HBB
       clear y2 HOB HXB HTW HIB HKB HVB HVB2 HBB
       have HOC := HO9.out
       have HXC := HX9.out
       have HTC := HT9.out
       have HIC := HI9.out
       have HKC := HK9.out
       have HVC := HV9.out
       have HBC := HB9.out
       have hct := HXC.cell (i := 3) rfl
       have q0 := HOC.cell (i := 0) rfl
       have q1 := HOC.cell (i := 1) rfl
       have q2 := HOC.cell (i := 2) rfl
       have hlen : ((((opsAt s i).take k).map (cOp (s.map txE)))).length = k := by rw [List.length_map, List.length_take]; omega
       have HVT : vt.ownBlock = none ∨ vt.ownBlock ≠ some p9 := owns_no_box HTC HXC (by decide)
       have hsM : M ≤ wB.heap.size := by have := HXC.lt; omega
       have hbwo := HBC.size
       obtain ⟨ta, tn, tc, htv⟩ : ∃ a n c, vt = .slice a n c := by
        obtain ⟨_, a, c, e, _⟩ := HTC.ops
        exact ⟨a, _, c, e⟩
       subst htv
       have hown : wB.ownsRow M 54 3 (.slice ta tn tc) k (opV (((opsAt s i).take k).map (cOp (s.map txE)))) := by
        have q := HTC
        unfold Own at q
        rwa [hlen] at q
       have hbA := box_below wB (.cells #[.bool xw, .int .i64 pk, .int .i64 0] 54)
       have HXA := hid (HXC.below hbA)
       have HTA := hid (HTC.below hbA)
       have HIA := hid (HIC.below hbA)
       have HKA := hid (HKC.below hbA)
       have HVA := hid (HVC.below hbA)
       have HBA := hid HBC
       have HVT := hid HVT
       clear HOC HXC HTC HIC HKC HVC HBC hbA HO9 HX9 HT9 HI9 HK9 HV9 HB9
       go_wp2_with (first | (at_builtin; refine wpList_append_own _ rfl _ _ 50 rfl M 54 i1 (.agg #[.bool false, .int .i64 0, .int .i64 0]) 3 24 Tryz.underlying50 hj hy0 hy1 hy2 rfl (by decide) _ _ _ rfl (hown.alloc _) ⟨_, 0, none⟩ 1 1 [.bool xw, .int .i64 pk, .int .i64 0] rfl rfl ?c1 ?c2 ?c3 ?c4 ?c5 ?_) | go_in)
       try case c1 => exact lit_new _ _ _ _ _
       try case c2 => first | exact ⟨rfl, rfl, rfl⟩ | (intro u hu; simp at hu; rcases hu with rfl | rfl | rfl <;> rfl)
       case c3 => unfold maxLen; omega
       case c4 => omega
       case c5 => first | omega | (simp; omega)
       intro v6 w6 hown6 hg6 _
       have hOB := below_app0 HBA.out (Nat.le_refl _) hown hbM hg6
       have hT6 : Own w6 M v6 (((opsAt s i).take (k + 1)).map (cOp (s.map txE))) := by
        rw [HOS2.out, HXV.out]
        unfold Own
        rw [opV_app, List.length_append, hlen, List.map_take]
        exact hown6
       have hXx := HXA.out.kept hg6 (fun e => by
        rcases HVT.out with q | q
        ·rw [q] at e; cases e
        ·exact q e.symm)
       have hIx := HIA.out.ops HTA.out hg6
       have hKx : IntO w6 w.heap.size _ _ := World.ownsRow.kept HKA.out hg6 (owns_apart HKA.out HTA.out (by decide))
       have hVx : IntO w6 w.heap.size _ _ := World.ownsRow.kept HVA.out hg6 (owns_apart HVA.out HTA.out (by decide))
       obtain ⟨ga, gn, gc, hgv⟩ : ∃ a n c, v6 = .slice a n c := by
        obtain ⟨_, a, c, e, _⟩ := hT6.ops
        exact ⟨a, _, c, e⟩
       subst hgv
       have hcx := hXx.cell (i := 3) rfl
       have hfx := hXx.free 3
       have hgs := grown_set w6 ⟨p9, 3, none⟩ (.slice ga gn gc)
       have HXF : Hid (BoxN (w6.setCell ⟨p9, 3, none⟩ (.slice ga gn gc)) p9 52 #[.int .i64 px, .int .i64 rb, .int .i64 rc, .slice ga gn gc]) := hid (hXx.set 3 (.slice ga gn gc))
       have HTF := hid (Own.keep hT6 hgs (owns_no_box hT6 hXx (by decide)))
       have HIF := hid (hIx.box hpM hXx (by decide) hgs)
       have HKF := hid (hKx.box hXx (by decide) hgs)
       have HVF := hid (hVx.box hXx (by decide) hgs)
       have HBF := hid (hOB.setCell (p := ⟨p9, 3, none⟩) (by show w.heap.size ≤ p9; omega) (.slice ga gn gc))
       clear hown6 hg6 hT6 hXx hIx hKx hVx hgs hown HXA HTA HIA HKA HVA HBA hct q0 q1 q2 hOB
       go_wp2_with fail
       go_roundw
       case rel => exact ⟨k + 1, _, by omega, by go_num, HXF, HTF, HIF, HKF, HVF, HBF⟩
       case measure => simp [intOf]; omega
      ·have hq0 : (xv != 0) = true := by simpa using hxv
       have CNV := hid (rname22_any w.heap.size _ (firsts (valP (vTo s i k))) xv _ HVB.out HBB.out.size (by have := vTo_len (s := s) (i := i) (k := k) hlt; have := HOS.out; omega))
       have hpv1 : posL (firsts (valP (vTo s i k))) xv ≤ 1024 := by
        have h1 := vTo_len (s := s) (i := i) (k := k) hlt
        have h2 := HOS.out
        have h3 : posL (firsts (valP (vTo s i k))) xv ≤ (firsts (valP (vTo s i k))).length := List.findIdx_le_length
        omega
       rw [if_neg hxv] at hxk
       have HVN : Hid (addN (firsts (valP (vTo s i k))) xv = firsts (valP (vTo s i (k + 1)))) := hid (by rw [HVS.out, val_new _ _ hxv])
       obtain ⟨pv, hpv⟩ : ∃ z, posL (firsts (valP (vTo s i k))) xv = z := ⟨_, rfl⟩
       rw [hpv] at hxk CNV hpv1
       have HXV : Hid (cOp (s.map txE) ⟨xw, xk, xv⟩ = ⟨xw, pk, ((pv : Nat) : Int) + 1⟩) := hid hxk
       clear hxk hpv
       go_wp2_with fail
       refine CNV.out.mono ?_
       rintro e wC ⟨vv2, rfl, hOC, hbC⟩
       have HVC2 : IntO wC w.heap.size vv2 (firsts (valP (vTo s i (k + 1)))) := by rw [← HVN.out]; exact hOC
       have HOC := HOB.out.below hbC
       have hcC := HOC.cell (i := 2) rfl
       have hfC := HOC.free 2
       have hgs := grown_set wC ⟨p11, 2, none⟩ (.int .i64 (pv : Int))
       have HOD : BoxN (wC.setCell ⟨p11, 2, none⟩ (.int .i64 (pv : Int))) p11 54 #[.bool xw, .int .i64 pk, .int .i64 (pv : Int)] := HOC.set 2 (.int .i64 (pv : Int))
       have HXD := hid ((HXB.out.below hbC).far (a := ⟨p11, 2, none⟩) (by show p9 ≠ p11; omega) (.int .i64 (pv : Int)))
       have HTD := hid (Own.keep (HTW.out.below hbC) hgs (no_row HTB.out (fun g e => by cases e; exact Nat.le_refl _)))
       have HID := hid ((HIB.out.below hbC).box hp11 HOC (by decide) hgs)
       have HKD := hid ((HKB.out.below hbC).box HOC (by decide) hgs)
       have HVD := hid (HVC2.box HOC (by decide) hgs)
       have HBD := hid ((below_then HBB.out hbC).setCell (p := ⟨p11, 2, none⟩) (by show w.heap.size ≤ p11; omega) (.int .i64 (pv : Int)))
       clear hOC hbC HOC hgs y2 HOB HXB HTW HIB HKB HVB HBB CNV HVC2
       go_upto_region 18 with fail
       generalize wC.setCell ⟨p11, 2, none⟩ (.int .i64 (pv : Int)) = wD at *
       have hcD := HOD.cell (i := 2) rfl
       have hfD := HOD.free 2
       have hgs := grown_set wD ⟨p11, 2, none⟩ (.int .i64 ((pv : Int) + 1))
       have HO9 : Hid (BoxN (wD.setCell ⟨p11, 2, none⟩ (.int .i64 ((pv : Int) + 1))) p11 54 #[.bool xw, .int .i64 pk, .int .i64 ((pv : Int) + 1)]) := hid (HOD.set 2 (.int .i64 ((pv : Int) + 1)))
       have HX9 := hid (HXD.out.far (a := ⟨p11, 2, none⟩) (by show p9 ≠ p11; omega) (.int .i64 ((pv : Int) + 1)))
       have HT9 := hid (Own.keep HTD.out hgs (no_row HTB.out (fun g e => by cases e; exact Nat.le_refl _)))
       have HI9 := hid (HID.out.box hp11 HOD (by decide) hgs)
       have HK9 := hid (HKD.out.box HOD (by decide) hgs)
       have HV9 := hid (HVD.out.box HOD (by decide) hgs)
       have HB9 := hid (HBD.out.setCell (p := ⟨p11, 2, none⟩) (by show w.heap.size ≤ p11; omega) (.int .i64 ((pv : Int) + 1)))
       have hwrp : IntKind.i64.wrap ((pv : Int) + 1) = (pv : Int) + 1 := by rw [IntKind.wrap_i64]; omega
       clear hgs HOD HXD HTD HID HKD HVD HBD
       go_upto_region 19 with fail
       clear hcD hfD
       generalize wD.setCell ⟨p11, 2, none⟩ (.int .i64 ((pv : Int) + 1)) = wE at *
       have HOC := HO9.out
       have HXC := HX9.out
       have HTC := HT9.out
       have HIC := HI9.out
       have HKC := HK9.out
       have HVC := HV9.out
       have HBC := HB9.out
       have hct := HXC.cell (i := 3) rfl
       have q0 := HOC.cell (i := 0) rfl
       have q1 := HOC.cell (i := 1) rfl
       have q2 := HOC.cell (i := 2) rfl
       have hlen : ((((opsAt s i).take k).map (cOp (s.map txE)))).length = k := by rw [List.length_map, List.length_take]; omega
       have HVT : vt.ownBlock = none ∨ vt.ownBlock ≠ some p9 := owns_no_box HTC HXC (by decide)
       have hsM : M ≤ wE.heap.size := by have := HXC.lt; omega
       have hbwo := HBC.size
       obtain ⟨ta, tn, tc, htv⟩ : ∃ a n c, vt = .slice a n c := by
        obtain ⟨_, a, c, e, _⟩ := HTC.ops
        exact ⟨a, _, c, e⟩
       subst htv
       have hown : wE.ownsRow M 54 3 (.slice ta tn tc) k (opV (((opsAt s i).take k).map (cOp (s.map txE)))) := by
        have q := HTC
        unfold Own at q
        rwa [hlen] at q
       have hbA := box_below wE (.cells #[.bool xw, .int .i64 pk, .int .i64 ((pv : Int) + 1)] 54)
       have HXA := hid (HXC.below hbA)
       have HTA := hid (HTC.below hbA)
       have HIA := hid (HIC.below hbA)
       have HKA := hid (HKC.below hbA)
       have HVA := hid (HVC.below hbA)
       have HBA := hid HBC
       have HVT := hid HVT
       clear HOC HXC HTC HIC HKC HVC HBC hbA HO9 HX9 HT9 HI9 HK9 HV9 HB9
       go_wp2_with (first | (at_builtin; refine wpList_append_own _ rfl _ _ 50 rfl M 54 i1 (.agg #[.bool false, .int .i64 0, .int .i64 0]) 3 24 Tryz.underlying50 hj hy0 hy1 hy2 rfl (by decide) _ _ _ rfl (hown.alloc _) ⟨_, 0, none⟩ 1 1 [.bool xw, .int .i64 pk, .int .i64 ((pv : Int) + 1)] rfl rfl ?c1 ?c2 ?c3 ?c4 ?c5 ?_) | go_in)
       try case c1 => exact lit_new _ _ _ _ _
       try case c2 => first | exact ⟨rfl, rfl, rfl⟩ | (intro u hu; simp at hu; rcases hu with rfl | rfl | rfl <;> rfl)
       case c3 => unfold maxLen; omega
       case c4 => omega
       case c5 => first | omega | (simp; omega)
       intro v6 w6 hown6 hg6 _
       have hOB := below_app0 HBA.out (Nat.le_refl _) hown hbM hg6
       have hT6 : Own w6 M v6 (((opsAt s i).take (k + 1)).map (cOp (s.map txE))) := by
        rw [HOS2.out, HXV.out]
        unfold Own
        rw [opV_app, List.length_append, hlen, List.map_take]
        exact hown6
       have hXx := HXA.out.kept hg6 (fun e => by
        rcases HVT.out with q | q
        ·rw [q] at e; cases e
        ·exact q e.symm)
       have hIx := HIA.out.ops HTA.out hg6
       have hKx : IntO w6 w.heap.size _ _ := World.ownsRow.kept HKA.out hg6 (owns_apart HKA.out HTA.out (by decide))
       have hVx : IntO w6 w.heap.size _ _ := World.ownsRow.kept HVA.out hg6 (owns_apart HVA.out HTA.out (by decide))
       obtain ⟨ga, gn, gc, hgv⟩ : ∃ a n c, v6 = .slice a n c := by
        obtain ⟨_, a, c, e, _⟩ := hT6.ops
        exact ⟨a, _, c, e⟩
       subst hgv
       have hcx := hXx.cell (i := 3) rfl
       have hfx := hXx.free 3
       have hgs := grown_set w6 ⟨p9, 3, none⟩ (.slice ga gn gc)
       have HXF : Hid (BoxN (w6.setCell ⟨p9, 3, none⟩ (.slice ga gn gc)) p9 52 #[.int .i64 px, .int .i64 rb, .int .i64 rc, .slice ga gn gc]) := hid (hXx.set 3 (.slice ga gn gc))
       have HTF := hid (Own.keep hT6 hgs (owns_no_box hT6 hXx (by decide)))
       have HIF := hid (hIx.box hpM hXx (by decide) hgs)
       have HKF := hid (hKx.box hXx (by decide) hgs)
       have HVF := hid (hVx.box hXx (by decide) hgs)
       have HBF := hid (hOB.setCell (p := ⟨p9, 3, none⟩) (by show w.heap.size ≤ p9; omega) (.slice ga gn gc))
       clear hown6 hg6 hT6 hXx hIx hKx hVx hgs hown HXA HTA HIA HKA HVA HBA hct q0 q1 q2 hOB
       go_wp2_with fail
       go_roundw
       case rel => exact ⟨k + 1, _, by omega, by go_num, HXF, HTF, HIF, HKF, HVF, HBF⟩
       case measure => simp [intOf]; omega
     ·obtain rfl : k = (opsAt s i).length := by omega
      have hki : ¬ ((opsAt s i).length : Int) < ((opsAt s i).length : Int) := by omega
      have HTq2 : Own wr M vt ((opsAt s i).map (cOp (s.map txE))) := by have q := HTq.out; rwa [List.take_length] at q
      have t0 := HXq.out.cell (i := 0) rfl
      have t1 := HXq.out.cell (i := 1) rfl
      have t2 := HXq.out.cell (i := 2) rfl
      have t3 := HXq.out.cell (i := 3) rfl
      obtain ⟨ta, tn, tc, htv⟩ : ∃ a n c, vt = .slice a n c := by
       obtain ⟨_, a, c, e, _⟩ := HTq2.ops
       exact ⟨a, _, c, e⟩
      subst htv
      have hown := HIq.out.o
      have hIA := HIq.out.below (box_below wr (.cells #[.int .i64 px, .int .i64 rb, .int .i64 rc, .slice ta tn tc] 52))
      have HTA := hid (HTq2.below (box_below wr (.cells #[.int .i64 px, .int .i64 rb, .int .i64 rc, .slice ta tn tc] 52)))
      have HKA := hid (HKq.out.below (box_below wr (.cells #[.int .i64 px, .int .i64 rb, .int .i64 rc, .slice ta tn tc] 52)))
      have HVA := hid (HVq.out.below (box_below wr (.cells #[.int .i64 px, .int .i64 rb, .int .i64 rc, .slice ta tn tc] 52)))
      have HIA := hid hIA
      have HBA := hid HBq.out
      have hbwo := HBq.out.size
      clear HTq HTq2 HIq HKq HVq HXq HBq hIA
      go_wp2_with (first | (at_builtin; refine wpList_append_lies _ rfl _ _ 22 rfl w.heap.size 52 i0 (.agg #[.int .i64 0, .int .i64 0, .int .i64 0, .slice none 0 0]) 4 48 Tryz.underlying22 hi hz0 hz1 hz2 rfl (by decide) _ _ _ rfl (hown.alloc _) ⟨_, 0, none⟩ 1 1 [.int .i64 px, .int .i64 rb, .int .i64 rc, .slice ta tn tc] rfl rfl ?c1 ?c2 (by decide) ?c3 ?c4 ?c5 _ rfl ?_) | go_in)
      try case c1 => exact row4_newR _ _ _ _ _ _
      try case c2 => first | exact ⟨rfl, rfl, rfl, rfl⟩ | (intro u hu; simp at hu; rcases hu with rfl | rfl | rfl | rfl <;> rfl)
      case c3 => unfold maxLen; omega
      case c4 => omega
      case c5 => first | omega | (simp; omega)
      intro g6 c6 w6 hown6 hg6 hl6 hlt6
      have hO6 : OwnT w6 w.heap.size (.slice (some ⟨g6, 0, none⟩) (c.length + 1) c6) (c ++ [⟨px, rb, rc, .slice ta tn tc, (opsAt s i).map (cOp (s.map txE))⟩]) := by
       unfold OwnT
       rw [txV_app, List.length_append]
       exact hown6
      have HB6 := hid (below_app0 HBA.out (Nat.le_refl _) hown (Nat.le_refl _) hg6)
      have HI6 := hid (HIA.out.add hbM HTA.out hO6 hg6 (by rw [World.size_alloc]; exact hl6))
      have HK6 : Hid (IntO w6 w.heap.size _ _) := hid (World.ownsRow.kept HKA.out hg6 (owns_apart HKA.out HIA.out.o (by decide)))
      have HV6 : Hid (IntO w6 w.heap.size _ _) := hid (World.ownsRow.kept HVA.out hg6 (owns_apart HVA.out HIA.out.o (by decide)))
      rw [kTo_done hlt] at HK6
      rw [vTo_done hlt] at HV6
      have HC6 := hid (HCN.out (.slice ta tn tc) px rb rc (by rw [← HPX.out, HSN.out, HSS.out]) HRB.out.1.symm HRB.out.2.symm)
      clear hown6 hg6 hl6 hO6 hown HIA HTA HKA HVA HBA t0 t1 t2 t3 hlt6
      go_wp2_with fail
      go_roundw
      case rel => exact ⟨i + 1, _, by omega, by go_num, HC6, HI6, HK6, HV6, HB6⟩
      case measure => simp [intOf]; omega
  ·obtain rfl : i = s.length := by omega
   have hii : ¬ (s.length : Int) < (s.length : Int) := by omega
   have HTX := hid HI.out.txns
   have HCA := hid (can_all HCM.out)
   clear HI HK HV HCM
   go_wp2_with fail
   go_ret
   exact ⟨⟨_, rfl, _, HTX.out, _, HS.out, HCA.out⟩, HB.out⟩
end

section
open Go.RowKit
def Ap (v u : Value) : Prop := ∀ g, v.ownBlock = some g → u.ownBlock ≠ some g
theorem Ap.symm {v u : Value} (h : Ap v u) : Ap u v := fun g e q => h g q e
theorem Ap.no {v u : Value} (h : Ap v u) : u.ownBlock = none ∨ u.ownBlock ≠ v.ownBlock := by
 cases e : u.ownBlock with
 | none => exact .inl rfl
 | some g => exact .inr fun q => h g q.symm e
theorem Ap.new {w : World} {b n g cap : Nat} {v u : Value} {e : TypeId} {s m : Nat} {xs : List Value} (h : Ap v u) (hu : w.ownsRow b e s u m xs) (hl : v.ownBlock = some g ∨ g = w.heap.size) : Ap (.slice (some ⟨g, 0, none⟩) n cap) u := fun g' e1 e2 => by
 simp [Value.ownBlock] at e1
 subst e1
 rcases hl with q | q
 ·exact h _ q e2
 ·have := (World.ownsRow.lt hu _ e2).2; omega
structure R4 (w : World) (b : Nat) (v0 v1 v2 v3 : Value) (L0 L1 L2 L3 : List Int) : Prop where
 o0 : IntO w b v0 L0
 o1 : IntO w b v1 L1
 o2 : IntO w b v2 L2
 o3 : IntO w b v3 L3
 a01 : Ap v0 v1
 a02 : Ap v0 v2
 a03 : Ap v0 v3
 a12 : Ap v1 v2
 a13 : Ap v1 v3
 a23 : Ap v2 v3
section
variable {w w' : World} {b : Nat} {v0 v1 v2 v3 : Value} {L0 L1 L2 L3 : List Int}
theorem R4.below (h : R4 w b v0 v1 v2 v3 L0 L1 L2 L3) (hb : Below w.heap.size w w') : R4 w' b v0 v1 v2 v3 L0 L1 L2 L3 := ⟨h.o0.below hb, h.o1.below hb, h.o2.below hb, h.o3.below hb, h.a01, h.a02, h.a03, h.a12, h.a13, h.a23⟩
theorem R4.box {p : Nat} {t : TypeId} {cs : Array Value} (h : R4 w b v0 v1 v2 v3 L0 L1 L2 L3) (k : BoxN w p t cs) (hne : 3 ≠ t) (hg : w.grownBy w' (some p)) : R4 w' b v0 v1 v2 v3 L0 L1 L2 L3 := ⟨h.o0.box k hne hg, h.o1.box k hne hg, h.o2.box k hne hg, h.o3.box k hne hg, h.a01, h.a02, h.a03, h.a12, h.a13, h.a23⟩
theorem IntO.far {v u : Value} {L : List Int} (h : IntO w b u L) (hg : w.grownBy w' v.ownBlock) (ha : Ap v u) : IntO w' b u L := World.ownsRow.kept h hg ha.no
theorem R4.app0 {g n cap : Nat} {M : List Int} (h : R4 w b v0 v1 v2 v3 L0 L1 L2 L3) (ho : IntO w' b (.slice (some ⟨g, 0, none⟩) n cap) M) (hg : w.grownBy w' v0.ownBlock) (hl : v0.ownBlock = some g ∨ g = w.heap.size) : R4 w' b (.slice (some ⟨g, 0, none⟩) n cap) v1 v2 v3 M L1 L2 L3 :=
 ⟨ho, h.o1.far hg h.a01, h.o2.far hg h.a02, h.o3.far hg h.a03, h.a01.new h.o1 hl, h.a02.new h.o2 hl, h.a03.new h.o3 hl, h.a12, h.a13, h.a23⟩
theorem R4.app1 {g n cap : Nat} {M : List Int} (h : R4 w b v0 v1 v2 v3 L0 L1 L2 L3) (ho : IntO w' b (.slice (some ⟨g, 0, none⟩) n cap) M) (hg : w.grownBy w' v1.ownBlock) (hl : v1.ownBlock = some g ∨ g = w.heap.size) : R4 w' b v0 (.slice (some ⟨g, 0, none⟩) n cap) v2 v3 L0 M L2 L3 :=
 ⟨h.o0.far hg h.a01.symm, ho, h.o2.far hg h.a12, h.o3.far hg h.a13, (h.a01.symm.new h.o0 hl).symm, h.a02, h.a03, h.a12.new h.o2 hl, h.a13.new h.o3 hl, h.a23⟩
theorem R4.app2 {g n cap : Nat} {M : List Int} (h : R4 w b v0 v1 v2 v3 L0 L1 L2 L3) (ho : IntO w' b (.slice (some ⟨g, 0, none⟩) n cap) M) (hg : w.grownBy w' v2.ownBlock) (hl : v2.ownBlock = some g ∨ g = w.heap.size) : R4 w' b v0 v1 (.slice (some ⟨g, 0, none⟩) n cap) v3 L0 L1 M L3 :=
 ⟨h.o0.far hg h.a02.symm, h.o1.far hg h.a12.symm, ho, h.o3.far hg h.a23, h.a01, (h.a02.symm.new h.o0 hl).symm, h.a03, (h.a12.symm.new h.o1 hl).symm, h.a13, h.a23.new h.o3 hl⟩
theorem R4.app3 {g n cap : Nat} {M : List Int} (h : R4 w b v0 v1 v2 v3 L0 L1 L2 L3) (ho : IntO w' b (.slice (some ⟨g, 0, none⟩) n cap) M) (hg : w.grownBy w' v3.ownBlock) (hl : v3.ownBlock = some g ∨ g = w.heap.size) : R4 w' b v0 v1 v2 (.slice (some ⟨g, 0, none⟩) n cap) L0 L1 L2 M :=
 ⟨h.o0.far hg h.a03.symm, h.o1.far hg h.a13.symm, h.o2.far hg h.a23.symm, ho, h.a01, h.a02, (h.a03.symm.new h.o0 hl).symm, h.a12, (h.a13.symm.new h.o1 hl).symm, (h.a23.symm.new h.o2 hl).symm⟩
theorem R4.nil (w : World) (b : Nat) : R4 w b (.slice none 0 0) (.slice none 0 0) (.slice none 0 0) (.slice none 0 0) [] [] [] [] :=
 ⟨IntO.nil _ _, IntO.nil _ _, IntO.nil _ _, IntO.nil _ _, fun _ e => (by cases e), fun _ e => (by cases e), fun _ e => (by cases e), fun _ e => (by cases e), fun _ e => (by cases e), fun _ e => (by cases e)⟩
end
theorem kTo_lenR {s : List TxnV} {i k : Nat} (hi : i < s.length) (hk : k ≤ (opsAt s i).length) : (kTo s i k).length ≤ opsN s ∧ (vTo s i k).length ≤ opsN s := by
 have e : ∀ f : OpV → Int, ((s.map txE).take i |>.flatMap fun e => e.2.2.2.map f).length + ((opsAt s i).take k).length ≤ opsN s := fun f => by
  have h1 : ((s.map txE).take i |>.flatMap fun e => e.2.2.2.map f).length = opsN (s.take i) := by
   unfold opsN
   rw [← List.map_take, List.flatMap_map, List.length_flatMap]
   congr 1
   exact List.map_congr_left fun t _ => by simp [txE]
  rw [h1, List.length_take, Nat.min_eq_left hk]
  have h2 := opsN_take s i hi
  have h3 := opsN_le s (i + 1)
  rw [opsAt_eq hi] at hk
  omega
 refine ⟨?_, ?_⟩
 ·unfold kTo keyE; rw [List.length_append, List.length_map]; exact e (·.key)
 ·unfold vTo valA; rw [List.length_append, List.length_map]; exact e (·.val)
theorem kTo_all (s : List TxnV) : kTo s s.length 0 = keyE (s.map txE) ∧ vTo s s.length 0 = valA (s.map txE) ∧ sTo s s.length = sesE (s.map txE) := by
 refine ⟨?_, ?_, ?_⟩
 ·unfold kTo; rw [List.take_of_length_le (by simp)]; simp
 ·unfold vTo; rw [List.take_of_length_le (by simp)]; simp
 ·unfold sTo; rw [List.take_of_length_le (by unfold sesE; simp)]
theorem lit_twoR (w : World) (x y : Value) (t : TypeId) : ∀ j u, [x, y][j]? = some u → (w.alloc (.cells #[x, y] t)).cell? ((⟨w.heap.size, 0, none⟩ : Addr).add j) = some u := fun j u hu => by
 exact World.news_of_block (World.alloc_heap_new w _) j u hu
end

section
open Go.RowKit
theorem grown_setRow (w : World) (g : Nat) (cs : Array Value) : w.grownBy (w.setRow g cs) (some g) := ⟨rfl, rfl, rfl, by simp [World.setRow], fun k _ hk => setRow_other w g k cs (fun e => hk (by rw [e]))⟩
theorem wpList_store_rowT {w : World} {ops : Array Oper} {rest : List Oper} {o : Oper} {a : Act} {Q : Exit → Act → World → Prop} {g : Nat} (ty : TypeId) {t : TypeId} {old cells : Array Value} (hg : w.heap[g]? = some (.cells old t (0, 0))) (hgd : o.guard = none) (x y : Operand) (ho : o.op = .store ty x y)
  (hx : a.eval x = .pointer (some ⟨g, 0, none⟩)) (hy : a.eval y = .agg cells) (hi : (Tryz.prog.info? ty).map (·.size) = some cells.size) (hold : old.size = cells.size) (h1 : cells.all (·.oneCell') = true)
  (hn : wpList Tryz.prog ops Q rest (a.put o.dst undef) (w.setRow g cells)) : wpList Tryz.prog ops Q (o :: rest) a w :=
 wpList_plain hgd fun _ hK => wp_store_row ty x y ho g cells hx hy t old hg hi hold h1 (hK _ _ hn)
theorem rof21_any (va : Value) (h : List TxnV) (w : World) (hT : Txns w va h) (h64 : h.length ≤ 64) (hop : opsN h ≤ 1024) :
  Calls Tryz.prog 33 #[va] w fun e w' => (∃ vk vs vv vt, e = .returned (.agg #[vk, vs, vv, vt]) ∧ R4 w' w.heap.size vk vs vv vt (keyE (h.map txE)) (sesE (h.map txE)) (valA (h.map txE)) (stL h)) ∧ Below w.heap.size w w' := by
 obtain ⟨i0, hi, hz0, hz1, hz2⟩ := info_parts infoInt
 have HT := hid (fun wx (hx : Below w.heap.size w wx) => hT.below hx)
 have HLN : Hid (∀ k j, k < h.length → j ≤ (opsAt h k).length → (kTo h k j).length ≤ 1024 ∧ (vTo h k j).length ≤ 1024) := hid (fun k j hk hj => by have := kTo_lenR (s := h) hk hj; omega)
 have HSN : Hid (∀ k, (sTo h k).length ≤ 64) := hid (fun k => by unfold sTo sesE; simp; omega)
 have HTN : Hid (∀ k, (stL (h.take k)).length ≤ 128) := hid (fun k => by rw [stL_len, List.length_take]; omega)
 have HON : Hid (∀ k, k < h.length → (opsAt h k).length ≤ 1024) := hid (fun k hk => by have h1 := opsN_take h k hk; have h2 := opsN_le h (k + 1); rw [opsAt_eq hk]; omega)
 obtain ⟨ao, cap, rfl, hal⟩ := hT.form
 clear hT hop
 have hx0 := BoxN.new w 67 #[.slice none 0 0, .slice none 0 0, .slice none 0 0, .slice none 0 0]
 have hb0 := box_below w (.cells #[.slice none 0 0, .slice none 0 0, .slice none 0 0, .slice none 0 0] 67)
 have hx1 := BoxN.new (w.alloc (.cells #[.slice none 0 0, .slice none 0 0, .slice none 0 0, .slice none 0 0] 67)) 67 #[.slice none 0 0, .slice none 0 0, .slice none 0 0, .slice none 0 0]
 have hb1 := hb0.alloc hb0.size (.cells #[.slice none 0 0, .slice none 0 0, .slice none 0 0, .slice none 0 0] 67)
 have hx2 := hx0.below (box_below _ (.cells #[.slice none 0 0, .slice none 0 0, .slice none 0 0, .slice none 0 0] 67))
 have hs1 : (w.alloc (.cells #[.slice none 0 0, .slice none 0 0, .slice none 0 0, .slice none 0 0] 67)).heap.size = w.heap.size + 1 := by simp
 rw [hs1] at hx1
 clear hx0 hb0 hs1
 go_enter Tryz.func33, Tryz.ntmps33
 go_upto_region 2 with fail
 generalize (w.alloc (.cells #[.slice none 0 0, .slice none 0 0, .slice none 0 0, .slice none 0 0] 67)).alloc (.cells #[.slice none 0 0, .slice none 0 0, .slice none 0 0, .slice none 0 0] 67) = w1 at *
 obtain ⟨p2, hp2⟩ : ∃ p, w.heap.size = p := ⟨_, rfl⟩
 obtain ⟨p3, hp3⟩ : ∃ p, w.heap.size + 1 = p := ⟨_, rfl⟩
 have hpw2 : w.heap.size ≤ p2 := by omega
 have hpw3 : w.heap.size ≤ p3 := by omega
 have hp23 : p2 < p3 := by omega
 rw [hp3] at hx1 ⊢
 have HX1 := hid hx1
 have HX2 : Hid (BoxN w1 p2 67 #[.slice none 0 0, .slice none 0 0, .slice none 0 0, .slice none 0 0]) := hid (by rw [← hp2]; exact hx2)
 have HB1 := hid hb1
 have HP2 := hid hp2
 clear hx1 hx2 hb1 hp2 hp3
 go_wp2_with fail
 go_loopw [10] (fun i wr => ∃ (k : Nat) (vk vs vv vt : Value), k ≤ h.length ∧ i = .int .i64 (k : Int) ∧ Hid (BoxN wr p3 67 #[vk, vs, vv, vt]) ∧ Hid (R4 wr w.heap.size vk vs vv vt (kTo h k 0) (sTo h k) (vTo h k 0) (stL (h.take k))) ∧ Hid (BoxN wr p2 67 #[.slice none 0 0, .slice none 0 0, .slice none 0 0, .slice none 0 0]) ∧ Hid (Below w.heap.size w wr)) (fun i _ => h.length - (intOf i).toNat)
 case atStart => exact ⟨0, _, _, _, _, by omega, rfl, HX1, hid (R4.nil _ _), HX2, HB1⟩
 case round =>
  obtain ⟨k, vk, vs, vv, vt, hk, rfl, HBX, HR, HP, HB⟩ := hrel
  clear HX1 HX2 HB1
  by_cases hlt : k < h.length
  ·have hki : (k : Int) < (h.length : Int) := by omega
   obtain ⟨g, o, hg, a0, a1, a2, a3⟩ := (HT.out _ HB.out).at hlt
   cases hg
   have HOPS := hid (fun wx (hx : Below w.heap.size w wx) => (HT.out wx hx).ops hlt)
   obtain ⟨oo, oc, hov, _⟩ := (HOPS.out _ HB.out).form
   have hopA : opsAt h k = h[k].l := opsAt_eq hlt
   rw [hov] at a3 HOPS
   rw [← hopA] at a3 HOPS
   have HSS : Hid (sTo h (k + 1) = sTo h k ++ [h[k].s]) := hid (sTo_succ hlt)
   have HST : Hid (stL (h.take (k + 1)) = stL (h.take k) ++ [h[k].b, h[k].c]) := hid (stL_succ h k hlt)
   have hsn := HSN.out k
   have hon := HON.out k hlt
   have htn := HTN.out k
   clear hov hopA
   generalize h[k].s = ts at *
   generalize h[k].b = tb at *
   generalize h[k].c = tc at *
   have hbb := box_below wr (.cells #[.int .i64 ts, .int .i64 tb, .int .i64 tc, .slice oo (opsAt h k).length oc] 52)
   have HTX := hid (BoxN.new wr 52 #[.int .i64 ts, .int .i64 tb, .int .i64 tc, .slice oo (opsAt h k).length oc])
   have HBX0 := hid (HBX.out.below hbb)
   have HR0 := hid (HR.out.below hbb)
   have HP0 := hid (HP.out.below hbb)
   have HB0 := hid (HB.out.alloc HB.out.size (.cells #[.int .i64 ts, .int .i64 tb, .int .i64 tc, .slice oo (opsAt h k).length oc] 52))
   have hp35 : p3 < wr.heap.size := HBX.out.lt
   go_upto_region 5 with fail
   clear hbb HBX HR HP HB a0 a1 a2 a3
   generalize wr.alloc (.cells #[.int .i64 ts, .int .i64 tb, .int .i64 tc, .slice oo (opsAt h k).length oc] 52) = W0 at *
   generalize wr.heap.size = p5 at *
   have hctA := HBX0.out.cell (i := 1) rfl
   have hownA : W0.ownsRow w.heap.size 3 1 vs (sTo h k).length ((sTo h k).map (Value.int .i64)) := HR0.out.o1
   obtain ⟨xaA, xnA, xcA, hxvA⟩ : ∃ a n c, vs = .slice a n c := by
    obtain ⟨_, a, c, e, _⟩ := HR0.out.o1.ints
    exact ⟨a, _, c, e⟩
   have HNBA : Hid (some p3 ≠ vs.ownBlock) := hid (fun e => by
    rcases owns_no_box hownA HBX0.out (by decide) with q | q
    ·rw [q] at e; cases e
    ·exact q e.symm)
   have hbzA := HB0.out.size
   have hbAA := box_below W0 (.cells #[.int .i64 ts] 3)
   have HBXAA := hid (HBX0.out.below hbAA)
   have HRAA := hid (HR0.out.below hbAA)
   have HPAA := hid (HP0.out.below hbAA)
   have HTXAA := hid (HTX.out.below hbAA)
   have zp50 := HTX.out.cell (i := 0) rfl
   rw [hxvA] at hctA hownA
   have hlnA : (sTo h k).length ≤ 2000 := by have := hsn; omega
   clear hbAA
   go_wp2_with (first | (at_builtin; refine wpList_append_lies _ rfl _ _ 24 rfl w.heap.size 3 i0 (.int .i64 0) 1 8 Tryz.underlying24 hi hz0 hz1 hz2 rfl (by decide) _ _ _ rfl (hownA.alloc _) ⟨_, 0, none⟩ 1 1 [.int .i64 ts] rfl rfl ?c1A ?c2A (by decide) ?c3A ?c4A ?c5A _ rfl ?_) | go_in)
   try case c1A => first | exact cell_one_new _ _ _ | exact lit_twoR _ _ _ _
   try case c2A => first | rfl | exact ⟨rfl, rfl⟩ | (intro u hu; simp at hu; rcases hu with rfl | rfl <;> rfl) | (intro u hu; simp at hu; subst hu; rfl)
   case c3A => unfold maxLen; omega
   case c4A => omega
   case c5A => first | omega | (simp; omega)
   intro gA cA wA hnnA hgA hlA hltA
   rw [← hxvA] at hgA hlA
   have hOA : IntO wA w.heap.size (Value.slice (some ⟨gA, 0, none⟩) ((sTo h k).length + 1) cA) (sTo h (k + 1)) := by
    unfold IntO
    rw [HSS.out, List.map_append, List.length_append]
    exact hnnA
   have hRA := HRAA.out.app1 hOA hgA (by rw [World.size_alloc]; exact hlA)
   have hXA := HBXAA.out.kept hgA HNBA.out
   have hcxA := hXA.cell (i := 1) rfl
   have hfxA := hXA.free 1
   have hgsA := grown_set wA ⟨p3, 1, none⟩ (Value.slice (some ⟨gA, 0, none⟩) ((sTo h k).length + 1) cA)
   have hnpA : vs.ownBlock = none ∨ vs.ownBlock ≠ some p2 := owns_no_box HRAA.out.o1 HPAA.out (by decide)
   have hPA := HPAA.out.kept hgA (fun e => by
    rcases hnpA with q | q
    ·rw [q] at e; cases e
    ·exact q e.symm)
   have HPA := hid (hPA.far (a := ⟨p3, 1, none⟩) (by show p2 ≠ p3; omega) (Value.slice (some ⟨gA, 0, none⟩) ((sTo h k).length + 1) cA))
   have HBXA : Hid (BoxN (wA.setCell ⟨p3, 1, none⟩ (Value.slice (some ⟨gA, 0, none⟩) ((sTo h k).length + 1) cA)) p3 67 #[vk, (Value.slice (some ⟨gA, 0, none⟩) ((sTo h k).length + 1) cA), vv, vt]) := hid (hXA.set 1 (Value.slice (some ⟨gA, 0, none⟩) ((sTo h k).length + 1) cA))
   have HRA := hid (hRA.box hXA (by decide) hgsA)
   have HBA := hid ((below_app0 HB0.out (Nat.le_refl _) hownA (Nat.le_refl _) (by rw [← hxvA]; exact hgA)).setCell (p := ⟨p3, 1, none⟩) (by show w.heap.size ≤ p3; omega) (Value.slice (some ⟨gA, 0, none⟩) ((sTo h k).length + 1) cA))
   have hnp5A : vs.ownBlock = none ∨ vs.ownBlock ≠ some p5 := owns_no_box HRAA.out.o1 HTXAA.out (by decide)
   have HTXA := hid ((HTXAA.out.kept hgA (fun e => by
    rcases hnp5A with q | q
    ·rw [q] at e; cases e
    ·exact q e.symm)).far (a := ⟨p3, 1, none⟩) (by show p5 ≠ p3; omega) (Value.slice (some ⟨gA, 0, none⟩) ((sTo h k).length + 1) cA))
   clear hnnA hgA hlA hltA hOA hRA hXA hgsA hPA hnpA HBXAA HRAA HPAA HNBA hownA hctA hxvA hbzA HBX0 HR0 HP0 HB0
   clear HTXAA hnp5A HTX
   go_upto_region 6 with fail
   clear hcxA hfxA
   generalize (wA.setCell ⟨p3, 1, none⟩ (Value.slice (some ⟨gA, 0, none⟩) ((sTo h k).length + 1) cA)) = WA at *
   obtain ⟨nA, hnA⟩ : ∃ v, (Value.slice (some ⟨gA, 0, none⟩) ((sTo h k).length + 1) cA) = v := ⟨_, rfl⟩
   rw [hnA] at HBXA HRA ⊢
   clear hnA
   have hctB := HBXA.out.cell (i := 3) rfl
   have hownB : WA.ownsRow w.heap.size 3 1 vt (stL (h.take k)).length ((stL (h.take k)).map (Value.int .i64)) := HRA.out.o3
   obtain ⟨xaB, xnB, xcB, hxvB⟩ : ∃ a n c, vt = .slice a n c := by
    obtain ⟨_, a, c, e, _⟩ := HRA.out.o3.ints
    exact ⟨a, _, c, e⟩
   have HNBB : Hid (some p3 ≠ vt.ownBlock) := hid (fun e => by
    rcases owns_no_box hownB HBXA.out (by decide) with q | q
    ·rw [q] at e; cases e
    ·exact q e.symm)
   have hbzB := HBA.out.size
   have hbAB := box_below WA (.cells #[.int .i64 tb, .int .i64 tc] 3)
   have HBXAB := hid (HBXA.out.below hbAB)
   have HRAB := hid (HRA.out.below hbAB)
   have HPAB := hid (HPA.out.below hbAB)
   have HTXAAB := hid (HTXA.out.below hbAB)
   have zp51 := HTXA.out.cell (i := 1) rfl
   have zp52 := HTXA.out.cell (i := 2) rfl
   rw [hxvB] at hctB hownB
   have hlnB : (stL (h.take k)).length ≤ 2000 := by have := htn; omega
   clear hbAB
   go_wp2_with (first | (at_builtin; refine wpList_append_lies _ rfl _ _ 24 rfl w.heap.size 3 i0 (.int .i64 0) 1 8 Tryz.underlying24 hi hz0 hz1 hz2 rfl (by decide) _ _ _ rfl (hownB.alloc _) ⟨_, 0, none⟩ 2 2 [.int .i64 tb, .int .i64 tc] rfl rfl ?c1B ?c2B (by decide) ?c3B ?c4B ?c5B _ rfl ?_) | go_in)
   try case c1B => first | exact cell_one_new _ _ _ | exact lit_twoR _ _ _ _
   try case c2B => first | rfl | exact ⟨rfl, rfl⟩ | (intro u hu; simp at hu; rcases hu with rfl | rfl <;> rfl) | (intro u hu; simp at hu; subst hu; rfl)
   case c3B => unfold maxLen; omega
   case c4B => omega
   case c5B => first | omega | (simp; omega)
   intro gB cB wB hnnB hgB hlB hltB
   rw [← hxvB] at hgB hlB
   have hOB : IntO wB w.heap.size (Value.slice (some ⟨gB, 0, none⟩) ((stL (h.take k)).length + 2) cB) (stL (h.take (k + 1))) := by
    unfold IntO
    rw [HST.out, List.map_append, List.length_append]
    exact hnnB
   have hRB := HRAB.out.app3 hOB hgB (by rw [World.size_alloc]; exact hlB)
   have hXB := HBXAB.out.kept hgB HNBB.out
   have hcxB := hXB.cell (i := 3) rfl
   have hfxB := hXB.free 3
   have hgsB := grown_set wB ⟨p3, 3, none⟩ (Value.slice (some ⟨gB, 0, none⟩) ((stL (h.take k)).length + 2) cB)
   have hnpB : vt.ownBlock = none ∨ vt.ownBlock ≠ some p2 := owns_no_box HRAB.out.o3 HPAB.out (by decide)
   have hPB := HPAB.out.kept hgB (fun e => by
    rcases hnpB with q | q
    ·rw [q] at e; cases e
    ·exact q e.symm)
   have HPB := hid (hPB.far (a := ⟨p3, 3, none⟩) (by show p2 ≠ p3; omega) (Value.slice (some ⟨gB, 0, none⟩) ((stL (h.take k)).length + 2) cB))
   have HBXB : Hid (BoxN (wB.setCell ⟨p3, 3, none⟩ (Value.slice (some ⟨gB, 0, none⟩) ((stL (h.take k)).length + 2) cB)) p3 67 #[vk, nA, vv, (Value.slice (some ⟨gB, 0, none⟩) ((stL (h.take k)).length + 2) cB)]) := hid (hXB.set 3 (Value.slice (some ⟨gB, 0, none⟩) ((stL (h.take k)).length + 2) cB))
   have HRB := hid (hRB.box hXB (by decide) hgsB)
   have HBB := hid ((below_app0 HBA.out (Nat.le_refl _) hownB (Nat.le_refl _) (by rw [← hxvB]; exact hgB)).setCell (p := ⟨p3, 3, none⟩) (by show w.heap.size ≤ p3; omega) (Value.slice (some ⟨gB, 0, none⟩) ((stL (h.take k)).length + 2) cB))
   have hnp5B : vt.ownBlock = none ∨ vt.ownBlock ≠ some p5 := owns_no_box HRAB.out.o3 HTXAAB.out (by decide)
   have HTXAB := hid ((HTXAAB.out.kept hgB (fun e => by
    rcases hnp5B with q | q
    ·rw [q] at e; cases e
    ·exact q e.symm)).far (a := ⟨p3, 3, none⟩) (by show p5 ≠ p3; omega) (Value.slice (some ⟨gB, 0, none⟩) ((stL (h.take k)).length + 2) cB))
   clear hnnB hgB hlB hltB hOB hRB hXB hgsB hPB hnpB HBXAB HRAB HPAB HNBB hownB hctB hxvB hbzB HBXA HRA HPA HBA
   clear HTXAAB hnp5B HTXA
   go_upto_region 7 with fail
   clear hcxB hfxB
   generalize (wB.setCell ⟨p3, 3, none⟩ (Value.slice (some ⟨gB, 0, none⟩) ((stL (h.take k)).length + 2) cB)) = WB at *
   obtain ⟨nB, hnB⟩ : ∃ v, (Value.slice (some ⟨gB, 0, none⟩) ((stL (h.take k)).length + 2) cB) = v := ⟨_, rfl⟩
   rw [hnB] at HBXB HRB ⊢
   clear hnB
   have z53 := HTXAB.out.cell (i := 3) rfl
   go_wp2_with fail
   clear z53
   go_loopw [33] (fun i wr => ∃ (j : Nat) (uk uv : Value), j ≤ (opsAt h k).length ∧ i = .int .i64 (j : Int) ∧ Hid (BoxN wr p3 67 #[uk, nA, uv, nB]) ∧ Hid (R4 wr w.heap.size uk nA uv nB (kTo h k j) (sTo h (k + 1)) (vTo h k j) (stL (h.take (k + 1)))) ∧ Hid (BoxN wr p2 67 #[.slice none 0 0, .slice none 0 0, .slice none 0 0, .slice none 0 0]) ∧ Hid (Below w.heap.size w wr)) (fun i _ => (opsAt h k).length - (intOf i).toNat)
   case atStart => exact ⟨0, _, _, by omega, rfl, HBXB, HRB, HPB, HBB⟩
   case round =>
    obtain ⟨j, uk, uv, hj, rfl, HBXq, HRq, HPq, HBq⟩ := hrel
    clear HBXB HRB HPB HBB HTXAB
    by_cases hjt : j < (opsAt h k).length
    ·have hji : (j : Int) < ((opsAt h k).length : Int) := by omega
     obtain ⟨g2, o2, hg2, e0, e1, e2⟩ := (HOPS.out _ HBq.out).at hjt
     cases hg2
     have HKS : Hid (kTo h k (j + 1) = kTo h k j ++ [(opsAt h k)[j].key]) := hid (kTo_succ hjt)
     have HVS : Hid (vTo h k (j + 1) = vTo h k j ++ [(opsAt h k)[j].val]) := hid (vTo_succ hjt)
     obtain ⟨hkn, hvn⟩ := HLN.out k j hlt (by omega)
     generalize (opsAt h k)[j] = x at *
     obtain ⟨xw, xk, xv⟩ := x
     simp only at e0 e1 e2 HKS HVS
     have hbb := box_below wr (.cells #[.bool xw, .int .i64 xk, .int .i64 xv] 54)
     have HOX := hid (BoxN.new wr 54 #[.bool xw, .int .i64 xk, .int .i64 xv])
     have HBX1 := hid (HBXq.out.below hbb)
     have HR1 := hid (HRq.out.below hbb)
     have HP1 := hid (HPq.out.below hbb)
     have HB1 := hid (HBq.out.alloc HBq.out.size (.cells #[.bool xw, .int .i64 xk, .int .i64 xv] 54))
     have hp37 : p3 < wr.heap.size := HBXq.out.lt
     go_upto_region 10 with fail
     clear hbb HBXq HRq HPq HBq e0 e1 e2
     generalize wr.alloc (.cells #[.bool xw, .int .i64 xk, .int .i64 xv] 54) = W1 at *
     generalize wr.heap.size = p7 at *
     have hctC := HBX1.out.cell (i := 0) rfl
     have hownC : W1.ownsRow w.heap.size 3 1 uk (kTo h k j).length ((kTo h k j).map (Value.int .i64)) := HR1.out.o0
     obtain ⟨xaC, xnC, xcC, hxvC⟩ : ∃ a n c, uk = .slice a n c := by
      obtain ⟨_, a, c, e, _⟩ := HR1.out.o0.ints
      exact ⟨a, _, c, e⟩
     have HNBC : Hid (some p3 ≠ uk.ownBlock) := hid (fun e => by
      rcases owns_no_box hownC HBX1.out (by decide) with q | q
      ·rw [q] at e; cases e
      ·exact q e.symm)
     have hbzC := HB1.out.size
     have hbAC := box_below W1 (.cells #[.int .i64 xk] 3)
     have HBXAC := hid (HBX1.out.below hbAC)
     have HRAC := hid (HR1.out.below hbAC)
     have HPAC := hid (HP1.out.below hbAC)
     have HOXAC := hid (HOX.out.below hbAC)
     have zp71 := HOX.out.cell (i := 1) rfl
     rw [hxvC] at hctC hownC
     have hlnC : (kTo h k j).length ≤ 2000 := by have := hkn; omega
     clear hbAC
     go_wp2_with (first | (at_builtin; refine wpList_append_lies _ rfl _ _ 24 rfl w.heap.size 3 i0 (.int .i64 0) 1 8 Tryz.underlying24 hi hz0 hz1 hz2 rfl (by decide) _ _ _ rfl (hownC.alloc _) ⟨_, 0, none⟩ 1 1 [.int .i64 xk] rfl rfl ?c1C ?c2C (by decide) ?c3C ?c4C ?c5C _ rfl ?_) | go_in)
     try case c1C => first | exact cell_one_new _ _ _ | exact lit_twoR _ _ _ _
     try case c2C => first | rfl | exact ⟨rfl, rfl⟩ | (intro u hu; simp at hu; rcases hu with rfl | rfl <;> rfl) | (intro u hu; simp at hu; subst hu; rfl)
     case c3C => unfold maxLen; omega
     case c4C => omega
     case c5C => first | omega | (simp; omega)
     intro gC cC wC hnnC hgC hlC hltC
     rw [← hxvC] at hgC hlC
     have hOC : IntO wC w.heap.size (Value.slice (some ⟨gC, 0, none⟩) ((kTo h k j).length + 1) cC) (kTo h k (j + 1)) := by
      unfold IntO
      rw [HKS.out, List.map_append, List.length_append]
      exact hnnC
     have hRC := HRAC.out.app0 hOC hgC (by rw [World.size_alloc]; exact hlC)
     have hXC := HBXAC.out.kept hgC HNBC.out
     have hcxC := hXC.cell (i := 0) rfl
     have hfxC := hXC.free 0
     have hgsC := grown_set wC ⟨p3, 0, none⟩ (Value.slice (some ⟨gC, 0, none⟩) ((kTo h k j).length + 1) cC)
     have hnpC : uk.ownBlock = none ∨ uk.ownBlock ≠ some p2 := owns_no_box HRAC.out.o0 HPAC.out (by decide)
     have hPC := HPAC.out.kept hgC (fun e => by
      rcases hnpC with q | q
      ·rw [q] at e; cases e
      ·exact q e.symm)
     have HPC := hid (hPC.far (a := ⟨p3, 0, none⟩) (by show p2 ≠ p3; omega) (Value.slice (some ⟨gC, 0, none⟩) ((kTo h k j).length + 1) cC))
     have HBXC : Hid (BoxN (wC.setCell ⟨p3, 0, none⟩ (Value.slice (some ⟨gC, 0, none⟩) ((kTo h k j).length + 1) cC)) p3 67 #[(Value.slice (some ⟨gC, 0, none⟩) ((kTo h k j).length + 1) cC), nA, uv, nB]) := hid (hXC.set 0 (Value.slice (some ⟨gC, 0, none⟩) ((kTo h k j).length + 1) cC))
     have HRC := hid (hRC.box hXC (by decide) hgsC)
     have HBC := hid ((below_app0 HB1.out (Nat.le_refl _) hownC (Nat.le_refl _) (by rw [← hxvC]; exact hgC)).setCell (p := ⟨p3, 0, none⟩) (by show w.heap.size ≤ p3; omega) (Value.slice (some ⟨gC, 0, none⟩) ((kTo h k j).length + 1) cC))
     have hnp7C : uk.ownBlock = none ∨ uk.ownBlock ≠ some p7 := owns_no_box HRAC.out.o0 HOXAC.out (by decide)
     have HOXC := hid ((HOXAC.out.kept hgC (fun e => by
      rcases hnp7C with q | q
      ·rw [q] at e; cases e
      ·exact q e.symm)).far (a := ⟨p3, 0, none⟩) (by show p7 ≠ p3; omega) (Value.slice (some ⟨gC, 0, none⟩) ((kTo h k j).length + 1) cC))
     clear hnnC hgC hlC hltC hOC hRC hXC hgsC hPC hnpC HBXAC HRAC HPAC HNBC hownC hctC hxvC hbzC HBX1 HR1 HP1 HB1
     clear HOXAC hnp7C HOX
     go_upto_region 11 with fail
     clear hcxC hfxC
     generalize (wC.setCell ⟨p3, 0, none⟩ (Value.slice (some ⟨gC, 0, none⟩) ((kTo h k j).length + 1) cC)) = WC at *
     obtain ⟨nC, hnC⟩ : ∃ v, (Value.slice (some ⟨gC, 0, none⟩) ((kTo h k j).length + 1) cC) = v := ⟨_, rfl⟩
     rw [hnC] at HBXC HRC ⊢
     clear hnC
     have hctD := HBXC.out.cell (i := 2) rfl
     have hownD : WC.ownsRow w.heap.size 3 1 uv (vTo h k j).length ((vTo h k j).map (Value.int .i64)) := HRC.out.o2
     obtain ⟨xaD, xnD, xcD, hxvD⟩ : ∃ a n c, uv = .slice a n c := by
      obtain ⟨_, a, c, e, _⟩ := HRC.out.o2.ints
      exact ⟨a, _, c, e⟩
     have HNBD : Hid (some p3 ≠ uv.ownBlock) := hid (fun e => by
      rcases owns_no_box hownD HBXC.out (by decide) with q | q
      ·rw [q] at e; cases e
      ·exact q e.symm)
     have hbzD := HBC.out.size
     have hbAD := box_below WC (.cells #[.int .i64 xv] 3)
     have HBXAD := hid (HBXC.out.below hbAD)
     have HRAD := hid (HRC.out.below hbAD)
     have HPAD := hid (HPC.out.below hbAD)
     have HOXCAD := hid (HOXC.out.below hbAD)
     have zp72 := HOXC.out.cell (i := 2) rfl
     rw [hxvD] at hctD hownD
     have hlnD : (vTo h k j).length ≤ 2000 := by have := hvn; omega
     clear hbAD
     go_wp2_with (first | (at_builtin; refine wpList_append_lies _ rfl _ _ 24 rfl w.heap.size 3 i0 (.int .i64 0) 1 8 Tryz.underlying24 hi hz0 hz1 hz2 rfl (by decide) _ _ _ rfl (hownD.alloc _) ⟨_, 0, none⟩ 1 1 [.int .i64 xv] rfl rfl ?c1D ?c2D (by decide) ?c3D ?c4D ?c5D _ rfl ?_) | go_in)
     try case c1D => first | exact cell_one_new _ _ _ | exact lit_twoR _ _ _ _
     try case c2D => first | rfl | exact ⟨rfl, rfl⟩ | (intro u hu; simp at hu; rcases hu with rfl | rfl <;> rfl) | (intro u hu; simp at hu; subst hu; rfl)
     case c3D => unfold maxLen; omega
     case c4D => omega
     case c5D => first | omega | (simp; omega)
     intro gD cD wD hnnD hgD hlD hltD
     rw [← hxvD] at hgD hlD
     have hOD : IntO wD w.heap.size (Value.slice (some ⟨gD, 0, none⟩) ((vTo h k j).length + 1) cD) (vTo h k (j + 1)) := by
      unfold IntO
      rw [HVS.out, List.map_append, List.length_append]
      exact hnnD
     have hRD := HRAD.out.app2 hOD hgD (by rw [World.size_alloc]; exact hlD)
     have hXD := HBXAD.out.kept hgD HNBD.out
     have hcxD := hXD.cell (i := 2) rfl
     have hfxD := hXD.free 2
     have hgsD := grown_set wD ⟨p3, 2, none⟩ (Value.slice (some ⟨gD, 0, none⟩) ((vTo h k j).length + 1) cD)
     have hnpD : uv.ownBlock = none ∨ uv.ownBlock ≠ some p2 := owns_no_box HRAD.out.o2 HPAD.out (by decide)
     have hPD := HPAD.out.kept hgD (fun e => by
      rcases hnpD with q | q
      ·rw [q] at e; cases e
      ·exact q e.symm)
     have HPD := hid (hPD.far (a := ⟨p3, 2, none⟩) (by show p2 ≠ p3; omega) (Value.slice (some ⟨gD, 0, none⟩) ((vTo h k j).length + 1) cD))
     have HBXD : Hid (BoxN (wD.setCell ⟨p3, 2, none⟩ (Value.slice (some ⟨gD, 0, none⟩) ((vTo h k j).length + 1) cD)) p3 67 #[nC, nA, (Value.slice (some ⟨gD, 0, none⟩) ((vTo h k j).length + 1) cD), nB]) := hid (hXD.set 2 (Value.slice (some ⟨gD, 0, none⟩) ((vTo h k j).length + 1) cD))
     have HRD := hid (hRD.box hXD (by decide) hgsD)
     have HBD := hid ((below_app0 HBC.out (Nat.le_refl _) hownD (Nat.le_refl _) (by rw [← hxvD]; exact hgD)).setCell (p := ⟨p3, 2, none⟩) (by show w.heap.size ≤ p3; omega) (Value.slice (some ⟨gD, 0, none⟩) ((vTo h k j).length + 1) cD))
     have hnp7D : uv.ownBlock = none ∨ uv.ownBlock ≠ some p7 := owns_no_box HRAD.out.o2 HOXCAD.out (by decide)
     have HOXCD := hid ((HOXCAD.out.kept hgD (fun e => by
      rcases hnp7D with q | q
      ·rw [q] at e; cases e
      ·exact q e.symm)).far (a := ⟨p3, 2, none⟩) (by show p7 ≠ p3; omega) (Value.slice (some ⟨gD, 0, none⟩) ((vTo h k j).length + 1) cD))
     clear hnnD hgD hlD hltD hOD hRD hXD hgsD hPD hnpD HBXAD HRAD HPAD HNBD hownD hctD hxvD hbzD HBXC HRC HPC HBC
     clear HOXCAD hnp7D HOXC
     go_upto_region 12 with fail
     clear hcxD hfxD
     generalize (wD.setCell ⟨p3, 2, none⟩ (Value.slice (some ⟨gD, 0, none⟩) ((vTo h k j).length + 1) cD)) = WD at *
     obtain ⟨nD, hnD⟩ : ∃ v, (Value.slice (some ⟨gD, 0, none⟩) ((vTo h k j).length + 1) cD) = v := ⟨_, rfl⟩
     rw [hnD] at HBXD HRD ⊢
     clear hnD
     go_wp2_with fail
     go_roundw
     case rel => exact ⟨j + 1, _, _, by omega, by go_num, HBXD, HRD, HPD, HBD⟩
     case measure => simp [intOf]; omega
    ·obtain rfl : j = (opsAt h k).length := by omega
     have hji : ¬ ((opsAt h k).length : Int) < ((opsAt h k).length : Int) := by omega
     rw [kTo_done hlt, vTo_done hlt] at HRq
     go_wp2_with fail
     go_roundw
     case rel => exact ⟨k + 1, _, _, _, _, by omega, by go_num, HBXq, HRq, HPq, HBq⟩
     case measure => simp [intOf]; omega
  ·obtain rfl : k = h.length := by omega
   have hki : ¬ (h.length : Int) < (h.length : Int) := by omega
   obtain ⟨e1, e2, e3⟩ := kTo_all h
   rw [e1, e2, e3, List.take_length] at HR
   have sh : ∀ {v : Value} {L : List Int}, IntO wr w.heap.size v L → ∃ a n c, v = .slice a n c := fun {v L} q => by
    obtain ⟨_, a, c, e, _⟩ := q.ints
    exact ⟨a, _, c, e⟩
   obtain ⟨k1, k2, k3, rfl⟩ := sh HR.out.o0
   obtain ⟨s1, s2, s3, rfl⟩ := sh HR.out.o1
   obtain ⟨v1, v2, v3, rfl⟩ := sh HR.out.o2
   obtain ⟨t1, t2, t3, rfl⟩ := sh HR.out.o3
   have f0 : wr.cell? ⟨p3, 0, none⟩ = some (.slice k1 k2 k3) := HBX.out.cell (i := 0) rfl
   have f1 : wr.cell? ⟨p3, 1, none⟩ = some (.slice s1 s2 s3) := HBX.out.cell (i := 1) rfl
   have f2 : wr.cell? ⟨p3, 2, none⟩ = some (.slice v1 v2 v3) := HBX.out.cell (i := 2) rfl
   have f3 : wr.cell? ⟨p3, 3, none⟩ = some (.slice t1 t2 t3) := HBX.out.cell (i := 3) rfl
   have hP2 : BoxN wr w.heap.size 67 #[.slice none 0 0, .slice none 0 0, .slice none 0 0, .slice none 0 0] := by have q := HP.out; rwa [← HP2.out] at q
   have hbP := hid (below_setRow HB.out (Nat.le_refl _) #[.slice k1 k2 k3, .slice s1 s2 s3, .slice v1 v2 v3, .slice t1 t2 t3])
   have hRR := hid (HR.out.box hP2 (by decide) (grown_setRow wr w.heap.size #[.slice k1 k2 k3, .slice s1 s2 s3, .slice v1 v2 v3, .slice t1 t2 t3]))
   have hinf : (Tryz.prog.info? 67).map (·.size) = some (#[.slice k1 k2 k3, .slice s1 s2 s3, .slice v1 v2 v3, .slice t1 t2 t3] : Array Value).size := (show (Tryz.prog.info? 67).map (·.size) = some 4 by kernel_rfl)
   have HPB := hid hP2
   have hP2h : wr.heap[w.heap.size]? = some (.cells #[.slice none 0 0, .slice none 0 0, .slice none 0 0, .slice none 0 0] 67 (0, 0)) := hP2
   have hone : (#[.slice k1 k2 k3, .slice s1 s2 s3, .slice v1 v2 v3, .slice t1 t2 t3] : Array Value).all (·.oneCell') = true := by simp [Value.oneCell']
   clear e1 e2 e3 HP sh HR HBX
   go_wp2_with (with_reducible refine wpList_store_rowT 67 hP2h rfl _ _ rfl rfl rfl hinf rfl hone ?_)
   try simp only [Act.put]
   refine bodyPost_ret (v := .agg #[.slice k1 k2 k3, .slice s1 s2 s3, .slice v1 v2 v3, .slice t1 t2 t3]) (results_cell_row rfl _ _ w.heap.size _ #[.slice k1 k2 k3, .slice s1 s2 s3, .slice v1 v2 v3, .slice t1 t2 t3] _ _ rfl (setRow_heap _ _ _ _ _ _ HPB.out) Tryz.underlying67 rfl hinf) rfl ?_
   exact ⟨⟨_, _, _, _, rfl, hRR.out⟩, hbP.out⟩
end

end Go.Proofs.YtipmfhgdeghmjaaGreat
