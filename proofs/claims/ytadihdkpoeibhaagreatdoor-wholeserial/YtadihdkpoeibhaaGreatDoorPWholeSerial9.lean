/- Walks and plain facts that the proof of the statement WholeSerial uses, joined: BruH BruI PlaP ArgC LeaI LeaJ TopA BruK BruV BruZ BrcA BrcC BruW BruX AxhN BruY BrcB SeaL IsoA IsoB LngA LngB HisT CnoA CnoB SerA SerB VecA VecB VecC VecD TblM TblB TblC VecE VecF VecG VecH LevD TblD TblE TblF TblG TblJ TblH TblK VecJ VecK HisU HisV HisW HisY OrdAG BruL BruN SerC. Conditions: each theorem's own. -/
import Derived.Deep.Upon
import Derived.BigQuiet
import Derived.Deep.MidRow
import Derived.ChangeKeysEq
import Derived.Outline
import Derived.Laws.BitsAllLaws
import Derived.Sort.Row
import Derived.Test.YtadihdkpoeibhaaGreatDoorPWholeSerial0
import Derived.Test.YtadihdkpoeibhaaGreatDoorPWholeSerial1
import Derived.Test.YtadihdkpoeibhaaGreatDoorPWholeSerial2
import Derived.Test.YtadihdkpoeibhaaGreatDoorPWholeSerial3
import Derived.Test.YtadihdkpoeibhaaGreatDoorPWholeSerial4
import Derived.Test.YtadihdkpoeibhaaGreatDoorPWholeSerial5
import Derived.Test.YtadihdkpoeibhaaGreatDoorPWholeSerial7
import Derived.Test.YtadihdkpoeibhaaGreatDoorPWholeSerial8
namespace Go.Proofs.YtadihdkpoeibhaaGreatDoor
set_option maxHeartbeats 32000000
set_option maxRecDepth 100000
open Lib (hid)
section
open Go.RowKit Go.Shelf
attribute [local go_sem] Oper.semAt_some
theorem find_none {α : Type} {p : α → Bool} {L : List α} (h : ∀ r ∈ L, p r = false) : L.find? p = none := by
 rw [List.find?_eq_none]; intro r hr; rw [h r hr]; simp
theorem find_first {α : Type} {p : α → Bool} {pre L : List α} {r : α} (hp : (pre ++ [r]) <+: L) (hn : ∀ x ∈ pre, p x = false) (hr : p r = true) : L.find? p = some r := by
 obtain ⟨t, rfl⟩ := hp
 rw [List.append_assoc, List.find?_append, find_none hn, Option.none_or]
 simp [hr]
theorem Lists.cells {W W' : World} {v : Value} {LL : List (List Int)} (h : Lists W v LL) (hk : ∀ a u, W.cell? a = some u → W'.cell? a = some u) : Lists W' v LL := by
 obtain ⟨sv, h1, h2⟩ := h
 exact ⟨sv, h1.cells hk, fun k hk' => by obtain ⟨u, a, b⟩ := h2 k hk'; exact ⟨u, a, b.cells hk⟩⟩
theorem OwnK.four {s b : Nat} {w : World} {v : Value} {K : List KRow} (h : OwnK b w v K) (hb : s + 6 ≤ b) (uo us u1 u2 : Value) : OwnK b ((((w.setCell ⟨s + 1 + 1, 0, none⟩ uo).setCell ⟨s + 1 + 1, 1, none⟩ us).setCell ⟨s + 1 + 1 + 1, 0, none⟩ u1).setCell ⟨s + 1 + 1 + 1 + 1, 0, none⟩ u2) v K :=
 have f : ∀ {n : Nat} {e : TypeId} {v : Value} {xs : List Value}, w.ownsRow b e 1 v n xs → ((((w.setCell ⟨s + 1 + 1, 0, none⟩ uo).setCell ⟨s + 1 + 1, 1, none⟩ us).setCell ⟨s + 1 + 1 + 1, 0, none⟩ u1).setCell ⟨s + 1 + 1 + 1 + 1, 0, none⟩ u2).ownsRow b e 1 v n xs := fun h =>
  ownsRow_setCell_below (ownsRow_setCell_below (ownsRow_setCell_below (ownsRow_setCell_below h (show s + 1 + 1 < b by omega) _) (show s + 1 + 1 < b by omega) _) (show s + 1 + 1 + 1 < b by omega) _) (show s + 1 + 1 + 1 + 1 < b by omega) _
 ⟨f h.kr, fun p hp => f (h.ke p hp)⟩
theorem own_four {s b n : Nat} {e : TypeId} {w : World} {v : Value} {xs : List Value} (h : w.ownsRow b e 1 v n xs) (hb : s + 6 ≤ b) (uo us u1 u2 : Value) : ((((w.setCell ⟨s + 1 + 1, 0, none⟩ uo).setCell ⟨s + 1 + 1, 1, none⟩ us).setCell ⟨s + 1 + 1 + 1, 0, none⟩ u1).setCell ⟨s + 1 + 1 + 1 + 1, 0, none⟩ u2).ownsRow b e 1 v n xs :=
 ownsRow_setCell_below (ownsRow_setCell_below (ownsRow_setCell_below (ownsRow_setCell_below h (show s + 1 + 1 < b by omega) _) (show s + 1 + 1 < b by omega) _) (show s + 1 + 1 + 1 < b by omega) _) (show s + 1 + 1 + 1 + 1 < b by omega) _
theorem dec_none {h : List TxnV} {lv : Int} {w : World} (h8 : h.length ≤ 8) (hf : (ordersN h.length).find? (keptL h lv) = none) : DecRes h lv (.tuple #[.agg #[.slice none 0 0, .slice none 0 0], .bool false, .bool true]) w := by
 unfold DecRes; rw [if_pos h8, hf]
theorem dec_many {h : List TxnV} {lv : Int} {w : World} (h8 : ¬ h.length ≤ 8) : DecRes h lv (.tuple #[.agg #[.slice none 0 0, .slice none 0 0], .bool false, .bool false]) w := by
 unfold DecRes; rw [if_neg h8]
theorem dec_some {h : List TxnV} {lv : Int} {w : World} {r : List Nat} {vo vs : Value} {X : Mat} (h8 : h.length ≤ 8) (hf : (ordersN h.length).find? (keptL h lv) = some r) (h1 : LeastIs h (askN lv) (r.map Int.ofNat) X) (h2 : Ints w vo (r.map Int.ofNat)) (h3 : Lists w vs (seesL X (r.map Int.ofNat).length)) :
  DecRes h lv (.tuple #[.agg #[vo, vs], .bool true, .bool true]) w := by
 unfold DecRes; rw [if_pos h8, hf]; exact ⟨vo, vs, X, rfl, h1, h2, h3⟩
theorem DecI.cells {s B : Nat} {lv : Int} {vo vs b1 b2 : Value} {w W W' : World} (q : DecI s B lv vo vs b1 b2 w W) (hb : Below (s + 6) W W') : DecI s B lv vo vs b1 b2 w W' := q.below hb (Nat.le_refl _)
structure DecX (h : List TxnV) (lv : Int) (s B : Nat) (w : World) (pre : List (List Nat)) (W : World) : Prop where
 ex : ∃ p r vo vs X, pre = p ++ [r] ∧ (∀ x ∈ p, keptL h lv x = false) ∧ keptL h lv r = true ∧ DecI s B lv vo vs (.bool true) (.bool true) w W ∧ LeastIs h (askN lv) (r.map Int.ofNat) X ∧ Ints W vo (r.map Int.ofNat) ∧ Lists W vs (seesL X (r.map Int.ofNat).length)
theorem DecX.put {h : List TxnV} {lv : Int} {s B : Nat} {w : World} {pre : List (List Nat)} {W : World} (q : DecX h lv s B w pre W) {k : Nat} {o o' : Obj} (hk : W.heap[k]? = some o') (ho : o'.isCells = false) (hs : s + 6 ≤ k) : DecX h lv s B w pre (W.putObj k o) := by
 obtain ⟨p, r, vo, vs, X, a1, a2, a3, a4, a5, a6, a7⟩ := q.ex
 have hc := put_cells (o := o) hk ho
 have hb : Below (s + 6) W (W.putObj k o) := (Below.refl _ W).grown (grownBy_putObj' W k o) (by have := (Array.getElem?_eq_some_iff.1 hk).1; omega) (fun j e => by cases e; omega)
 exact ⟨p, r, vo, vs, X, a1, a2, a3, a4.cells hb, a5, a6.cells hc, a7.cells hc⟩
theorem bdecide_any (lv : Int) (h : List TxnV) (B b : Nat) (w : World) (hO : OrdIs w B b h) (hc : checkI h = 0) (ht : Tab w) (hK : Kinds w) :
  Calls Tryz.prog 36 #[.pointer (some ⟨B, 0, none⟩), .int .i64 lv] w fun e w' => (∃ v, e = .returned v ∧ DecRes h lv v w') ∧ Below w.heap.size w w' := by
 have h64 := (check_zero hc).1
 have hg := ht.pos
 have n0 := hO.blk.cN
 have HC := hid hc
 have HB : Hid (∀ wx, Below w.heap.size w wx → (OrdIs wx B b h ∧ Tab wx ∧ Kinds wx) ∧ wx.cell? ⟨B, 0, none⟩ = w.cell? ⟨B, 0, none⟩) := hid (fun wx hb => ⟨⟨hO.below hb, ht.below hb hg, hK.below hb⟩, hb.cell (p := ⟨B, 0, none⟩) (block_lt n0)⟩)
 clear hO hc ht hK hg
 have hb5 : Below w.heap.size w (((((w.alloc (.cells #[.pointer (some ⟨B, 0, none⟩)] 31)).alloc (.cells #[.int .i64 lv] 60)).alloc (.cells #[.slice none 0 0, .slice none 0 0] 37)).alloc (.cells #[.bool false] 4)).alloc (.cells #[.bool false] 4)) := (((((Below.refl _ w).alloc (Nat.le_refl _) _).alloc (by simp) _).alloc (by simp; omega) _).alloc (by simp; omega) _).alloc (by simp; omega) _
 have n1 := (HB.out _ hb5).2.trans n0
 have HQ := hid (six_boxes w B lv (h.length : Int) 31 60 37 4 4 3 _ rfl)
 by_cases h8 : h.length ≤ 8
 ·refine (callsIn_wide (n := 3)).1 ?_
  refine callsIn_of_wp_marks Tryz.func36 rfl trivial ?_ rfl
  simp only [Tryz.ntmps36, List.size_toArray, List.length_cons, List.length_nil, Nat.reduceAdd, Nat.reduceSub, Array.replicate_succ, Array.replicate_zero, List.push_toArray, List.append_toArray, List.nil_append, List.cons_append]
  have h8i : ¬ (8 : Int) < (h.length : Int) := by omega
  have hs3 : (((((w.alloc (.cells #[.pointer (some ⟨B, 0, none⟩)] 31)).alloc (.cells #[.int .i64 lv] 60)).alloc (.cells #[.slice none 0 0, .slice none 0 0] 37)).alloc (.cells #[.bool false] 4)).alloc (.cells #[.bool false] 4)).heap.size = w.heap.size + 5 := by simp
  have HM := hid (orders_any (h.length : Int) (((((w.alloc (.cells #[.pointer (some ⟨B, 0, none⟩)] 31)).alloc (.cells #[.int .i64 lv] 60)).alloc (.cells #[.slice none 0 0, .slice none 0 0] 37)).alloc (.cells #[.bool false] 4)).alloc (.cells #[.bool false] 4)))
  rw [hs3] at HM
  clear hb5 hs3
  gi_wp2_with (refine ⟨trivial, ?_⟩; gi_at_call 80; refine ((callsIn_wide (n := _)).2 HM.out).mono ?_; rintro e w' ⟨rfl, rfl⟩)
  clear HM n1
  generalize (((((w.alloc (.cells #[.pointer (some ⟨B, 0, none⟩)] 31)).alloc (.cells #[.int .i64 lv] 60)).alloc (.cells #[.slice none 0 0, .slice none 0 0] 37)).alloc (.cells #[.bool false] 4)).alloc (.cells #[.bool false] 4)).alloc (.cells #[.int .i64 (h.length : Int)] 3) = W4 at *
  obtain ⟨q4, c4, s4⟩ := HQ.out
  have hs : w.heap.size + 6 ≤ W4.heap.size := by omega
  refine range_rows (gf := 134) (lb := #[.pointer (some ⟨w.heap.size + 5, 0, none⟩)]) (L := ordersN h.length) rfl (by omega) rfl trivial (fun args w => by kernel_rfl)
   (orders_seq _ h.length (w.heap.size + 5) W4 (by omega) (by omega) c4) (Below.refl _ _) rfl
   (fun pre W => DecI w.heap.size B lv (.slice none 0 0) (.slice none 0 0) (.bool false) (.bool false) w W ∧ ∀ r ∈ pre, keptL h lv r = false)
   (fun pre W => DecX h lv w.heap.size B w pre W)
   (fun pre A B q hb => ⟨q.1.below hb hs, q.2⟩) (fun pre A r o q hl => q.put hl rfl (by omega)) ⟨q4, fun r hr => by cases hr⟩
   (fun v => { tmps := #[.pointer (some ⟨B, 0, none⟩), .int .i64 lv, .pointer (some ⟨w.heap.size, 0, none⟩), .pointer (some ⟨w.heap.size + 1, 0, none⟩), .pointer (some ⟨w.heap.size + 1 + 1, 0, none⟩), .pointer (some ⟨w.heap.size + 1 + 1 + 1, 0, none⟩), .pointer (some ⟨w.heap.size + 1 + 1 + 1 + 1, 0, none⟩), v, undef, undef, .pointer (some ⟨B, 0, none⟩), .pointer (some ⟨B, 0, none⟩), .pointer (some ⟨B, 0, none⟩), .int .i64 (h.length : Int), .bool false, undef, .pointer (some ⟨B, 0, none⟩), .pointer (some ⟨B, 0, none⟩), .pointer (some ⟨B, 0, none⟩), .int .i64 (h.length : Int), .func (.func 134) #[] #[.pointer (some ⟨w.heap.size + 5, 0, none⟩)], v, undef, undef, undef, undef, undef, undef, undef, undef, undef, undef, undef, undef], defers := [] }) ?assign ?body ?done ?stop
  case assign =>
   intro l v W K hK
   gi_wp2
   exact hK
  case body =>
   intro l pre v r W q hr hpre hsz
   obtain ⟨q, hno⟩ := q
   have hmem := mem_of_prefix hpre
   have q0 := q.c0
   have q1 := q.c1
   have HT : Hid (∀ wx, Below W.heap.size W wx → Tab wx) := hid (fun wx hb => (HB.out wx (q.bel.trans (hb.mono q.bel.size))).1.2.1)
   obtain ⟨⟨hO, ht, hK⟩, _⟩ := HB.out W q.bel
   have CI := hid (bin_kept lv v r h B b W hO HC.out ht hK hr.1 hmem)
   have HQ := hid q
   have HR := hid hr
   have HNO := hid hno
   have hl64 : (r.map Int.ofNat).length ≤ 64 := by
    have := (mem_exts hmem).2.2.1
    rw [List.length_map]; simp at this; omega
   clear q hr hno hpre hO ht hK hmem
   gi_wp2_with fail
   refine ⟨trivial, ?_⟩
   refine (CallsIn.inRound l ((callsIn_wide (n := _)).2 CI.out)).mono ?_
   rintro e w5 ⟨⟨X, hX, rfl⟩, hb5⟩
   have z5 := zero_block w5
   have hb6 : Below W.heap.size W ((w5.alloc (.cells #[.int .u64 0, .int .u64 0, .int .u64 0, .int .u64 0, .int .u64 0, .int .u64 0, .int .u64 0, .int .u64 0, .int .u64 0, .int .u64 0, .int .u64 0, .int .u64 0, .int .u64 0, .int .u64 0, .int .u64 0, .int .u64 0, .int .u64 0, .int .u64 0, .int .u64 0, .int .u64 0, .int .u64 0, .int .u64 0, .int .u64 0, .int .u64 0, .int .u64 0, .int .u64 0, .int .u64 0, .int .u64 0, .int .u64 0, .int .u64 0, .int .u64 0, .int .u64 0, .int .u64 0, .int .u64 0, .int .u64 0, .int .u64 0, .int .u64 0, .int .u64 0, .int .u64 0, .int .u64 0, .int .u64 0, .int .u64 0, .int .u64 0, .int .u64 0, .int .u64 0, .int .u64 0, .int .u64 0, .int .u64 0, .int .u64 0, .int .u64 0, .int .u64 0, .int .u64 0, .int .u64 0, .int .u64 0, .int .u64 0, .int .u64 0, .int .u64 0, .int .u64 0, .int .u64 0, .int .u64 0, .int .u64 0, .int .u64 0, .int .u64 0, .int .u64 0] 117)).setRow w5.heap.size (rowsA X)) := below_setRow (below_then hb5 (box_below w5 (.cells #[.int .u64 0, .int .u64 0, .int .u64 0, .int .u64 0, .int .u64 0, .int .u64 0, .int .u64 0, .int .u64 0, .int .u64 0, .int .u64 0, .int .u64 0, .int .u64 0, .int .u64 0, .int .u64 0, .int .u64 0, .int .u64 0, .int .u64 0, .int .u64 0, .int .u64 0, .int .u64 0, .int .u64 0, .int .u64 0, .int .u64 0, .int .u64 0, .int .u64 0, .int .u64 0, .int .u64 0, .int .u64 0, .int .u64 0, .int .u64 0, .int .u64 0, .int .u64 0, .int .u64 0, .int .u64 0, .int .u64 0, .int .u64 0, .int .u64 0, .int .u64 0, .int .u64 0, .int .u64 0, .int .u64 0, .int .u64 0, .int .u64 0, .int .u64 0, .int .u64 0, .int .u64 0, .int .u64 0, .int .u64 0, .int .u64 0, .int .u64 0, .int .u64 0, .int .u64 0, .int .u64 0, .int .u64 0, .int .u64 0, .int .u64 0, .int .u64 0, .int .u64 0, .int .u64 0, .int .u64 0, .int .u64 0, .int .u64 0, .int .u64 0, .int .u64 0] 117))) hb5.size (rowsA X)
   have HQ6 := hid (HQ.out.below hb6 (Nat.le_trans hs (by omega)))
   have HK6 : Hid (KeepsHi W4.heap.size W ((w5.alloc (.cells #[.int .u64 0, .int .u64 0, .int .u64 0, .int .u64 0, .int .u64 0, .int .u64 0, .int .u64 0, .int .u64 0, .int .u64 0, .int .u64 0, .int .u64 0, .int .u64 0, .int .u64 0, .int .u64 0, .int .u64 0, .int .u64 0, .int .u64 0, .int .u64 0, .int .u64 0, .int .u64 0, .int .u64 0, .int .u64 0, .int .u64 0, .int .u64 0, .int .u64 0, .int .u64 0, .int .u64 0, .int .u64 0, .int .u64 0, .int .u64 0, .int .u64 0, .int .u64 0, .int .u64 0, .int .u64 0, .int .u64 0, .int .u64 0, .int .u64 0, .int .u64 0, .int .u64 0, .int .u64 0, .int .u64 0, .int .u64 0, .int .u64 0, .int .u64 0, .int .u64 0, .int .u64 0, .int .u64 0, .int .u64 0, .int .u64 0, .int .u64 0, .int .u64 0, .int .u64 0, .int .u64 0, .int .u64 0, .int .u64 0, .int .u64 0, .int .u64 0, .int .u64 0, .int .u64 0, .int .u64 0, .int .u64 0, .int .u64 0, .int .u64 0, .int .u64 0] 117)).setRow w5.heap.size (rowsA X))) := hid (KeepsHi.of_below hb6)
   cases hk : keptL h lv r with
   | false =>
    have HKF := hid hk
    clear hb5 hb6 CI hk
    gi_wp2_with (with_reducible refine wpListIn_store_rel z5 X rfl _ _ rfl rfl rfl ?_)
    refine ⟨HK6.out, HQ6.out, fun x hx => ?_⟩
    rcases List.mem_append.1 hx with hx | hx
    ·exact HNO.out x hx
    ·rw [List.mem_singleton.1 hx]; exact HKF.out
   | true =>
    have HX := hid (hX hk)
    have HKT := hid hk
    have r7 : RelAt ((w5.alloc (.cells #[.int .u64 0, .int .u64 0, .int .u64 0, .int .u64 0, .int .u64 0, .int .u64 0, .int .u64 0, .int .u64 0, .int .u64 0, .int .u64 0, .int .u64 0, .int .u64 0, .int .u64 0, .int .u64 0, .int .u64 0, .int .u64 0, .int .u64 0, .int .u64 0, .int .u64 0, .int .u64 0, .int .u64 0, .int .u64 0, .int .u64 0, .int .u64 0, .int .u64 0, .int .u64 0, .int .u64 0, .int .u64 0, .int .u64 0, .int .u64 0, .int .u64 0, .int .u64 0, .int .u64 0, .int .u64 0, .int .u64 0, .int .u64 0, .int .u64 0, .int .u64 0, .int .u64 0, .int .u64 0, .int .u64 0, .int .u64 0, .int .u64 0, .int .u64 0, .int .u64 0, .int .u64 0, .int .u64 0, .int .u64 0, .int .u64 0, .int .u64 0, .int .u64 0, .int .u64 0, .int .u64 0, .int .u64 0, .int .u64 0, .int .u64 0, .int .u64 0, .int .u64 0, .int .u64 0, .int .u64 0, .int .u64 0, .int .u64 0, .int .u64 0, .int .u64 0] 117)).setRow w5.heap.size (rowsA X)) w5.heap.size 117 X := z5.setRow X
    have CW := hid (awitness_own v (r.map Int.ofNat) X ((w5.alloc (.cells #[.int .u64 0, .int .u64 0, .int .u64 0, .int .u64 0, .int .u64 0, .int .u64 0, .int .u64 0, .int .u64 0, .int .u64 0, .int .u64 0, .int .u64 0, .int .u64 0, .int .u64 0, .int .u64 0, .int .u64 0, .int .u64 0, .int .u64 0, .int .u64 0, .int .u64 0, .int .u64 0, .int .u64 0, .int .u64 0, .int .u64 0, .int .u64 0, .int .u64 0, .int .u64 0, .int .u64 0, .int .u64 0, .int .u64 0, .int .u64 0, .int .u64 0, .int .u64 0, .int .u64 0, .int .u64 0, .int .u64 0, .int .u64 0, .int .u64 0, .int .u64 0, .int .u64 0, .int .u64 0, .int .u64 0, .int .u64 0, .int .u64 0, .int .u64 0, .int .u64 0, .int .u64 0, .int .u64 0, .int .u64 0, .int .u64 0, .int .u64 0, .int .u64 0, .int .u64 0, .int .u64 0, .int .u64 0, .int .u64 0, .int .u64 0, .int .u64 0, .int .u64 0, .int .u64 0, .int .u64 0, .int .u64 0, .int .u64 0, .int .u64 0, .int .u64 0] 117)).setRow w5.heap.size (rowsA X)) (HT.out _ hb6) (HR.out.1.below hb6) hl64)
    have hsz7 : w.heap.size + 6 ≤ (((w5.alloc (.cells #[.int .u64 0, .int .u64 0, .int .u64 0, .int .u64 0, .int .u64 0, .int .u64 0, .int .u64 0, .int .u64 0, .int .u64 0, .int .u64 0, .int .u64 0, .int .u64 0, .int .u64 0, .int .u64 0, .int .u64 0, .int .u64 0, .int .u64 0, .int .u64 0, .int .u64 0, .int .u64 0, .int .u64 0, .int .u64 0, .int .u64 0, .int .u64 0, .int .u64 0, .int .u64 0, .int .u64 0, .int .u64 0, .int .u64 0, .int .u64 0, .int .u64 0, .int .u64 0, .int .u64 0, .int .u64 0, .int .u64 0, .int .u64 0, .int .u64 0, .int .u64 0, .int .u64 0, .int .u64 0, .int .u64 0, .int .u64 0, .int .u64 0, .int .u64 0, .int .u64 0, .int .u64 0, .int .u64 0, .int .u64 0, .int .u64 0, .int .u64 0, .int .u64 0, .int .u64 0, .int .u64 0, .int .u64 0, .int .u64 0, .int .u64 0, .int .u64 0, .int .u64 0, .int .u64 0, .int .u64 0, .int .u64 0, .int .u64 0, .int .u64 0, .int .u64 0] 117)).setRow w5.heap.size (rowsA X))).heap.size := Nat.le_trans (by omega) hb6.size
    clear hb5 hb6 CI hk hX
    gi_wp2_with (first
     | (with_reducible refine wpListIn_store_rel z5 X rfl _ _ rfl rfl rfl ?_)
     | (with_reducible refine wpListIn_load_rel r7 rfl _ rfl rfl ?_))
    refine ⟨trivial, ?_⟩
    refine (CallsIn.inRound l ((callsIn_wide (n := _)).2 CW.out)).mono ?_
    rintro e w8 ⟨⟨vo, vs, K, rfl, ho8, hk8, hK8⟩, hb8⟩
    obtain ⟨oo, oc, rfl⟩ := owns_form ho8
    obtain ⟨so, sc, rfl⟩ := owns_form hk8.kr
    have q8 := HQ6.out.below hb8 hsz7
    have HP := hid (q8.put (.slice oo (r.map Int.ofNat).length oc) (.slice so K.length sc) (.bool true) (.bool true))
    have HK8 : Hid (KeepsHi W4.heap.size W w8) := hid (HK6.out.trans (KeepsHi.of_below hb8))
    have HKK := hid (keeps_four (s := w.heap.size) (D := W4.heap.size) w8 (.slice oo (r.map Int.ofNat).length oc) (.slice so K.length sc) (.bool true) (.bool true) hs)
    have HO8 := hid (own_four ho8 hsz7 (.slice oo (r.map Int.ofNat).length oc) (.slice so K.length sc) (.bool true) (.bool true))
    have HL8 := hid (hk8.four hsz7 (.slice oo (r.map Int.ofNat).length oc) (.slice so K.length sc) (.bool true) (.bool true))
    have c2 := q8.c2
    have d2 := q8.d2
    have c3 := q8.c3
    have c4 := q8.c4
    have f2 := q8.f2
    have g2 := q8.g2
    have f3 := q8.f3
    have f4 := q8.f4
    have HKM := hid hK8
    clear q8 ho8 hk8 hK8 hb8 z5 r7
    rw [List.length_map] at HP HKK HO8 HL8
    gi_wp2
    exact ⟨HK8.out.trans HKK.out, ⟨⟨pre, r, _, _, X, rfl, HNO.out, HKT.out, HP.out, HX.out, Ints.of_owns HO8.out, by rw [← HKM.out]; exact HL8.out.lists⟩⟩⟩
  case done =>
   intro W q hK
   obtain ⟨q, hno⟩ := q
   have HD := hid (fun w => dec_none (w := w) h8 (find_none hno))
   have hDW := (Array.getElem?_eq_some_iff.1 hK).1
   have HKK := hid (keeps_four (s := w.heap.size) (D := W4.heap.size) W (.slice none 0 0) (.slice none 0 0) (.bool false) (.bool true) hs)
   have HP := hid (q.put (.slice none 0 0) (.slice none 0 0) (.bool false) (.bool true))
   have c2 := q.c2
   have d2 := q.d2
   have c3 := q.c3
   have c4 := q.c4
   have f2 := q.f2
   have g2 := q.g2
   have f3 := q.f3
   have f4 := q.f4
   clear q hno
   gi_wp2
   have hK4 := (HKK.out.same W4.heap.size (Nat.le_refl _) hDW).trans hK
   have HP2 := HP.out.below (D := W4.heap.size) ((Below.refl _ _).grown (grownBy_putObj' _ W4.heap.size (.deferred none)) (by have := HKK.out.size; omega) (fun j e => by cases e; exact Nat.le_refl _)) hs
   refine ⟨by simp, .inl ⟨_, _, rfl, run_takeDeferred hK4, ?_⟩⟩
   exact ⟨_, results_dec rfl _ _ _ _ _ _ _ _ _ rfl rfl rfl HP2.c2 HP2.d2 HP2.c3 HP2.c4, ⟨_, rfl, HD.out _⟩, HP2.bel⟩
  case stop =>
   intro pre W hpre q hK
   obtain ⟨p, r, vo, vs, X, rfl, a2, a3, a4, a5, a6, a7⟩ := (q.put (o := .deferred none) hK rfl hs).ex
   gi_wp2
   refine ⟨by simp, .inl ⟨_, _, rfl, run_takeDeferred hK, ?_⟩⟩
   exact ⟨_, results_dec rfl _ _ _ _ _ _ _ _ _ rfl rfl rfl a4.c2 a4.d2 a4.c3 a4.c4, ⟨_, rfl, dec_some h8 (find_first hpre a2 a3) a5 a6 a7⟩, a4.bel⟩
 ·have h8i : (8 : Int) < (h.length : Int) := by omega
  have HD := hid (fun w => dec_many (h := h) (lv := lv) (w := w) h8)
  clear h8
  go_enter Tryz.func36, Tryz.ntmps36
  obtain ⟨q6, _, _⟩ := HQ.out
  have b56 := box_below (((((w.alloc (.cells #[.pointer (some ⟨B, 0, none⟩)] 31)).alloc (.cells #[.int .i64 lv] 60)).alloc (.cells #[.slice none 0 0, .slice none 0 0] 37)).alloc (.cells #[.bool false] 4)).alloc (.cells #[.bool false] 4)) (.cells #[.int .i64 (h.length : Int)] 3)
  have hs5 : (((((w.alloc (.cells #[.pointer (some ⟨B, 0, none⟩)] 31)).alloc (.cells #[.int .i64 lv] 60)).alloc (.cells #[.slice none 0 0, .slice none 0 0] 37)).alloc (.cells #[.bool false] 4)).alloc (.cells #[.bool false] 4)).heap.size = w.heap.size + 5 := by simp
  have c2 := (b56.cell (p := ⟨w.heap.size + 1 + 1, 0, none⟩) (by rw [hs5]; show w.heap.size + 1 + 1 < _; omega)).symm.trans q6.c2
  have d2 := (b56.cell (p := ⟨w.heap.size + 1 + 1, 1, none⟩) (by rw [hs5]; show w.heap.size + 1 + 1 < _; omega)).symm.trans q6.d2
  have c3 := (b56.cell (p := ⟨w.heap.size + 1 + 1 + 1, 0, none⟩) (by rw [hs5]; show w.heap.size + 1 + 1 + 1 < _; omega)).symm.trans q6.c3
  have c4 := (b56.cell (p := ⟨w.heap.size + 1 + 1 + 1 + 1, 0, none⟩) (by rw [hs5]; show w.heap.size + 1 + 1 + 1 + 1 < _; omega)).symm.trans q6.c4
  have H2 := hid c2
  have H3 := hid d2
  have H4 := hid c3
  have H5 := hid c4
  clear c2 d2 c3 c4 q6 b56 hs5
  go_wp2_with fail
  exact bodyPost_ret (results_dec rfl _ _ _ _ _ _ _ _ _ rfl rfl rfl H2.out H3.out H4.out H5.out) rfl ⟨⟨_, rfl, HD.out _⟩, hb5⟩
end

section
open Go.RowKit
theorem txns_none (w : World) : Txns w (.slice none 0 0) [] := ⟨⟨rfl, none, 0, rfl, ⟨Nat.le_refl _, Nat.zero_le _⟩, fun _ => ⟨rfl, rfl⟩, fun h => absurd h (by simp)⟩, fun t ht => by cases ht⟩
theorem lone_any (w : World) : Calls Tryz.prog 32 #[] w fun e w' => e = .returned (.bool true) ∧ Below w.heap.size w w' := by
 have CO := hid (of_done (.slice none 0 0) [] w (txns_none w) (fun t ht => by cases ht) (fun t ht => by cases ht) rfl)
 go_enter Tryz.func32, Tryz.ntmps32
 go_wp2_with fail
 refine (CO.out).mono ?_
 rintro e w1 ⟨⟨B, rfl, hB, hO⟩, hb⟩
 have n0 : w1.cell? ⟨B, 196, none⟩ = some (.bool true) := hO.blk.cS
 have n1 : w1.cell? ⟨B, 0, none⟩ = some (.int .i64 0) := hO.blk.cN
 clear CO hO
 go_wp2_with fail
 go_ret
 exact ⟨rfl, hb⟩
end

section
open Go.RowKit
theorem allT_rowG {h : List TxnV} {C : Nat} (h64 : h.length ≤ 64) : ∀ (l r : List Nat), RowG h C r → allT h C r l = true → RowG h C (l.reverse ++ r)
 | [], r, g, _ => by simpa using g
 | i :: l, r, g, ha => by
  unfold allT at ha
  rw [Bool.and_eq_true] at ha
  have := allT_rowG h64 l (i :: r) (g.push h64 ha.1) ha.2
  rw [List.reverse_cons, List.append_assoc]; exact this
theorem decW_some {h : List TxnV} {lv : Int} (hc : checkI h = 0) : (decW h lv).2.2 = ((ordersN h.length).find? (keptL h lv)).isSome := by
 rw [decW_yes, ← dec_first hc, Option.isSome_map]
theorem dec_same {h : List TxnV} {lv : Int} {r : List Nat} {X : Mat} (hc : checkI h = 0) (hf : (ordersN h.length).find? (keptL h lv) = some r) (hX : LeastIs h (askN lv) (r.map Int.ofNat) X) : (decW h lv).1 = r.map Int.ofNat ∧ (decW h lv).2.1 = seesL X h.length := by
 have h64 := (check_zero hc).1
 have hk := List.find?_some hf
 have hp := orders_perm (List.mem_of_find?_eq_some hf)
 rw [← dec_first hc] at hf
 cases hd : (decN h lv).1 with
 | none => rw [hd] at hf; cases hf
 | some rr =>
  rw [hd, Option.map_some] at hf
  have hr : rr.reverse = r := by injection hf
  have hr2 : rr = r.reverse := by rw [← hr, List.reverse_reverse]
  unfold decW
  rw [hd]
  refine ⟨by show rr.reverse.map Int.ofNat = _; rw [hr], ?_⟩
  show seesL (seesR h (clI ((askN lv : Nat) : Int)) rr) h.length = _
  have hC : clI ((askN lv : Nat) : Int) < 9223372036854775808 := by have := clI_lt ((askN lv : Nat) : Int); omega
  have hall : allT h (clI ((askN lv : Nat) : Int)) [] r = true := by
   unfold keptL at hk
   simp only [Bool.and_eq_true] at hk
   exact hk.2.2
  have g : RowG h (clI ((askN lv : Nat) : Int)) rr := by
   have := allT_rowG h64 r [] RowG.nil hall
   rw [List.append_nil] at this
   rw [hr2]; exact this
  have hS := sees_least g hC (fun k hk => by rw [hr2]; exact List.mem_reverse.2 (hp.mem_iff.2 (List.mem_range.2 hk)))
  rw [hr] at hS
  have hx : askN lv < 9223372036854775808 := by
   unfold askN
   split
   ·next hlv => exact Nat.lt_trans (askAt_lt ⟨lv.toNat, by unfold isLv at hlv; simp at hlv; omega⟩) (by decide)
   ·decide
  have hin : inM X (chainR (r.map Int.ofNat)) = true := by
   have hk2 := hk
   rw [← kept_holds hc lv hp hX] at hk2
   unfold holdsB at hk2
   simp only [Bool.and_eq_true] at hk2
   have := hk2.2.2.1
   unfold rightM at this
   simp only [Bool.and_eq_true] at this
   exact this.2.1
  have hnd : (r.map Int.ofNat).Nodup := by
   have h1 : r.Nodup := hp.nodup_iff.2 List.nodup_range
   exact h1.map _ (fun a b hab e => hab (Int.ofNat.inj e))
  have he := least_closed hc hnd hx hX hS hin
  unfold seesL
  refine List.map_congr_left fun i hi => ?_
  have hi := List.mem_range.1 hi
  rw [seeTo_congr (fun a b ha hb => (rowsA_inj he a b ha hb).symm) (show i < 64 by omega)]
end

section
open Go.RowKit
structure IsoT (n : Nat) (π ρ : Nat → Nat) : Prop where
 lt : ∀ j, j < n → π j < n
 tl : ∀ j, j < n → ρ j < n
 pr : ∀ j, j < n → π (ρ j) = j
 rp : ∀ j, j < n → ρ (π j) = j
def IsoS (n : Nat) (π : Nat → Nat) (s t : Nat) : Prop := (∀ j, s.testBit j = true → j < n) ∧ (∀ j, t.testBit j = true → j < n) ∧ ∀ j, j < n → s.testBit j = t.testBit (π j)
section
variable {n : Nat} {π ρ : Nat → Nat}
theorem IsoT.inj (q : IsoT n π ρ) {i j : Nat} (hi : i < n) (hj : j < n) (e : π i = π j) : i = j := by rw [← q.rp i hi, ← q.rp j hj, e]
theorem IsoS.zero : IsoS n π 0 0 := ⟨fun j h => by simp at h, fun j h => by simp at h, fun j _ => by simp⟩
theorem IsoS.and {s t s' t' : Nat} (a : IsoS n π s t) (b : IsoS n π s' t') : IsoS n π (s &&& s') (t &&& t') := by
 refine ⟨fun j h => ?_, fun j h => ?_, fun j hj => ?_⟩
 ·rw [Nat.testBit_and, Bool.and_eq_true] at h; exact a.1 j h.1
 ·rw [Nat.testBit_and, Bool.and_eq_true] at h; exact a.2.1 j h.1
 ·rw [Nat.testBit_and, Nat.testBit_and, a.2.2 j hj, b.2.2 j hj]
theorem IsoS.sub {s t s' t' : Nat} (q : IsoT n π ρ) (a : IsoS n π s t) (b : IsoS n π s' t') : (∀ k, s.testBit k = true → s'.testBit k = true) ↔ (∀ k, t.testBit k = true → t'.testBit k = true) := by
 constructor
 ·intro h k hk
  have hkn := a.2.1 k hk
  have := h (ρ k) (by rw [a.2.2 _ (q.tl k hkn), q.pr k hkn]; exact hk)
  rw [b.2.2 _ (q.tl k hkn), q.pr k hkn] at this; exact this
 ·intro h k hk
  have hkn := a.1 k hk
  rw [b.2.2 k hkn]
  exact h (π k) (by rw [← a.2.2 k hkn]; exact hk)
theorem IsoS.none {s t : Nat} (q : IsoT n π ρ) (a : IsoS n π s t) : s = 0 ↔ t = 0 := by
 have h := IsoS.sub q a (IsoS.zero (n := n) (π := π))
 have z : ∀ s : Nat, s = 0 ↔ ∀ k, s.testBit k = true → (0 : Nat).testBit k = true := fun s => by
  constructor
  ·rintro rfl k hk; exact hk
  ·intro hk
   apply Nat.eq_of_testBit_eq
   intro i
   cases e : s.testBit i with
   | false => simp
   | true => exact (hk i e).symm
 rw [z s, z t, h]
theorem IsoS.row (q : IsoT n π ρ) (hn : n ≤ 64) {r : List Nat} (hr : ∀ i ∈ r, i < n) : IsoS n π (plS r) (plS (r.map π)) := by
 have h1 : ∀ i ∈ r, i < 64 := fun i hi => by have := hr i hi; omega
 have h2 : ∀ i ∈ r.map π, i < 64 := fun i hi => by
  obtain ⟨k, hk, rfl⟩ := List.mem_map.1 hi
  have := q.lt k (hr k hk); omega
 refine ⟨fun j h => ?_, fun j h => ?_, fun j hj => ?_⟩
 ·rw [plS_bit j r h1, decide_eq_true_eq] at h; exact hr j h
 ·rw [plS_bit j _ h2, decide_eq_true_eq] at h
  obtain ⟨k, hk, rfl⟩ := List.mem_map.1 h
  exact q.lt k (hr k hk)
 ·rw [plS_bit j r h1, plS_bit _ _ h2, Bool.eq_iff_iff, decide_eq_true_eq, decide_eq_true_eq, List.mem_map]
  exact ⟨fun h => ⟨j, h, rfl⟩, fun ⟨k, hk, e⟩ => by rw [← q.inj (hr k hk) hj e]; exact hk⟩
theorem IsoS.ahead (q : IsoT n π ρ) (hn : n ≤ 64) : ∀ {r : List Nat}, (∀ i ∈ r, i < n) → ∀ k, k < n → IsoS n π (aheadL r k) (aheadL (r.map π) (π k))
 | [], _, _, _ => IsoS.zero
 | i :: r, hr, k, hk => by
  have hi := hr i (List.mem_cons_self ..)
  have hr' : ∀ a ∈ r, a < n := fun a ha => hr a (List.mem_cons_of_mem _ ha)
  rw [List.map_cons]
  unfold aheadL
  by_cases e : k = i
  ·rw [if_pos e, if_pos (by rw [e])]; exact IsoS.row q hn hr'
  ·rw [if_neg e, if_neg (fun e2 => e (q.inj hk hi e2))]
   exact IsoS.ahead q hn hr' k hk
theorem IsoS.put {s t : Nat} (q : IsoT n π ρ) (hn : n ≤ 64) (a : IsoS n π s t) {k : Nat} (hk : k < n) : IsoS n π (withS s (k : Int)) (withS t ((π k : Nat) : Int)) := by
 have hp := q.lt k hk
 have e : ∀ (s j m : Nat), m < 64 → ((withS s (m : Int)).testBit j = true ↔ s.testBit j = true ∨ m = j) := fun s j m hm => by
  rw [testBit_withS, Bool.or_eq_true, Bool.and_eq_true, decide_eq_true_eq, decide_eq_true_eq, Int.toNat_natCast]
  exact or_congr Iff.rfl ⟨fun h => h.2, fun h => ⟨⟨by omega, by omega⟩, h⟩⟩
 refine ⟨fun j h => ?_, fun j h => ?_, fun j hj => ?_⟩
 ·rw [e _ _ _ (by omega)] at h
  rcases h with h | rfl
  ·exact a.1 j h
  ·exact hk
 ·rw [e _ _ _ (by omega)] at h
  rcases h with h | rfl
  ·exact a.2.1 j h
  ·exact hp
 ·rw [Bool.eq_iff_iff, e _ _ _ (by omega), e _ _ _ (by omega), a.2.2 j hj]
  exact or_congr Iff.rfl ⟨fun h => by rw [h], fun h => q.inj hk hj h⟩
end
section
variable {h x : List TxnV} {C : Nat} {π ρ : Nat → Nat}
end
theorem exts_has {many : Nat} {x : List Nat} (hnd : x.Nodup) (hlt : ∀ i ∈ x, i < many) : ∀ (k : Nat) (r : List Nat), r <+: x → x.length = r.length + k → x ∈ exts many k r
 | 0, r, hp, hl => by
  have : r = x := hp.eq_of_length (by omega)
  subst this
  unfold exts; exact List.mem_singleton.2 rfl
 | k + 1, r, hp, hl => by
  obtain ⟨t, rfl⟩ := hp
  cases t with
  | nil => simp at hl
  | cons a t =>
   unfold exts
   rw [List.mem_flatMap]
   refine ⟨a, List.mem_range.2 (hlt a (by simp)), ?_⟩
   have ha : a ∉ r := fun h => (List.nodup_append.1 hnd).2.2 a h a (by simp) rfl
   rw [if_neg ha]
   exact exts_has hnd hlt k (r ++ [a]) ⟨t, by simp⟩ (by simp at hl ⊢; omega)
theorem orders_has {n : Nat} {x : List Nat} (hp : x.Perm (List.range n)) : x ∈ ordersN n :=
 exts_has (hp.nodup_iff.2 List.nodup_range) (fun i hi => List.mem_range.1 (hp.mem_iff.1 hi)) n [] ⟨x, rfl⟩ (by rw [hp.length_eq]; simp)
theorem turn_perm {n : Nat} {π ρ : Nat → Nat} (q : IsoT n π ρ) {r : List Nat} (hp : r.Perm (List.range n)) : (r.map π).Perm (List.range n) := by
 have hnd := hp.nodup_iff.2 List.nodup_range
 have hlt : ∀ i ∈ r, i < n := fun i hi => List.mem_range.1 (hp.mem_iff.1 hi)
 refine perm_range ?_ ?_ (by rw [List.length_map, hp.length_eq]; simp)
 ·rw [List.nodup_iff_pairwise_ne, List.pairwise_map]
  exact (List.nodup_iff_pairwise_ne.1 hnd).imp_of_mem fun ha hb hne e => hne (q.inj (hlt _ ha) (hlt _ hb) e)
 ·intro i hi
  obtain ⟨k, hk, rfl⟩ := List.mem_map.1 hi
  exact q.lt k (hlt k hk)
end

section
open Go.RowKit
def renO (κ ν : Int → Int) (o : OpV) : OpV := ⟨o.wr, κ o.key, ν o.val⟩
def KeyIn (h : List TxnV) (k : Int) : Prop := ∃ t ∈ h, ∃ o ∈ t.l, o.key = k
def ValIn (h : List TxnV) (v : Int) : Prop := v = 0 ∨ ∃ t ∈ h, ∃ o ∈ t.l, o.val = v
theorem find_alike {α : Type} {p q : α → Bool} : ∀ (l : List α), (∀ a ∈ l, p a = q a) → l.find? p = l.find? q
 | [], _ => rfl
 | a :: l, h => by
  have h1 := h a (List.mem_cons_self ..)
  have h2 := find_alike l fun b hb => h b (List.mem_cons_of_mem _ hb)
  rw [List.find?_cons, List.find?_cons, h1, h2]
section
variable {κ ν : Int → Int} {l : List OpV} {K V : Int → Prop}
theorem ren_first (hk : ∀ a b, K a → K b → κ a = κ b → a = b) (hl : ∀ o ∈ l, K o.key) {k : Int} (hK : K k) : firstO (l.map (renO κ ν)) (κ k) = (firstO l k).map (renO κ ν) := by
 unfold firstO
 rw [List.find?_map]
 congr 1
 refine find_alike _ fun o ho => ?_
 show (κ o.key == κ k) = (o.key == k)
 rw [Bool.eq_iff_iff, beq_iff_eq, beq_iff_eq]
 exact ⟨hk _ _ (hl o ho) hK, fun e => by rw [e]⟩
theorem ren_lastW (hk : ∀ a b, K a → K b → κ a = κ b → a = b) (hl : ∀ o ∈ l, K o.key) {k : Int} (hK : K k) : lastW (l.map (renO κ ν)) (κ k) = (lastW l k).map (renO κ ν) := by
 unfold lastW
 rw [List.filter_map, List.getLast?_map]
 congr 2
 refine List.filter_congr fun o ho => ?_
 show (o.wr && (κ o.key == κ k)) = (o.wr && (o.key == k))
 congr 1
 rw [Bool.eq_iff_iff, beq_iff_eq, beq_iff_eq]
 exact ⟨hk _ _ (hl o ho) hK, fun e => by rw [e]⟩
theorem ren_lastO (hk : ∀ a b, K a → K b → κ a = κ b → a = b) (hl : ∀ o ∈ l, K o.key) {k : Int} (hK : K k) : lastO (l.map (renO κ ν)) (κ k) = (lastO l k).map (renO κ ν) := by
 unfold lastO
 rw [List.filter_map, List.getLast?_map]
 congr 2
 refine List.filter_congr fun o ho => ?_
 show (κ o.key == κ k) = (o.key == k)
 rw [Bool.eq_iff_iff, beq_iff_eq, beq_iff_eq]
 exact ⟨hk _ _ (hl o ho) hK, fun e => by rw [e]⟩
theorem ren_steady (hk : ∀ a b, K a → K b → κ a = κ b → a = b) (hl : ∀ o ∈ l, K o.key) (hv : ∀ a b, V a → V b → ν a = ν b → a = b) (hlv : ∀ o ∈ l, V o.val) : steadyL (l.map (renO κ ν)) = steadyL l := by
 unfold steadyL
 rw [List.length_map]
 refine all_congr _ fun k hkr => ?_
 have hkl := List.mem_range.1 hkr
 have hm := List.getElem_mem hkl
 rw [stOk_at (by rw [List.length_map]; exact hkl), stOk_at hkl, List.getElem_map, ← List.map_take]
 have e : lastO ((l.take k).map (renO κ ν)) (renO κ ν l[k]).key = (lastO (l.take k) l[k].key).map (renO κ ν) := ren_lastO hk (fun o ho => hl o (List.mem_of_mem_take ho)) (hl _ hm)
 rw [e]
 cases hh : lastO (l.take k) l[k].key with
 | none => rfl
 | some p =>
  have hp := List.mem_of_mem_take (lastO_key hh).2
  show (l[k].wr || (ν l[k].val == ν p.val)) = (l[k].wr || (l[k].val == p.val))
  congr 1
  rw [Bool.eq_iff_iff, beq_iff_eq, beq_iff_eq]
  exact ⟨hv _ _ (hlv _ hm) (hlv p hp), fun e => by rw [e]⟩
theorem ren_reads (hk : ∀ a b, K a → K b → κ a = κ b → a = b) (hl : ∀ o ∈ l, K o.key) (hkl : keysIn l) (hkx : keysIn (l.map (renO κ ν))) {o : OpV} : o ∈ refReads (l.map (renO κ ν)) ↔ ∃ p ∈ refReads l, o = renO κ ν p := by
 rw [(refReads_rise hkx).2]
 constructor
 ·rintro ⟨h1, h2⟩
  obtain ⟨p, hp, rfl⟩ := List.mem_map.1 (firstO_key h1).2
  change firstO _ (κ p.key) = _ at h1
  rw [ren_first hk hl (hl p hp)] at h1
  cases hf : firstO l p.key with
  | none => rw [hf] at h1; cases h1
  | some q =>
   rw [hf] at h1
   have hq := firstO_key hf
   have e := Option.some.inj h1
   exact ⟨q, ((refReads_rise hkl).2 q).2 ⟨by rw [hq.1]; exact hf, (congrArg OpV.wr e).trans h2⟩, e.symm⟩
 ·rintro ⟨p, hp, rfl⟩
  obtain ⟨h1, h2⟩ := ((refReads_rise hkl).2 p).1 hp
  refine ⟨?_, h2⟩
  show firstO _ (κ p.key) = _
  rw [ren_first hk hl (hl p (firstO_key h1).2), h1]; rfl
theorem ren_writes (hk : ∀ a b, K a → K b → κ a = κ b → a = b) (hl : ∀ o ∈ l, K o.key) (hkl : keysIn l) (hkx : keysIn (l.map (renO κ ν))) {o : OpV} : o ∈ refWrites (l.map (renO κ ν)) ↔ ∃ p ∈ refWrites l, o = renO κ ν p := by
 rw [(refWrites_rise hkx).2]
 constructor
 ·rintro ⟨h1, h2⟩
  obtain ⟨p, hp, rfl⟩ := List.mem_map.1 (lastW_key h1).2.2
  change lastW _ (κ p.key) = _ at h1
  rw [ren_lastW hk hl (hl p hp)] at h1
  cases hf : lastW l p.key with
  | none => rw [hf] at h1; cases h1
  | some q =>
   rw [hf] at h1
   have hq := lastW_key hf
   have e := Option.some.inj h1
   exact ⟨q, ((refWrites_rise hkl).2 q).2 ⟨by rw [hq.1]; exact hf, hq.2.1⟩, e.symm⟩
 ·rintro ⟨p, hp, rfl⟩
  obtain ⟨h1, h2⟩ := ((refWrites_rise hkl).2 p).1 hp
  refine ⟨?_, h2⟩
  show lastW _ (κ p.key) = _
  rw [ren_lastW hk hl (hl p (lastW_key h1).2.2), h1]; rfl
theorem vOf_last (hkl : keysIn l) {o : OpV} (ho : o ∈ l) (wo : o.wr = true) : ∃ p ∈ l, lastW l o.key = some p ∧ vOf l o.key = p.val := by
 have h0 := lastW_some l wo l.length (Nat.le_refl _) (by rw [List.take_length]; exact ho)
 rw [List.take_length] at h0
 obtain ⟨p, hp⟩ := Option.isSome_iff_exists.1 h0
 have hpk := lastW_key hp
 refine ⟨p, hpk.2.2, hp, ?_⟩
 have hm : p ∈ refWrites l := ((refWrites_rise hkl).2 p).2 ⟨by rw [hpk.1]; exact hp, hpk.2.1⟩
 unfold vOf
 cases hf : (refWrites l).find? (fun q => q.key == o.key) with
 | none => have := List.find?_eq_none.1 hf p hm; simp [hpk.1] at this
 | some q =>
  have hq := List.mem_of_find?_eq_some hf
  have hqk : q.key = o.key := by simpa using List.find?_some hf
  have h2 := ((refWrites_rise hkl).2 q).1 hq
  rw [hqk, hp] at h2
  obtain rfl := Option.some.inj h2.1
  rfl
theorem ren_vOf (hk : ∀ a b, K a → K b → κ a = κ b → a = b) (hl : ∀ o ∈ l, K o.key) (hv : ∀ a b, V a → V b → ν a = ν b → a = b) (hlv : ∀ o ∈ l, V o.val) (hkl : keysIn l) (hkx : keysIn (l.map (renO κ ν))) {o : OpV} (ho : o ∈ l) (wo : o.wr = true) {v : Int} (hV : V v) : (vOf (l.map (renO κ ν)) (κ o.key) == ν v) = (vOf l o.key == v) := by
 obtain ⟨p, hp, h1, h2⟩ := vOf_last hkl ho wo
 obtain ⟨p2, hp2, h3, h4⟩ := vOf_last hkx (List.mem_map_of_mem ho) wo
 have e : lastW (l.map (renO κ ν)) (κ o.key) = some p2 := h3
 rw [ren_lastW hk hl (hl o ho), h1] at e
 obtain rfl := Option.some.inj e
 have h5 : vOf (l.map (renO κ ν)) (κ o.key) = ν p.val := h4
 rw [h5, h2, Bool.eq_iff_iff, beq_iff_eq, beq_iff_eq]
 exact ⟨hv _ _ (hlv p hp) hV, fun e => by rw [e]⟩
end
structure Ren (h x : List TxnV) (π ρ : Nat → Nat) (κ ν : Int → Int) : Prop where
 len : x.length = h.length
 turn : IsoT h.length π ρ
 ops : ∀ j, j < h.length → opsAt x j = (opsAt h (π j)).map (renO κ ν)
 key : ∀ a b, KeyIn h a → KeyIn h b → κ a = κ b → a = b
 val : ∀ a b, ValIn h a → ValIn h b → ν a = ν b → a = b
 zero : ν 0 = 0
def turnI (ρ : Nat → Nat) (i : Int) : Int := if 0 ≤ i then ((ρ i.toNat : Nat) : Int) else i
theorem turnI_nat (ρ : Nat → Nat) (i : Nat) : turnI ρ (i : Int) = ((ρ i : Nat) : Int) := by unfold turnI; rw [if_pos (by omega), Int.toNat_natCast]
theorem keyIn_at {h : List TxnV} {i : Nat} (hi : i < h.length) {o : OpV} (ho : o ∈ opsAt h i) : KeyIn h o.key := ⟨h[i], List.getElem_mem hi, o, by rw [← opsAt_eq hi]; exact ho, rfl⟩
theorem valIn_at {h : List TxnV} {i : Nat} (hi : i < h.length) {o : OpV} (ho : o ∈ opsAt h i) : ValIn h o.val := .inr ⟨h[i], List.getElem_mem hi, o, by rw [← opsAt_eq hi]; exact ho, rfl⟩
theorem wvH_at {h : List TxnV} {v : Int} : v ∈ wvH h ↔ ∃ i, i < h.length ∧ ∃ o ∈ opsAt h i, o.wr = true ∧ o.val = v := by
 unfold wvH
 rw [List.mem_flatMap]
 constructor
 ·rintro ⟨t, ht, hv⟩
  obtain ⟨i, hi, rfl⟩ := List.mem_iff_getElem.1 ht
  obtain ⟨o, ho, wo, e⟩ := wv_mem.1 hv
  exact ⟨i, hi, o, by rw [opsAt_eq hi]; exact ho, wo, e⟩
 ·rintro ⟨i, hi, o, ho, wo, e⟩
  rw [opsAt_eq hi] at ho
  exact ⟨h[i], List.getElem_mem hi, wv_mem.2 ⟨o, ho, wo, e⟩⟩
theorem keys_at0 {h : List TxnV} (hk : ∀ t ∈ h, keysIn t.l) {i : Nat} (hi : i < h.length) : keysIn (opsAt h i) := by rw [opsAt_eq hi]; exact hk _ (List.getElem_mem hi)
section
variable {h x : List TxnV} {π ρ : Nat → Nat} {κ ν : Int → Int}
theorem Ren.wr_at (q : Ren h x π ρ κ ν) (hkh : ∀ t ∈ h, keysIn t.l) (hkx : ∀ t ∈ x, keysIn t.l) (hoh : okW h = true) (hox : okW x = true) {i : Nat} (hi : i < h.length) {o : OpV} (ho : o ∈ opsAt h i) (wo : o.wr = true) :
  ∃ b, wrTo h h.length o.val = some ⟨i, o.key, b⟩ ∧ wrTo x x.length (ν o.val) = some ⟨((ρ i : Nat) : Int), κ o.key, b⟩ := by
 have hr := q.turn.tl i hi
 have e := q.ops (ρ i) hr
 rw [q.turn.pr i hi] at e
 have hrx : ρ i < x.length := by rw [q.len]; exact hr
 have a := wrTo_at hkh h.length (Nat.le_refl _) (by rw [List.take_length]; exact of_decide_eq_true hoh) i hi hi o (by rw [← opsAt_eq hi]; exact ho) wo
 have hmx : renO κ ν o ∈ opsAt x (ρ i) := by rw [e]; exact List.mem_map_of_mem ho
 have b := wrTo_at hkx x.length (Nat.le_refl _) (by rw [List.take_length]; exact of_decide_eq_true hox) (ρ i) hrx hrx (renO κ ν o) (by rw [← opsAt_eq hrx]; exact hmx) wo
 refine ⟨vOf h[i].l o.key == o.val, a, ?_⟩
 have hkx2 := keys_at0 hkx hrx
 rw [e] at hkx2
 have c := ren_vOf (K := KeyIn h) (V := ValIn h) q.key (fun p hp => keyIn_at hi hp) q.val (fun p hp => valIn_at hi hp) (keys_at0 hkh hi) hkx2 ho wo (valIn_at hi ho)
 rw [← opsAt_eq hrx, e] at b
 rw [← opsAt_eq hi, ← c]
 exact b
theorem Ren.wr_none (q : Ren h x π ρ κ ν) {v : Int} (hV : ValIn h v) (hn : wrTo h h.length v = none) : wrTo x x.length (ν v) = none := by
 have d1 := dom_wr h h.length (Nat.le_refl _) v
 have d2 := dom_wr x x.length (Nat.le_refl _) (ν v)
 rw [hn, List.take_length] at d1
 rw [List.take_length] at d2
 cases e : wrTo x x.length (ν v) with
 | none => rfl
 | some u =>
  rw [e] at d2
  obtain ⟨j, hj, o, ho, wo, ev⟩ := wvH_at.1 (of_decide_eq_true d2.symm)
  rw [q.len] at hj
  rw [q.ops j hj] at ho
  obtain ⟨p, hp, rfl⟩ := List.mem_map.1 ho
  have hpj := q.turn.lt j hj
  have := q.val _ _ (valIn_at hpj hp) hV ev
  exact absurd (wvH_at.2 ⟨π j, hpj, p, hp, wo, this⟩) (of_decide_eq_false d1.symm)
theorem Ren.wr_some (q : Ren h x π ρ κ ν) (hkh : ∀ t ∈ h, keysIn t.l) (hkx : ∀ t ∈ x, keysIn t.l) (hoh : okW h = true) (hox : okW x = true) {v : Int} {u : WV} (hs : wrTo h h.length v = some u) :
  ∃ i : Nat, i < h.length ∧ u.i = (i : Int) ∧ wrTo x x.length (ν v) = some ⟨((ρ i : Nat) : Int), κ u.key, u.last⟩ := by
 have d1 := dom_wr h h.length (Nat.le_refl _) v
 rw [hs, List.take_length] at d1
 obtain ⟨i, hi, o, ho, wo, rfl⟩ := wvH_at.1 (of_decide_eq_true d1.symm)
 obtain ⟨b, h1, h2⟩ := q.wr_at hkh hkx hoh hox hi ho wo
 rw [h1] at hs
 obtain rfl := Option.some.inj hs
 exact ⟨i, hi, rfl, h2⟩
theorem Ren.frm (q : Ren h x π ρ κ ν) (hkh : ∀ t ∈ h, keysIn t.l) (hkx : ∀ t ∈ x, keysIn t.l) (hoh : okW h = true) (hox : okW x = true) {v : Int} (hV : ValIn h v) :
  fromO (wrTo x x.length) (ν v) = turnI ρ (fromO (wrTo h h.length) v) ∧ (fromO (wrTo h h.length) v = -1 ∨ ∃ i : Nat, i < h.length ∧ fromO (wrTo h h.length) v = (i : Int)) := by
 unfold fromO
 cases e : wrTo h h.length v with
 | none => rw [q.wr_none hV e]; exact ⟨rfl, .inl rfl⟩
 | some u =>
  obtain ⟨i, hi, e1, e2⟩ := q.wr_some hkh hkx hoh hox e
  rw [e2]
  simp only [Option.map_some, Option.getD_some]
  rw [e1, turnI_nat]
  exact ⟨rfl, .inr ⟨i, hi, rfl⟩⟩
theorem Ren.bad (q : Ren h x π ρ κ ν) (hkh : ∀ t ∈ h, keysIn t.l) (hkx : ∀ t ∈ x, keysIn t.l) (hoh : okW h = true) (hox : okW x = true) {o : OpV} (hV : ValIn h o.val) {j : Nat} (hj : j < h.length) :
  badFr (wrTo x x.length) (j : Int) (renO κ ν o) = badFr (wrTo h h.length) ((π j : Nat) : Int) o := by
 unfold badFr
 show (match wrTo x x.length (ν o.val) with | none => false | some u => decide (u.i = (j : Int)) || !u.last) = _
 cases e : wrTo h h.length o.val with
 | none => rw [q.wr_none hV e]
 | some u =>
  obtain ⟨i, hi, e1, e2⟩ := q.wr_some hkh hkx hoh hox e
  rw [e2]
  simp only
  congr 1
  rw [Bool.eq_iff_iff, decide_eq_true_eq, decide_eq_true_eq, e1]
  constructor
  ·intro a
   have : ρ i = j := by omega
   rw [← this, q.turn.pr i hi]
  ·intro a
   have : i = π j := by omega
   rw [this, q.turn.rp j hj]
theorem Ren.reads_mem (hc : checkI h = 0) (hx : checkI x = 0) (q : Ren h x π ρ κ ν) {j : Nat} (hj : j < h.length) {p : Int × Int} : p ∈ readsOf x j ↔ ∃ r ∈ readsOf h (π j), p = (κ r.1, turnI ρ r.2) := by
 obtain ⟨h64, _, hoh, hkh⟩ := check_zero hc
 obtain ⟨_, _, hox, hkx⟩ := check_zero hx
 have hpj := q.turn.lt j hj
 have hjx : j < x.length := by rw [q.len]; exact hj
 have hk1 := keys_at0 hkh hpj
 have hk2 := keys_at0 hkx hjx
 rw [q.ops j hj] at hk2
 unfold readsOf rdFr
 rw [q.ops j hj]
 simp only [List.mem_map, List.mem_filter]
 constructor
 ·rintro ⟨o, ⟨ho, hne⟩, rfl⟩
  obtain ⟨p, hp, rfl⟩ := (ren_reads (K := KeyIn h) q.key (fun p hp => keyIn_at hpj hp) hk1 hk2).1 ho
  have hpl := (refReads_in hp).1
  obtain ⟨f1, f2⟩ := q.frm hkh hkx hoh hox (valIn_at hpj hpl)
  have f1' : fromO (wrTo x x.length) (renO κ ν p).val = _ := f1
  rw [f1'] at hne ⊢
  refine ⟨_, ⟨p, ⟨hp, ?_⟩, rfl⟩, rfl⟩
  rw [bne_iff_ne] at hne ⊢
  intro e
  apply hne
  rw [e, turnI_nat, q.turn.rp j hj]
 ·rintro ⟨_, ⟨o, ⟨ho, hne⟩, rfl⟩, rfl⟩
  have hol := (refReads_in ho).1
  obtain ⟨f1, f2⟩ := q.frm hkh hkx hoh hox (valIn_at hpj hol)
  have f1' : fromO (wrTo x x.length) (renO κ ν o).val = _ := f1
  refine ⟨renO κ ν o, ⟨(ren_reads (K := KeyIn h) q.key (fun p hp => keyIn_at hpj hp) hk1 hk2).2 ⟨o, ho, rfl⟩, ?_⟩, by rw [f1']; rfl⟩
  rw [f1']
  rw [bne_iff_ne] at hne ⊢
  intro e
  rcases f2 with f2 | ⟨i, hi, f2⟩
  ·rw [f2] at e; unfold turnI at e; rw [if_neg (by omega)] at e; omega
  ·rw [f2, turnI_nat] at e
   apply hne
   rw [f2]
   have : ρ i = j := by omega
   rw [← this, q.turn.pr i hi]
theorem Ren.keys (hc : checkI h = 0) (hx : checkI x = 0) (q : Ren h x π ρ κ ν) {j : Nat} (hj : j < h.length) {y : Int} : y ∈ keysOf (opsAt x j) ↔ ∃ k ∈ keysOf (opsAt h (π j)), y = κ k := by
 obtain ⟨h64, _, hoh, hkh⟩ := check_zero hc
 obtain ⟨_, _, hox, hkx⟩ := check_zero hx
 have hpj := q.turn.lt j hj
 have hjx : j < x.length := by rw [q.len]; exact hj
 have hk1 := keys_at0 hkh hpj
 have hk2 := keys_at0 hkx hjx
 rw [q.ops j hj] at hk2
 unfold keysOf
 rw [q.ops j hj, List.mem_map]
 constructor
 ·rintro ⟨o, ho, rfl⟩
  obtain ⟨p, hp, rfl⟩ := (ren_writes (K := KeyIn h) q.key (fun p hp => keyIn_at hpj hp) hk1 hk2).1 ho
  exact ⟨p.key, List.mem_map_of_mem hp, rfl⟩
 ·rintro ⟨k, hk, rfl⟩
  obtain ⟨p, hp, rfl⟩ := List.mem_map.1 hk
  exact ⟨renO κ ν p, (ren_writes (K := KeyIn h) q.key (fun p hp => keyIn_at hpj hp) hk1 hk2).2 ⟨p, hp, rfl⟩, rfl⟩
theorem keysOf_in {i : Nat} (hi : i < h.length) {k : Int} (hk : k ∈ keysOf (opsAt h i)) : KeyIn h k := by
 obtain ⟨p, hp, rfl⟩ := List.mem_map.1 hk
 exact keyIn_at hi (refWrites_mem hp).1
theorem Ren.key_at (hc : checkI h = 0) (hx : checkI x = 0) (q : Ren h x π ρ κ ν) {j : Nat} (hj : j < h.length) {k : Int} (hK : KeyIn h k) : κ k ∈ keysOf (opsAt x j) ↔ k ∈ keysOf (opsAt h (π j)) := by
 rw [q.keys hc hx hj]
 constructor
 ·rintro ⟨k2, h2, e⟩
  rw [q.key _ _ hK (keysOf_in (q.turn.lt j hj) h2) e]; exact h2
 ·intro h2; exact ⟨k, h2, rfl⟩
theorem Ren.wrt (hc : checkI h = 0) (hx : checkI x = 0) (q : Ren h x π ρ κ ν) {k : Int} (hK : KeyIn h k) : IsoS h.length π (wrtN x (κ k)) (wrtN h k) := by
 have h64 := (check_zero hc).1
 unfold wrtN
 refine ⟨fun j e => ?_, fun j e => ?_, fun j hj => ?_⟩
 ·rw [testBit_mkS, q.len] at e; simp at e; exact e.2.1
 ·rw [testBit_mkS] at e; simp at e; exact e.2.1
 ·have := q.turn.lt j hj
  rw [testBit_mkS, testBit_mkS, q.len, decide_eq_true (show j < 64 by omega), decide_eq_true (show π j < 64 by omega), decide_eq_true hj, decide_eq_true this, Bool.true_and, Bool.true_and, Bool.true_and, Bool.true_and, Bool.eq_iff_iff, decide_eq_true_eq, decide_eq_true_eq]
  exact q.key_at hc hx hj hK
theorem Ren.fro (hc : checkI h = 0) (hx : checkI x = 0) (q : Ren h x π ρ κ ν) {i j : Nat} (hi : i < h.length) (hj : j < h.length) : froP x i j = froP h (π i) (π j) := by
 unfold froP
 rw [Bool.eq_iff_iff, List.any_eq_true, List.any_eq_true]
 constructor
 ·rintro ⟨p, hp, e⟩
  obtain ⟨r, hr, rfl⟩ := (q.reads_mem hc hx hj).1 hp
  refine ⟨r, hr, ?_⟩
  simp only [decide_eq_true_eq] at e ⊢
  rcases read_from hc (q.turn.lt j hj) hr with e2 | ⟨n, hn, e2, _, _⟩
  ·rw [e2] at e; unfold turnI at e; rw [if_neg (by omega)] at e; omega
  ·rw [e2, turnI_nat] at e
   have : ρ n = i := by omega
   rw [e2, ← this, q.turn.pr n hn]
 ·rintro ⟨r, hr, e⟩
  refine ⟨_, (q.reads_mem hc hx hj).2 ⟨r, hr, rfl⟩, ?_⟩
  simp only [decide_eq_true_eq] at e ⊢
  rw [e, turnI_nat, q.turn.rp i hi]
theorem Ren.readsP (hc : checkI h = 0) (hx : checkI x = 0) (q : Ren h x π ρ κ ν) {j : Nat} {aF aG : Nat → Nat} {s t : Nat} (hj : j < h.length) (hs : IsoS h.length π s t) (ha : ∀ k, k < h.length → IsoS h.length π (aF k) (aG (π k))) : readsP x aF s j = Go.Proofs.YtadihdkpoeibhaaGreatDoor.readsP h aG t (π j) := by
 have h64 := (check_zero hc).1
 have hpj := q.turn.lt j hj
 have one : ∀ r ∈ readsOf h (π j), readP x aF s (κ r.1, turnI ρ r.2) = readP h aG t r := by
  intro r hr
  have hK : KeyIn h r.1 := by
   obtain ⟨o, ho, rfl⟩ := List.mem_map.1 hr
   exact keyIn_at hpj (refReads_in (List.mem_filter.1 ho).1).1
  have hw := hs.and (q.wrt hc hx hK)
  unfold readP readW
  rcases read_from hc hpj hr with e | ⟨n, hn, e, _, _⟩
  ·have e2 : turnI ρ (-1) = -1 := rfl
   simp only [e, e2]
   rw [if_neg (by omega), if_neg (by omega), Bool.eq_iff_iff, decide_eq_true_eq, decide_eq_true_eq]
   exact IsoS.none q.turn hw
  ·have hrn := q.turn.tl n hn
   have e2 : turnI ρ (n : Int) = ((ρ n : Nat) : Int) := turnI_nat ρ n
   simp only [e, e2]
   rw [if_pos (by omega), if_pos (by omega), Bool.eq_iff_iff, decide_eq_true_eq, decide_eq_true_eq, lack_iff, lack_iff, Int.toNat_natCast, Int.toNat_natCast]
   have hp := IsoS.put q.turn h64 (ha (ρ n) hrn) hrn
   rw [q.turn.pr n hn] at hp
   exact IsoS.sub q.turn hw hp
 unfold Go.Proofs.YtadihdkpoeibhaaGreatDoor.readsP
 rw [Bool.eq_iff_iff, List.all_eq_true, List.all_eq_true]
 constructor
 ·intro a r hr
  rw [← one r hr]
  exact a _ ((q.reads_mem hc hx hj).2 ⟨r, hr, rfl⟩)
 ·intro a p hp
  obtain ⟨r, hr, rfl⟩ := (q.reads_mem hc hx hj).1 hp
  rw [one r hr]; exact a r hr
theorem Ren.sound (hc : checkI h = 0) (hx : checkI x = 0) (q : Ren h x π ρ κ ν) : soundTo x x.length = soundTo h h.length := by
 obtain ⟨h64, _, hoh, hkh⟩ := check_zero hc
 obtain ⟨_, _, hox, hkx⟩ := check_zero hx
 have one : ∀ j, j < h.length → soundOf x j = soundOf h (π j) := by
  intro j hj
  have hpj := q.turn.lt j hj
  have hjx : j < x.length := by rw [q.len]; exact hj
  have hk1 := keys_at0 hkh hpj
  have hk2 := keys_at0 hkx hjx
  rw [q.ops j hj] at hk2
  unfold soundOf
  rw [q.ops j hj, ren_steady (K := KeyIn h) (V := ValIn h) q.key (fun p hp => keyIn_at hpj hp) q.val (fun p hp => valIn_at hpj hp)]
  congr 2
  rw [Bool.eq_iff_iff, List.any_eq_true, List.any_eq_true]
  constructor
  ·rintro ⟨o, ho, e⟩
   obtain ⟨p, hp, rfl⟩ := (ren_reads (K := KeyIn h) q.key (fun p hp => keyIn_at hpj hp) hk1 hk2).1 ho
   exact ⟨p, hp, by rw [← q.bad hkh hkx hoh hox (valIn_at hpj (refReads_in hp).1) hj]; exact e⟩
  ·rintro ⟨p, hp, e⟩
   exact ⟨renO κ ν p, (ren_reads (K := KeyIn h) q.key (fun p hp => keyIn_at hpj hp) hk1 hk2).2 ⟨p, hp, rfl⟩, by rw [q.bad hkh hkx hoh hox (valIn_at hpj (refReads_in hp).1) hj]; exact e⟩
 unfold soundTo
 rw [Bool.eq_iff_iff, List.all_eq_true, List.all_eq_true]
 constructor
 ·intro a i hi
  have hi := List.mem_range.1 hi
  rw [← q.turn.pr i hi, ← one _ (q.turn.tl i hi)]
  exact a _ (List.mem_range.2 (by rw [q.len]; exact q.turn.tl i hi))
 ·intro a j hj
  have hj := List.mem_range.1 hj
  rw [q.len] at hj
  rw [one j hj]; exact a _ (List.mem_range.2 (q.turn.lt j hj))
end
theorem sum_perm {l m : List Nat} (h : l.Perm m) : l.sum = m.sum := by
 induction h with
 | nil => rfl
 | cons a _ ih => simp only [List.sum_cons, ih]
 | swap a b l => simp only [List.sum_cons]; omega
 | trans _ _ i1 i2 => rw [i1, i2]
theorem ops_list (h : List TxnV) : h.map (·.l) = (List.range h.length).map (opsAt h) := by
 apply List.ext_getElem
 ·simp
 ·intro i h1 h2
  have hi : i < h.length := by simpa using h1
  simp only [List.getElem_map, List.getElem_range]
  rw [opsAt_eq hi]
section
variable {h x : List TxnV} {π ρ : Nat → Nat} {κ ν : Int → Int}
theorem Ren.perm (q : Ren h x π ρ κ ν) : (x.map (·.l)).Perm ((h.map (·.l)).map (List.map (renO κ ν))) := by
 have e : x.map (·.l) = ((List.range h.length).map π).map fun i => (opsAt h i).map (renO κ ν) := by
  rw [ops_list x, q.len, List.map_map]
  exact List.map_congr_left fun j hj => q.ops j (List.mem_range.1 hj)
 have e2 : (h.map (·.l)).map (List.map (renO κ ν)) = (List.range h.length).map fun i => (opsAt h i).map (renO κ ν) := by rw [ops_list h, List.map_map]; rfl
 rw [e, e2]
 exact (turn_perm q.turn (List.Perm.refl _)).map _
theorem wv_ren (l : List OpV) : wv (l.map (renO κ ν)) = (wv l).map ν := by
 unfold wv
 rw [List.filter_map, List.map_map, List.map_map]
 rfl
theorem Ren.check (q : Ren h x π ρ κ ν) (hc : checkI h = 0) (hm : partsB x = true) (hst : stampsB x = true) (hse : sesB x = true) : checkI x = 0 := by
 obtain ⟨h64, hopn, hoh, hkh⟩ := check_zero hc
 have hkx := parts_keys hm
 have hr : rightB h = true := by
  unfold checkI at hc
  split at hc
  ·cases hc
  ·split at hc
   ·assumption
   ·cases hc
 have ho : opsN x = opsN h := by
  have e : ∀ h : List TxnV, opsN h = ((h.map (·.l)).map List.length).sum := fun h => by unfold opsN; rw [List.map_map]; rfl
  rw [e x, e h, sum_perm (q.perm.map List.length)]
  congr 1
  rw [List.map_map]
  exact List.map_congr_left fun l _ => by simp
 have hw : (wvH x).Perm ((wvH h).map ν) := by
  have e : ∀ h : List TxnV, wvH h = (h.map (·.l)).flatMap wv := fun h => by unfold wvH; rw [List.flatMap_map]
  rw [e x, e h]
  refine (List.Perm.flatMap_right wv q.perm).trans ?_
  rw [List.flatMap_map, List.map_flatMap, show (fun a => wv (List.map (renO κ ν) a)) = fun a => (wv a).map ν from funext fun a => wv_ren a]
 have hox : okW x = true := by
  unfold okW
  rw [decide_eq_true_eq, hw.nodup_iff, List.nodup_iff_pairwise_ne, List.pairwise_map]
  refine (List.nodup_iff_pairwise_ne.1 (of_decide_eq_true hoh)).imp_of_mem fun {a b} ha hb hne e => hne (q.val a b ?_ ?_ e)
  ·obtain ⟨i, hi, o, ho, _, rfl⟩ := wvH_at.1 ha; exact valIn_at hi ho
  ·obtain ⟨i, hi, o, ho, _, rfl⟩ := wvH_at.1 hb; exact valIn_at hi ho
 unfold rightB at hr
 simp only [Bool.and_eq_true] at hr
 unfold valuesB at hr
 rw [Bool.and_eq_true] at hr
 have hv : valuesB x = true := by
  unfold valuesB
  rw [hox, Bool.true_and, List.all_eq_true]
  intro t ht
  obtain ⟨j, hj, rfl⟩ := List.mem_iff_getElem.1 ht
  rw [q.len] at hj
  have hpj := q.turn.lt j hj
  unfold rowOk
  rw [List.all_eq_true, ← opsAt_eq (by rw [q.len]; exact hj), q.ops j hj]
  intro o ho
  obtain ⟨p, hp, rfl⟩ := List.mem_map.1 ho
  have h1 := List.all_eq_true.1 hr.2.1.2 _ (List.getElem_mem hpj)
  unfold rowOk at h1
  rw [← opsAt_eq hpj] at h1
  have h2 := List.all_eq_true.1 h1 p hp
  unfold rdOk at h2 ⊢
  show (p.wr || ν p.val == 0 || match wrTo x x.length (ν p.val) with | none => false | some u => u.key == κ p.key) = true
  cases wp : p.wr with
  | true => rfl
  | false =>
   rw [wp] at h2
   by_cases e : p.val = 0
   ·rw [e, q.zero]; rfl
   ·have e' : (p.val == 0) = false := by simpa using e
    rw [e', Bool.or_false, Bool.false_or] at h2
    cases hu : wrTo h h.length p.val with
    | none => rw [hu] at h2; cases h2
    | some u =>
     rw [hu] at h2
     obtain ⟨i, _, _, e2⟩ := q.wr_some hkh hkx hoh hox hu
     rw [e2]
     have e3 : u.key = p.key := by simpa using h2
     simp [e3]
 unfold checkI
 rw [if_neg (by rw [q.len, ho]; omega), if_pos (by unfold rightB; rw [hm, hv, hst, hse]; rfl)]
end
end

section
open Go.RowKit
def rr (j : Nat) : List Nat := (List.range j).reverse
theorem rr_succ (j : Nat) : rr (j + 1) = j :: rr j := by unfold rr; rw [List.range_succ, List.reverse_append]; rfl
theorem mem_rr {i j : Nat} : i ∈ rr j ↔ i < j := by unfold rr; rw [List.mem_reverse, List.mem_range]
theorem plS_rr {i j : Nat} (hj : j ≤ 64) : (plS (rr j)).testBit i = decide (i < j) := by
 rw [plS_bit i (rr j) (fun a ha => by have := mem_rr.1 ha; omega)]
 congr 1; exact propext mem_rr
theorem ahead_rr : ∀ {k j : Nat}, k < j → aheadL (rr j) k = plS (rr k)
 | k, 0, h => by omega
 | k, j + 1, h => by
  rw [rr_succ, aheadL]
  by_cases e : k = j
  ·rw [if_pos e, e]
  ·rw [if_neg e]; exact ahead_rr (by omega)
section
variable {f : Nat → Nat} {h : List TxnV} {C : Nat}
end
section
variable {f : Nat → Nat} {h : List TxnV}
end
end

section
open Go.RowKit
theorem check_rightB {h : List TxnV} (hc : checkI h = 0) : partsB h = true ∧ valuesB h = true ∧ stampsB h = true ∧ sesB h = true := by
 unfold checkI at hc
 split at hc
 ·cases hc
 ·split at hc
  ·rename_i hr
   unfold rightB at hr
   simp only [Bool.and_eq_true] at hr
   exact ⟨hr.1, hr.2.1, hr.2.2.1, hr.2.2.2⟩
  ·cases hc
theorem may_at {h : List TxnV} (hp : partsB h = true) {t : TxnV} (ht : t ∈ h) : (0 ≤ t.s ∧ t.s < 64 ∧ 0 ≤ t.b ∧ t.b < t.c ∧ t.c ≤ 2147483647 ∧ 1 ≤ t.l.length ∧ t.l.length ≤ 64) ∧ ∀ o ∈ t.l, mayO o = true := by
 have h1 := List.all_eq_true.1 hp t ht
 unfold mayT at h1
 rw [Bool.and_eq_true, decide_eq_true_eq] at h1
 exact ⟨h1.1, fun o ho => List.all_eq_true.1 h1.2 o ho⟩
section
variable {h s c : List TxnV} {f τ κ ν : Int → Int}
end
section
variable {h c : List TxnV} {f τ κ ν : Int → Int} {π ρ : Nat → Nat}
end
section
variable {h s c : List TxnV}
end
end

section
open Go.RowKit
theorem ser_bits : (clI ((askN ((7 : Nat) : Int) : Nat) : Int)).testBit 4 = true ∧ (clI ((askN ((11 : Nat) : Int) : Nat) : Int)).testBit 4 = true ∧ isLv 11 = true ∧ isLv 7 = true := by decide +kernel
theorem allT_at {h : List TxnV} {C : Nat} : ∀ (L r : List Nat), allT h C r L = true → ∀ j (hj : j < L.length), tryP h C ((L.take j).reverse ++ r) L[j] = true
 | [], _, _, j, hj => by cases hj
 | i :: L, r, ha, j, hj => by
  unfold allT at ha
  rw [Bool.and_eq_true] at ha
  cases j with
  | zero => simpa using ha.1
  | succ j =>
   have := allT_at L (i :: r) ha.2 j (by simpa using hj)
   simpa [List.take_succ_cons] using this
theorem allT_of {h : List TxnV} {C : Nat} : ∀ (L r : List Nat), (∀ j (hj : j < L.length), tryP h C ((L.take j).reverse ++ r) L[j] = true) → allT h C r L = true
 | [], _, _ => by unfold allT; rfl
 | i :: L, r, ha => by
  unfold allT
  rw [Bool.and_eq_true]
  refine ⟨(by have := ha 0 (by simp); simp only [List.take_zero, List.reverse_nil, List.nil_append, List.getElem_cons_zero] at this; exact this), allT_of L (i :: r) fun j hj => ?_⟩
  have := ha (j + 1) (by simpa using hj)
  simpa [List.take_succ_cons] using this
theorem next_all {h : List TxnV} {C : Nat} {r : List Nat} (g : RowG h C r) (h4 : C.testBit 4 = true) {i : Nat} (hb : ∀ j, (baseN h C i).testBit j = true → (plS r).testBit j = true) : nextN h C r i = plS r := by
 apply Nat.eq_of_testBit_eq
 intro j
 rw [Bool.eq_iff_iff]
 exact ⟨fun a => nextN_in g hb a, fun a => wld4_all h4 a⟩
structure Ser (h : List TxnV) (L : List Nat) : Prop where
 perm : L.Perm (List.range h.length)
 base : ∀ j (hj : j < L.length) i, (baseN h (clI ((askN ((7 : Nat) : Int) : Nat) : Int)) L[j]).testBit i = true → i ∈ L.take j
 reads : ∀ j (hj : j < L.length), readsP h (aheadL (L.take j).reverse) (plS (L.take j).reverse) L[j] = true
 snd : soundTo h h.length = true
theorem ser_of {h : List TxnV} {L : List Nat} (hc : checkI h = 0) (hp : L.Perm (List.range h.length)) (hk : keptL h ((7 : Nat) : Int) L = true) : Ser h L := by
 have h64 := (check_zero hc).1
 have hlt : ∀ i ∈ L, i < h.length := fun i hi => List.mem_range.1 (hp.mem_iff.1 hi)
 unfold keptL at hk
 simp only [Bool.and_eq_true] at hk
 have key : ∀ j (hj : j < L.length), (∀ i, (baseN h (clI ((askN ((7 : Nat) : Int) : Nat) : Int)) L[j]).testBit i = true → (plS (L.take j).reverse).testBit i = true) ∧ readsP h (aheadL (L.take j).reverse) (plS (L.take j).reverse) L[j] = true := by
  intro j hj
  have ht := allT_at L [] hk.2.2 j hj
  rw [List.append_nil] at ht
  have hb := (tryP_parts ht).2.2
  refine ⟨hb, ?_⟩
  have hg : RowG h (clI ((askN ((7 : Nat) : Int) : Nat) : Int)) ((L.take j).reverse ++ []) := by
   refine allT_rowG h64 (L.take j) [] RowG.nil ?_
   have := hk.2.2
   rw [← List.take_append_drop j L, allT_cat, Bool.and_eq_true] at this
   exact this.1
  rw [List.append_nil] at hg
  unfold tryP at ht
  simp only [Bool.and_eq_true] at ht
  rw [next_all hg ser_bits.1 hb] at ht
  exact ht.2.2.2
 refine ⟨hp, fun j hj i hi => ?_, fun j hj => (key j hj).2, hk.2.1⟩
 have := (key j hj).1 i hi
 have hm := plS_mem (fun k hk => by
  have := hlt k (List.mem_of_mem_take (by simpa using hk)); omega) this
 simpa using hm
section
variable {h : List TxnV} {L : List Nat}
theorem Ser.lt (q : Ser h L) {j : Nat} (hj : j < L.length) : L[j] < h.length := List.mem_range.1 (q.perm.mem_iff.1 (List.getElem_mem hj))
theorem Ser.len (q : Ser h L) : L.length = h.length := by rw [q.perm.length_eq]; simp
theorem Ser.nd (q : Ser h L) : L.Nodup := q.perm.nodup_iff.2 List.nodup_range
def thereTo (h : List TxnV) (L : List Nat) : Nat → Int → Int
 | 0, _ => 0
 | j + 1, k => match L[j]? with
  | none => thereTo h L j k
  | some i => match lastW (opsAt h i) k with
   | some q => q.val
   | none => thereTo h L j k
theorem thereTo_succ {j : Nat} (hj : j < L.length) (k : Int) : thereTo h L (j + 1) k = ((lastW (opsAt h L[j]) k).map (·.val)).getD (thereTo h L j k) := by
 rw [thereTo, List.getElem?_eq_getElem hj]
 show (match lastW (opsAt h L[j]) k with | some q => q.val | none => thereTo h L j k) = _
 cases lastW (opsAt h L[j]) k <;> rfl
theorem lastW_keys (hc : checkI h = 0) {i : Nat} (hi : i < h.length) (k : Int) : (lastW (opsAt h i) k).isSome = true ↔ k ∈ keysOf (opsAt h i) := by
 have hk1 := keys_at0 (check_zero hc).2.2.2 hi
 unfold keysOf
 rw [List.mem_map]
 constructor
 ·intro e
  obtain ⟨p, hp⟩ := Option.isSome_iff_exists.1 e
  have hpk := lastW_key hp
  exact ⟨p, ((refWrites_rise hk1).2 p).2 ⟨by rw [hpk.1]; exact hp, hpk.2.1⟩, hpk.1⟩
 ·rintro ⟨p, hp, rfl⟩
  rw [(((refWrites_rise hk1).2 p).1 hp).1]; rfl
theorem there_none (hc : checkI h = 0) (q : Ser h L) (k : Int) : ∀ j, j ≤ L.length → (∀ m ∈ L.take j, k ∉ keysOf (opsAt h m)) → thereTo h L j k = 0
 | 0, _, _ => rfl
 | j + 1, hj, hn => by
  have hlt : j < L.length := by omega
  rw [thereTo_succ hlt]
  have hno : lastW (opsAt h L[j]) k = none := by
   cases e : lastW (opsAt h L[j]) k with
   | none => rfl
   | some p =>
    exact absurd ((lastW_keys hc (q.lt hlt) k).1 (by rw [e]; rfl)) (hn _ (by rw [List.mem_take_iff_getElem]; exact ⟨j, by omega, rfl⟩))
  rw [hno]
  exact there_none hc q k j (by omega) fun m hm => hn m (by
   rw [List.take_succ_eq_append_getElem hlt]; exact List.mem_append.2 (.inl hm))
theorem there_last (hc : checkI h = 0) (q : Ser h L) (k : Int) {n : Nat} (hkn : k ∈ keysOf (opsAt h n)) : ∀ j, j ≤ L.length → n ∈ L.take j → (∀ m ∈ L.take j, k ∈ keysOf (opsAt h m) → m = n ∨ (aheadL (L.take j).reverse n).testBit m = true) → thereTo h L j k = vOf (opsAt h n) k
 | 0, _, hn, _ => by cases hn
 | j + 1, hj, hn, hl => by
  have hlt : j < L.length := by omega
  have h64 := (check_zero hc).1
  have et := List.take_succ_eq_append_getElem hlt
  have hk1 := keys_at0 (check_zero hc).2.2.2 (q.lt hlt)
  have hjn : L[j] ∉ L.take j := by
   intro hm
   obtain ⟨i, hi, e⟩ := List.mem_take_iff_getElem.1 hm
   have := (List.pairwise_iff_getElem.1 (List.nodup_iff_pairwise_ne.1 q.nd)) i j (by omega) hlt (by omega)
   exact this e
  rw [thereTo_succ hlt]
  by_cases e : n = L[j]
  ·subst e
   obtain ⟨p, hp⟩ := Option.isSome_iff_exists.1 ((lastW_keys hc (q.lt hlt) k).2 hkn)
   have hpk := lastW_key hp
   obtain ⟨p2, _, e1, e2⟩ := vOf_last hk1 hpk.2.2 hpk.2.1
   rw [hpk.1] at e1 e2
   rw [hp] at e1
   obtain rfl := Option.some.inj e1
   rw [hp, e2]; rfl
  ·have hn' : n ∈ L.take j := by
    rw [et] at hn
    rcases List.mem_append.1 hn with hn | hn
    ·exact hn
    ·exact absurd (List.mem_singleton.1 hn) e
   have ha : aheadL (L.take (j + 1)).reverse n = aheadL (L.take j).reverse n := by
    rw [et, List.reverse_append]
    show aheadL (L[j] :: (L.take j).reverse) n = _
    rw [aheadL, if_neg e]
   have hno : lastW (opsAt h L[j]) k = none := by
    cases e1 : lastW (opsAt h L[j]) k with
    | none => rfl
    | some p =>
     have hw := (lastW_keys hc (q.lt hlt) k).1 (by rw [e1]; rfl)
     rcases hl L[j] (by rw [et]; exact List.mem_append.2 (.inr (List.mem_singleton.2 rfl))) hw with e2 | e2
     ·exact absurd e2.symm e
     ·rw [ha] at e2
      have hm := aheadL_mem (fun i hi => by
       have := List.mem_range.1 (q.perm.mem_iff.1 (List.mem_of_mem_take (by simpa using hi : i ∈ L.take j))); omega) e2
      exact absurd (by simpa using hm) hjn
   rw [hno]
   refine there_last hc q k hkn j (by omega) hn' fun m hm hw => ?_
   rw [← ha]
   exact hl m (by rw [et]; exact List.mem_append.2 (.inl hm)) hw
theorem there_read (hc : checkI h = 0) (q : Ser h L) {j : Nat} (hj : j < L.length) {o : OpV} (ho : o ∈ refReads (opsAt h L[j])) : thereTo h L j o.key = o.val := by
 obtain ⟨h64, _, hoh, hkh⟩ := check_zero hc
 have hi := q.lt hj
 have hin := refReads_in ho
 have hs := q.snd
 unfold soundTo at hs
 have hs1 := List.all_eq_true.1 hs _ (List.mem_range.2 hi)
 unfold soundOf at hs1
 rw [Bool.and_eq_true, Bool.not_eq_true'] at hs1
 have hb := (List.any_eq_false.1 hs1.1) o ho
 unfold badFr at hb
 have hsub : ∀ m, (plS (L.take j).reverse).testBit m = true ↔ m ∈ L.take j := fun m => by
  rw [plS_bit m _ (fun i hi => by
   have := List.mem_range.1 (q.perm.mem_iff.1 (List.mem_of_mem_take (by simpa using hi : i ∈ L.take j))); omega), decide_eq_true_eq]; simp
 have hwr : ∀ m, m ∈ L.take j → (o.key ∈ keysOf (opsAt h m) ↔ (wrtN h o.key).testBit m = true) := fun m hm => by
  have hml := List.mem_range.1 (q.perm.mem_iff.1 (List.mem_of_mem_take hm))
  unfold wrtN
  rw [testBit_mkS, decide_eq_true (show m < 64 by omega), decide_eq_true hml, Bool.true_and, Bool.true_and, decide_eq_true_eq]
 have hrd := q.reads j hj
 unfold readsP at hrd
 rw [List.all_eq_true] at hrd
 have hv : valuesB h = true := (check_rightB hc).2.1
 unfold valuesB at hv
 rw [Bool.and_eq_true] at hv
 have hro := List.all_eq_true.1 hv.2 _ (List.getElem_mem hi)
 unfold rowOk at hro
 rw [← opsAt_eq hi] at hro
 have hrk := List.all_eq_true.1 hro o hin.1
 unfold rdOk at hrk
 rw [hin.2, Bool.false_or] at hrk
 cases hw : wrTo h h.length o.val with
 | none =>
  have hf : fromO (wrTo h h.length) o.val = -1 := by unfold fromO; rw [hw]; rfl
  have h0 : o.val = 0 := by
   rw [hw, Bool.or_false] at hrk
   simpa using hrk
  have hm : (o.key, (-1 : Int)) ∈ readsOf h L[j] := by
   unfold readsOf rdFr
   refine List.mem_map.2 ⟨o, List.mem_filter.2 ⟨ho, ?_⟩, by rw [hf]⟩
   rw [hf, bne_iff_ne]; omega
  have hr := hrd _ hm
  unfold readP readW at hr
  rw [if_neg (by simp), decide_eq_true_eq] at hr
  rw [h0]
  refine there_none hc q o.key j (by omega) fun m hml hk => ?_
  have : (plS (L.take j).reverse &&& wrtN h o.key).testBit m = true := by
   rw [Nat.testBit_and, (hsub m).2 hml, (hwr m hml).1 hk]; rfl
  rw [hr] at this
  simp at this
 | some u =>
  rw [hw] at hb
  simp only [Bool.or_eq_true, decide_eq_true_eq, Bool.not_eq_true', not_or] at hb
  have d1 := dom_wr h h.length (Nat.le_refl _) o.val
  rw [hw, List.take_length] at d1
  obtain ⟨n, hn, p, hp, wp, e⟩ := wvH_at.1 (of_decide_eq_true d1.symm)
  have ha := wrTo_at hkh h.length (Nat.le_refl _) (by rw [List.take_length]; exact of_decide_eq_true hoh) n hn hn p (by rw [← opsAt_eq hn]; exact hp) wp
  rw [e, hw] at ha
  have hu := Option.some.inj ha
  have hkey : p.key = o.key := by
   rw [hw] at hrk
   by_cases h0 : o.val = 0
   ·have := (may_at (check_rightB hc).1 (List.getElem_mem hn)).2 p (by rw [← opsAt_eq hn]; exact hp)
    have := ((mayO_iff p).1 this).2.2 wp
    omega
   ·have e0 : (o.val == 0) = false := by simpa using h0
    rw [e0, Bool.false_or] at hrk
    have hk2 : u.key = o.key := by simpa using hrk
    rw [hu] at hk2; exact hk2
  have hf : fromO (wrTo h h.length) o.val = (n : Int) := by unfold fromO; rw [hw, hu]; rfl
  have hlast : vOf (opsAt h n) o.key = o.val := by
   have : u.last = true := by
    cases e2 : u.last with
    | true => rfl
    | false => exact absurd e2 hb.2
   have h2 : (vOf h[n].l p.key == o.val) = true := by rw [hu] at this; exact this
   rw [← opsAt_eq hn, hkey] at h2
   exact beq_iff_eq.1 h2
  have hm : (o.key, (n : Int)) ∈ readsOf h L[j] := by
   unfold readsOf rdFr
   refine List.mem_map.2 ⟨o, List.mem_filter.2 ⟨ho, ?_⟩, by rw [hf]⟩
   rw [hf, bne_iff_ne]
   have := hb.1
   rw [hu] at this
   exact this
  have hr := hrd _ hm
  unfold readP readW at hr
  rw [if_pos (by simp), decide_eq_true_eq, lack_iff, Int.toNat_natCast] at hr
  have hC : clI ((askN ((7 : Nat) : Int) : Nat) : Int) < 9223372036854775808 := by have := clI_lt ((askN ((7 : Nat) : Int) : Nat) : Int); omega
  have hnb := from_base hC h64 hi hn hm rfl
  have hnt := q.base j hj n hnb
  have hkn : o.key ∈ keysOf (opsAt h n) := by
   rw [← hkey]
   refine (lastW_keys hc hn p.key).1 ?_
   have := lastW_some (opsAt h n) wp (opsAt h n).length (Nat.le_refl _) (by rw [List.take_length]; exact hp)
   rw [List.take_length] at this; exact this
  rw [← hlast]
  refine there_last hc q o.key hkn j (by omega) hnt fun m hml hk => ?_
  have := hr m (by rw [Nat.testBit_and, (hsub m).2 hml, (hwr m hml).1 hk]; rfl)
  rw [testBit_withS, Bool.or_eq_true, Bool.and_eq_true, decide_eq_true_eq, decide_eq_true_eq, Int.toNat_natCast] at this
  rcases this with e | e
  ·exact .inr e
  ·exact .inl e.2.symm
end
end

section
open Go.RowKit
def opTo (T : Int → Int) (l : List OpV) (p : Nat) (k : Int) : Int := ((lastW (l.take p) k).map (·.val)).getD (T k)
section
variable {T : Int → Int} {l : List OpV}
theorem opTo_write {p : Nat} (hp : p < l.length) (hw : l[p].wr = true) (k : Int) : opTo T l (p + 1) k = if k = l[p].key then l[p].val else opTo T l p k := by
 unfold opTo
 rw [take_snoc l p hp, lastW_snoc, hw]
 simp only [if_true]
 unfold putF
 by_cases e : k = l[p].key
 ·rw [if_pos e, if_pos e]; rfl
 ·rw [if_neg e, if_neg e]
theorem opTo_read {p : Nat} (hp : p < l.length) (hw : l[p].wr = false) (k : Int) : opTo T l (p + 1) k = opTo T l p k := by
 unfold opTo
 rw [take_snoc l p hp, lastW_snoc, hw]
 rfl
theorem op_inv (hk : keysIn l) (hs : steadyL l = true) (hr : ∀ o ∈ refReads l, T o.key = o.val) : ∀ p, p ≤ l.length → ∀ k, opTo T l p k = ((lastO (l.take p) k).map (·.val)).getD (T k)
 | 0, _, k => rfl
 | p + 1, hp, k => by
  have hlt : p < l.length := by omega
  have ih := op_inv hk hs hr p (by omega)
  have e : lastO (l.take (p + 1)) k = if k = l[p].key then some l[p] else lastO (l.take p) k := by
   rw [take_snoc l p hlt, lastO_snoc]; rfl
  rw [e]
  cases hw : l[p].wr with
  | true =>
   rw [opTo_write hlt hw]
   by_cases ek : k = l[p].key
   ·rw [if_pos ek, if_pos ek]; rfl
   ·rw [if_neg ek, if_neg ek]; exact ih k
  | false =>
   rw [opTo_read hlt hw]
   by_cases ek : k = l[p].key
   ·rw [if_pos ek]
    show opTo T l p k = l[p].val
    rw [ih k]
    subst ek
    have hst := List.all_eq_true.1 hs p (List.mem_range.2 hlt)
    rw [stOk_at hlt, hw] at hst
    cases hl : lastO (l.take p) l[p].key with
    | some q =>
     rw [hl] at hst
     have : l[p].val = q.val := by simpa using hst
     rw [this]; rfl
    | none =>
     show T l[p].key = l[p].val
     apply hr
     refine ((refReads_rise hk).2 l[p]).2 ⟨?_, hw⟩
     have hn : firstO (l.take p) l[p].key = none := by
      have := firstO_none (l := l.take p) (x := l[p].key)
      rw [hl] at this
      simpa using this
     unfold firstO at hn ⊢
     rw [show l.find? (fun o => o.key == l[p].key) = (l.take p ++ l.drop p).find? (fun o => o.key == l[p].key) by rw [List.take_append_drop], List.find?_append, hn, Option.none_or, List.drop_eq_getElem_cons hlt, List.find?_cons_of_pos (by simp)]
   ·rw [if_neg ek]; exact ih k
theorem op_right (hk : keysIn l) (hs : steadyL l = true) (hr : ∀ o ∈ refReads l, T o.key = o.val) {p : Nat} (hp : p < l.length) (hw : l[p].wr = false) : opTo T l p l[p].key = l[p].val := by
 have h1 := op_inv hk hs hr (p + 1) (by omega) l[p].key
 rw [opTo_read hp hw] at h1
 rw [h1, take_snoc l p hp, lastO_snoc]
 show ((putF (lastO (l.take p)) l[p].key l[p] l[p].key).map (·.val)).getD _ = _
 rw [putF_same]; rfl
end
section
variable {h : List TxnV} {L : List Nat}
theorem Ser.opTo_end {j : Nat} (hj : j < L.length) (k : Int) : opTo (thereTo h L j) (opsAt h L[j]) (opsAt h L[j]).length k = thereTo h L (j + 1) k := by
 rw [thereTo_succ hj]
 unfold opTo
 rw [List.take_length]
theorem Ser.right (hc : checkI h = 0) (q : Ser h L) {j : Nat} (hj : j < L.length) {p : Nat} (hp : p < (opsAt h L[j]).length) (hw : (opsAt h L[j])[p].wr = false) : opTo (thereTo h L j) (opsAt h L[j]) p (opsAt h L[j])[p].key = (opsAt h L[j])[p].val := by
 have hs := q.snd
 unfold soundTo at hs
 have hs1 := List.all_eq_true.1 hs _ (List.mem_range.2 (q.lt hj))
 unfold soundOf at hs1
 rw [Bool.and_eq_true] at hs1
 exact op_right (keys_at0 (check_zero hc).2.2.2 (q.lt hj)) hs1.2 (fun o ho => there_read hc q hj ho) hp hw
def serG (h : List TxnV) (L : List Nat) : Nat → List TxnV
 | 0 => []
 | j + 1 => serG h L j ++ (match L[j]? with
  | none => []
  | some i => match h[i]? with
   | none => []
   | some t => [⟨t.s, 2 * (j : Int), 2 * (j : Int) + 1, t.v, t.l⟩])
theorem Ser.serG_succ (q : Ser h L) {j : Nat} (hj : j < L.length) : serG h L (j + 1) = serG h L j ++ [⟨(h[L[j]]'(q.lt hj)).s, 2 * (j : Int), 2 * (j : Int) + 1, (h[L[j]]'(q.lt hj)).v, (h[L[j]]'(q.lt hj)).l⟩] := by
 rw [serG, List.getElem?_eq_getElem hj]
 simp only
 rw [List.getElem?_eq_getElem (q.lt hj)]
theorem Ser.serG_len (q : Ser h L) : ∀ j, j ≤ L.length → (serG h L j).length = j
 | 0, _ => rfl
 | j + 1, hj => by rw [q.serG_succ (by omega), List.length_append, q.serG_len j (by omega)]; rfl
theorem Ser.serG_at (q : Ser h L) : ∀ j (hj : j ≤ L.length) i (hi : i < j), (serG h L j)[i]? = some ⟨(h[L[i]'(by omega)]'(q.lt (by omega))).s, 2 * (i : Int), 2 * (i : Int) + 1, (h[L[i]'(by omega)]'(q.lt (by omega))).v, (h[L[i]'(by omega)]'(q.lt (by omega))).l⟩
 | 0, _, i, hi => by omega
 | j + 1, hj, i, hi => by
  have hl := q.serG_len j (by omega)
  rw [q.serG_succ (by omega)]
  by_cases e : i < j
  ·rw [List.getElem?_append_left (by omega)]
   exact q.serG_at j (by omega) i e
  ·have : i = j := by omega
   subst this
   rw [List.getElem?_append_right (by omega), hl, Nat.sub_self]
   rfl
def whereN (L : List Nat) (i : Nat) : Nat := L.findIdx fun x => x == i
theorem whereN_at {L : List Nat} (hd : L.Nodup) {j : Nat} (hj : j < L.length) : whereN L L[j] = j := by
 have hi : whereN L L[j] < L.length := by unfold whereN; rw [List.findIdx_lt_length]; exact ⟨_, List.getElem_mem hj, by simp⟩
 have h1 : L[whereN L L[j]] = L[j] := beq_iff_eq.1 (List.findIdx_getElem (p := fun x => x == L[j]) (xs := L) (w := hi))
 rw [List.nodup_iff_pairwise_ne, List.pairwise_iff_getElem] at hd
 rcases Nat.lt_trichotomy (whereN L L[j]) j with e | e | e
 ·exact absurd h1 (hd _ _ hi hj e)
 ·exact e
 ·exact absurd h1.symm (hd _ _ hj hi e)
theorem Ser.turn (q : Ser h L) : IsoT h.length (fun j => L.getD j 0) (whereN L) := by
 have hl := q.len
 have at_ : ∀ j, j < h.length → L.getD j 0 = L[j]! := fun j hj => by simp [List.getD]
 have gd : ∀ j (hj : j < L.length), L.getD j 0 = L[j] := fun j hj => by simp [List.getD, List.getElem?_eq_getElem hj]
 have mem : ∀ i, i < h.length → ∃ j, ∃ hj : j < L.length, L[j] = i := fun i hi => by
  obtain ⟨j, hj, e⟩ := List.mem_iff_getElem.1 (q.perm.mem_iff.2 (List.mem_range.2 hi)); exact ⟨j, hj, e⟩
 refine ⟨fun j hj => ?_, fun i hi => ?_, fun i hi => ?_, fun j hj => ?_⟩
 ·show L.getD j 0 < _
  rw [gd j (by omega)]; exact q.lt (by omega)
 ·obtain ⟨j, hj, rfl⟩ := mem i hi
  rw [whereN_at q.nd hj]; omega
 ·obtain ⟨j, hj, rfl⟩ := mem i hi
  show L.getD (whereN L L[j]) 0 = _
  rw [whereN_at q.nd hj, gd j hj]
 ·show whereN L (L.getD j 0) = j
  rw [gd j (by omega), whereN_at q.nd (by omega)]
theorem id_ren (l : List OpV) : l.map (renO id id) = l := by
 have : (renO id id) = id := by funext o; rfl
 rw [this, List.map_id]
theorem Ser.ren (q : Ser h L) : Ren h (serG h L L.length) (fun j => L.getD j 0) (whereN L) id id := by
 have hl := q.len
 refine ⟨by rw [q.serG_len _ (Nat.le_refl _), hl], q.turn, fun j hj => ?_, fun a b _ _ e => e, fun a b _ _ e => e, rfl⟩
 have hjL : j < L.length := by omega
 have e := q.serG_at L.length (Nat.le_refl _) j hjL
 have gd : L.getD j 0 = L[j] := by simp [List.getD, List.getElem?_eq_getElem hjL]
 show opsAt (serG h L L.length) j = (opsAt h (L.getD j 0)).map (renO id id)
 rw [id_ren, gd, opsAt_eq (q.lt hjL)]
 unfold opsAt
 rw [e]; rfl
theorem Ser.at (q : Ser h L) {j : Nat} (hj : j < (serG h L L.length).length) : ∃ hjL : j < L.length, (serG h L L.length)[j].s = (h[L[j]]'(q.lt hjL)).s ∧ (serG h L L.length)[j].b = 2 * (j : Int) ∧ (serG h L L.length)[j].c = 2 * (j : Int) + 1 ∧ (serG h L L.length)[j].l = (h[L[j]]'(q.lt hjL)).l := by
 have hjL : j < L.length := by rw [q.serG_len _ (Nat.le_refl _)] at hj; exact hj
 have e := q.serG_at L.length (Nat.le_refl _) j hjL
 rw [List.getElem?_eq_getElem hj] at e
 have e := Option.some.inj e
 refine ⟨hjL, ?_, ?_, ?_, ?_⟩ <;> rw [e]
theorem Ser.check (hc : checkI h = 0) (q : Ser h L) : checkI (serG h L L.length) = 0 := by
 obtain ⟨hp, hv, hst, hse⟩ := check_rightB hc
 have h64 := (check_zero hc).1
 have hl := q.len
 have hlen := q.serG_len L.length (Nat.le_refl _)
 have hbc : ∀ t ∈ serG h L L.length, t.b < t.c := fun t ht => by
  obtain ⟨j, hj, rfl⟩ := List.mem_iff_getElem.1 ht
  obtain ⟨hjL, _, b, c, _⟩ := q.at hj
  rw [b, c]; omega
 refine q.ren.check hc ?_ ?_ ?_
 ·unfold partsB
  rw [List.all_eq_true]
  intro t ht
  obtain ⟨j, hj, rfl⟩ := List.mem_iff_getElem.1 ht
  obtain ⟨hjL, a, b, c, d⟩ := q.at hj
  obtain ⟨m1, m2⟩ := may_at hp (List.getElem_mem (q.lt hjL))
  rw [a, b, c, d, mayT_yes ⟨m1.1, m1.2.1, by omega, by omega, by omega, m1.2.2.2.2.2.1, m1.2.2.2.2.2.2⟩]
  unfold allM
  rw [List.all_eq_true]; exact m2
 ·have hap : ∀ i j, ∀ hj : j < (serG h L L.length).length, ∀ hi : i < j, Apart ((serG h L L.length)[i]'(by omega)) (serG h L L.length)[j] := by
   intro i j hj hi
   obtain ⟨_, _, b1, c1, _⟩ := q.at (show i < (serG h L L.length).length by omega)
   obtain ⟨_, _, b2, c2, _⟩ := q.at hj
   refine ⟨?_, ?_, ?_, ?_⟩ <;> simp only [b1, c1, b2, c2] <;> omega
  have := st_nodup hbc hap (serG h L L.length).length (Nat.le_refl _)
  rw [List.take_length] at this
  exact decide_eq_true this
 ·refine ses_mk fun j hj i hi _ => ?_
  obtain ⟨_, _, _, c1, _⟩ := q.at (show i < (serG h L L.length).length by omega)
  obtain ⟨_, _, b2, _, _⟩ := q.at hj
  rw [c1, b2]; omega
theorem Ser.ok (hok : ∀ t ∈ h, t.ok) (hc : checkI h = 0) (q : Ser h L) : ∀ t ∈ serG h L L.length, t.ok := fun t ht => by
 have h64 := (check_zero hc).1
 have hl := q.len
 obtain ⟨j, hj, rfl⟩ := List.mem_iff_getElem.1 ht
 obtain ⟨hjL, a, b, c, d⟩ := q.at hj
 have hm := hok _ (List.getElem_mem (q.lt hjL))
 refine ⟨⟨by rw [a]; exact hm.1.1, by rw [b]; unfold IntOk; omega, by rw [c]; unfold IntOk; omega⟩, fun o ho => ?_⟩
 rw [d] at ho
 exact hm.2 o ho
theorem Ser.short (hsh : Short h) (q : Ser h L) : Short (serG h L L.length) := fun t ht => by
 obtain ⟨j, hj, rfl⟩ := List.mem_iff_getElem.1 ht
 obtain ⟨hjL, _, _, _, d⟩ := q.at hj
 rw [d]; exact hsh _ (List.getElem_mem (q.lt hjL))
theorem Ser.strict (hc : checkI h = 0) (q : Ser h L) : keptL (serG h L L.length) ((11 : Nat) : Int) (List.range (serG h L L.length).length) = true := by
 have hx := q.check hc
 have hr := q.ren
 have h64 := (check_zero hc).1
 have hl := q.len
 have hgl := q.serG_len L.length (Nat.le_refl _)
 have hC : clI ((askN ((11 : Nat) : Int) : Nat) : Int) < 9223372036854775808 := by have := clI_lt ((askN ((11 : Nat) : Int) : Nat) : Int); omega
 have hC7 : clI ((askN ((7 : Nat) : Int) : Nat) : Int) < 9223372036854775808 := by have := clI_lt ((askN ((7 : Nat) : Int) : Nat) : Int); omega
 have gd : ∀ j (hj : j < L.length), L.getD j 0 = L[j] := fun j hj => by simp [List.getD, List.getElem?_eq_getElem hj]
 have base : ∀ j, j < L.length → ∀ i, (baseN (serG h L L.length) (clI ((askN ((11 : Nat) : Int) : Nat) : Int)) j).testBit i = true → i < j := by
  intro j hj i hb
  obtain ⟨h1, h2⟩ := (baseN_bit (by omega)).1 hb
  rw [baseM_iff _ _ hC] at h2
  rcases h2 with h2 | ⟨_, h2⟩ | ⟨_, h2⟩
  ·obtain ⟨a, _, c⟩ := (prsTo_iff _ _ i j h1 (by omega) _).1 h2
   have a : i < L.length := by omega
   rw [hr.fro hc hx (by omega) (by omega)] at c
   have c : froP h L[i] L[j] = true := by rw [← gd i a, ← gd j hj]; exact c
   have hm := q.base j hj L[i] ((baseN_bit (by have := q.lt hj; omega)).2 ⟨by have := q.lt a; omega, (baseM_iff _ _ hC7 _ _).2 (.inl ((prsTo_iff _ _ L[i] L[j] (by have := q.lt a; omega) (by have := q.lt hj; omega) _).2 ⟨q.lt a, q.lt hj, c⟩))⟩)
   obtain ⟨k, hk, e⟩ := List.mem_take_iff_getElem.1 hm
   have hd := List.pairwise_iff_getElem.1 (List.nodup_iff_pairwise_ne.1 q.nd)
   rcases Nat.lt_trichotomy k i with w | w | w
   ·exact absurd e (hd k i (by omega) a w)
   ·omega
   ·exact absurd e.symm (hd i k a (by omega) w)
  ·have := ((prsTo_iff _ _ i j h1 (by omega) _).1 h2).2.2
   unfold sesP at this
   rw [Bool.and_eq_true, decide_eq_true_eq] at this
   exact this.1
  ·obtain ⟨a, b, c⟩ := (prsTo_iff _ _ i j h1 (by omega) _).1 h2
   unfold timP at c
   rw [decide_eq_true_eq, cAt_eq a, bAt_eq b] at c
   obtain ⟨_, _, _, c1, _⟩ := q.at a
   obtain ⟨_, _, b2, _, _⟩ := q.at b
   rw [c1, b2] at c; omega
 have hsub : ∀ j, j ≤ L.length → ∀ i, (plS (rr j)).testBit i = decide (i < j) := fun j hj i => plS_rr (by omega)
 unfold keptL
 rw [Bool.and_eq_true, Bool.and_eq_true]
 refine ⟨ser_bits.2.2.1, by rw [hr.sound hc hx]; exact q.snd, allT_of _ [] fun j hj => ?_⟩
 rw [List.length_range] at hj
 have hjL : j < L.length := by omega
 have e1 : ((List.range (serG h L L.length).length).take j).reverse ++ [] = rr j := by
  rw [List.append_nil, List.take_range, Nat.min_eq_left (by omega)]; rfl
 rw [e1, List.getElem_range]
 have hbj : ∀ i, (baseN (serG h L L.length) (clI ((askN ((11 : Nat) : Int) : Nat) : Int)) j).testBit i = true → (plS (rr j)).testBit i = true := fun i hi => by
  rw [hsub j (by omega), decide_eq_true_eq]; exact base j hjL i hi
 have hg : RowG (serG h L L.length) (clI ((askN ((11 : Nat) : Int) : Nat) : Int)) (rr j) := by
  refine ⟨by unfold rr; exact (List.reverse_perm _).nodup_iff.2 List.nodup_range, fun k hk => by have := mem_rr.1 hk; omega, fun k hk i hi => ?_⟩
  have hk := mem_rr.1 hk
  rw [ahead_rr hk, hsub k (by omega), decide_eq_true_eq]
  exact base k (by omega) i hi
 unfold tryP
 rw [decide_eq_true hj, Bool.true_and, show (!decide (j ∈ rr j)) = true by simp [mem_rr], Bool.true_and, Bool.and_eq_true]
 refine ⟨(inB_bits (baseN_set ..)).2 hbj, ?_⟩
 rw [next_all hg ser_bits.2.1 hbj]
 have hrr : ∀ i ∈ rr j, i < h.length := fun i hi => by have := mem_rr.1 hi; omega
 have em : (rr j).map (fun j => L.getD j 0) = (L.take j).reverse := by
  unfold rr
  rw [List.map_reverse]
  congr 1
  apply List.ext_getElem
  ·simp; omega
  ·intro i h1 h2
   have hi : i < j := by simpa using h1
   simp only [List.getElem_map, List.getElem_range, List.getElem_take]
   exact gd i (by omega)
 have hs := IsoS.row q.turn h64 hrr
 have ha : ∀ k, k < h.length → IsoS h.length (fun j => L.getD j 0) (aheadL (rr j) k) (aheadL ((rr j).map (fun j => L.getD j 0)) (L.getD k 0)) := fun k hk => IsoS.ahead q.turn h64 hrr k hk
 rw [em] at hs ha
 have hq := hr.readsP hc hx (j := j) (aF := aheadL (rr j)) (aG := aheadL (L.take j).reverse) (by omega) hs ha
 rw [hq]
 show readsP h _ _ (L.getD j 0) = true
 rw [gd j hjL]
 exact q.reads j hjL
end
end

section
open Go.RowKit
theorem least_ex (h : List TxnV) (x : Nat) (L : List Int) : ∃ X : Mat, LeastIs h x L X := by
 classical
 exact ⟨fun i j => decide (Must (startM h (x : Int) (chainR L)) (chainR L) (trB x) (pfB x) i j), fun i j _ _ => by rw [decide_eq_true_eq]⟩
section
variable {h : List TxnV}
end
section
variable {w w' : World} {g : Nat} {r : Nat → Bool} {ws : Nat → Value × Value}
end
section
variable {w w' : World} {b0 : Nat} {vo vs : Value} {l : List Int} {LL : List (List Int)}
end
section
variable {w0 w : World} {B b : Nat} {h : List TxnV}
end
end

section
open Go.RowKit
theorem below_app0 {B B' : Nat} {W wr w1 : World} {o : Obj} {e : TypeId} {n size : Nat} {v : Value} {xs : List Value} (hb : Below B W wr) (hB : B ≤ W.heap.size) (hown : wr.ownsRow B' e size v n xs) (hBB : B ≤ B')
  (hg : (wr.alloc o).grownBy w1 v.ownBlock) : Below B W w1 :=
 (hb.alloc (Nat.le_trans hB hb.size) o).grown hg (by have := hb.size; simp; omega) fun k hk => Nat.le_trans hBB (hown.lt k hk).1
end

section
open Go.RowKit
section
variable {h : List TxnV}
end
theorem fuel_most : fuelN 4611686018427387904 = 4611686018427387904 := by decide +kernel
section
variable {h : List TxnV} {ws : Nat → Value × Value} {b0 : Nat} {w w' : World}
end
theorem vec_few {h : List TxnV} (hn : h.length ≤ 7) : ∀ l : Nat, l < 12 → (decN h (l : Int)).2.2 + 2 ≤ 1099511627776 := fun l _ => by
 have h1 := dec_tries h (l : Int)
 have h2 := tr_le h.length hn
 omega
end

section
open Go.RowKit
theorem infoTxn : (Tryz.prog.info? 59).map (fun i => (i.zero, i.size, i.bytes)) = some (some (.agg #[.int .i64 0, .int .i64 0, .int .i64 0, .slice none 0 0]), 4, 48) := by kernel_rfl
end

section
open Go.RowKit
theorem txV_app (l m : List TxnV) : txV (l ++ m) = txV l ++ txV m := by simp [txV]
end

section
open Go.RowKit
theorem row4_newM (w : World) (x y z u : Value) (t : TypeId) : ∀ j v, [x, y, z, u][j]? = some v → (w.alloc (.cells #[x, y, z, u] t)).cell? ((⟨w.heap.size, 0, none⟩ : Addr).add j) = some v := fun j v hv => by
 rw [Addr.add_lit, cell_of_row _ _ _ _ _ _ (heap_alloc_new w _)]
 simpa using hv
end

section
open Go.RowKit
theorem ser_slice {w : World} {v : Value} {l : List OpV} (h : Ops w v l) : ∃ ua un uc, v = .slice ua un uc := by
 obtain ⟨_, ao, cap, rfl, _⟩ := h
 exact ⟨ao, _, cap, rfl⟩
section
variable {h : List TxnV} {L : List Nat}
theorem Ser.ops_at (q : Ser h L) {j : Nat} (hj : j < (serG h L L.length).length) : ∃ hjL : j < L.length, (serG h L L.length)[j].v = (h[L[j]]'(q.lt hjL)).v ∧ (serG h L L.length)[j].l = (h[L[j]]'(q.lt hjL)).l := by
 have hjL : j < L.length := by rw [q.serG_len _ (Nat.le_refl _)] at hj; exact hj
 have e := q.serG_at L.length (Nat.le_refl _) j hjL
 rw [List.getElem?_eq_getElem hj] at e
 have e := Option.some.inj e
 refine ⟨hjL, ?_, ?_⟩ <;> rw [e]
theorem Ser.txns (q : Ser h L) {w : World} {va v : Value} (hT : Txns w va h) (hR : Row w v (serG h L L.length).length 4 (txV (serG h L L.length))) : Txns w v (serG h L L.length) := ⟨hR, fun t ht => by
 obtain ⟨j, hj, rfl⟩ := List.mem_iff_getElem.1 ht
 obtain ⟨hjL, e1, e2⟩ := q.ops_at hj
 rw [e1, e2]
 exact hT.2 _ (List.getElem_mem (q.lt hjL))⟩
theorem Ser.step (hc : checkI h = 0) (q : Ser h L) {k : Nat} (hk : k < L.length) :
  (∀ p (hp : p < (h[L[k]]'(q.lt hk)).l.length), (h[L[k]]'(q.lt hk)).l[p].wr = true → ∀ x, opTo (thereTo h L k) (h[L[k]]'(q.lt hk)).l (p + 1) x = if x = (h[L[k]]'(q.lt hk)).l[p].key then (h[L[k]]'(q.lt hk)).l[p].val else opTo (thereTo h L k) (h[L[k]]'(q.lt hk)).l p x) ∧
  (∀ p (hp : p < (h[L[k]]'(q.lt hk)).l.length), (h[L[k]]'(q.lt hk)).l[p].wr = false → (∀ x, opTo (thereTo h L k) (h[L[k]]'(q.lt hk)).l (p + 1) x = opTo (thereTo h L k) (h[L[k]]'(q.lt hk)).l p x) ∧ opTo (thereTo h L k) (h[L[k]]'(q.lt hk)).l p (h[L[k]]'(q.lt hk)).l[p].key = (h[L[k]]'(q.lt hk)).l[p].val) ∧
  (∀ x, opTo (thereTo h L k) (h[L[k]]'(q.lt hk)).l (h[L[k]]'(q.lt hk)).l.length x = thereTo h L (k + 1) x) ∧ (h[L[k]]'(q.lt hk)).l.length ≤ 1024 := by
 have e := opsAt_eq (q.lt hk)
 have h1 := fun p hp hw => q.right hc hk (p := p) hp hw
 have h2 := fun x => Ser.opTo_end (h := h) hk x
 rw [e] at h1 h2
 refine ⟨fun p hp hw x => opTo_write hp hw x, fun p hp hw => ⟨fun x => opTo_read hp hw x, h1 p hp hw⟩, h2, ?_⟩
 have q1 := opsN_take h L[k] (q.lt hk)
 have q2 := opsN_le h (L[k] + 1)
 have q3 := (check_zero hc).2.1
 omega
theorem Ser.decides (hc : checkI h = 0) (q : Ser h L) (h7 : h.length ≤ 7) (v : Value) (w : World) (hd : DecRes (serG h L L.length) 11 v w) : ∃ ao an ac bo bn bc, v = .tuple #[.agg #[.slice ao an ac, .slice bo bn bc], .bool true, .bool true] := by
 have hl := q.len
 have hgl := q.serG_len L.length (Nat.le_refl _)
 unfold DecRes at hd
 rw [if_pos (by omega)] at hd
 cases hf : (ordersN (serG h L L.length).length).find? (keptL (serG h L L.length) 11) with
 | none =>
  exact absurd (q.strict hc) (List.find?_eq_none.1 hf _ (orders_has (List.Perm.refl _)))
 | some r =>
  rw [hf] at hd
  obtain ⟨vo, vs, X, rfl, _, q2, q3⟩ := hd
  obtain ⟨ao, ac, rfl, _⟩ := q2.form
  obtain ⟨bo, bc, rfl, _⟩ := q3.form
  exact ⟨_, _, _, _, _, _, rfl⟩
theorem ser_dec (hc : checkI h = 0) (hy : (decW h 7).2.2 = true) : ∃ r : List Nat, (decW h 7).1 = r.map Int.ofNat ∧ Ser h r := by
 rw [decW_some hc, Option.isSome_iff_exists] at hy
 obtain ⟨r, hf⟩ := hy
 obtain ⟨X, hX⟩ := least_ex h (askN 7) (r.map Int.ofNat)
 exact ⟨r, (dec_same hc hf hX).1, ser_of hc (orders_perm (List.mem_of_find?_eq_some hf)) (List.find?_some hf)⟩
end
theorem serial9_walk (va : Value) (h : List TxnV) (w : World) (ht : Tab w) (hK : Kinds w) (hT : Txns w va h) (hok : ∀ t ∈ h, t.ok) (hsh : Short h) :
  Calls Tryz.prog 7 #[va] w fun e w' => e = .returned (.bool true) ∧ Below w.heap.size w w' := by
 obtain ⟨i1, hj1, hy0, hy1, hy2⟩ := info_parts infoTxn
 have hg := ht.pos
 have HT : Hid (∀ wx, Below w.heap.size w wx → Tab wx ∧ Kinds wx) := hid (fun wx hb => ⟨ht.below hb hg, hK.below hb⟩)
 have HH := hid (fun wx (hx : Below w.heap.size w wx) => hT.below hx)
 obtain ⟨ao, cap, rfl, hal⟩ := hT.form
 have HOK := hid hok
 have HSH := hid hsh
 have C0 := hid (lone_any w)
 clear ht hK hT hok
 go_enter Tryz.func7, Tryz.ntmps7
 go_wp2_with fail
 refine (C0.out).mono ?_
 rintro e w1 ⟨rfl, hb1⟩
 clear C0
 by_cases h5 : 7 < h.length
 ·have h5i : (7 : Int) < (h.length : Int) := by omega
  clear hsh
  go_wp2_with fail
  go_ret
  exact ⟨rfl, hb1⟩
 have h5i : ¬ (7 : Int) < (h.length : Int) := by omega
 have CC := hid (rcheck_any _ h w1 (HH.out _ hb1) hsh)
 rw [← check_ref] at CC
 by_cases hc : checkI h = 0
 rotate_left
 ·have hcn : ¬ checkI h = 0 := hc
  generalize checkI h = c at *
  have hcb : (c != 0) = true := by rw [bne_iff_ne]; exact hcn
  clear hsh hc
  go_wp2_with fail
  refine (CC.out).mono ?_
  rintro e w2 ⟨rfl, hb2⟩
  have hb2 := below_then hb1 hb2
  go_wp2_with fail
  go_ret
  exact ⟨rfl, hb2⟩
 rw [hc] at CC
 go_wp2_with fail
 refine (CC.out).mono ?_
 rintro e w2 ⟨rfl, hb2⟩
 have hb2 := below_then hb1 hb2
 have hTK := HT.out _ hb2
 have HM : Hid ((decN h 7).2.2 + 2 ≤ 1099511627776) := hid (vec_few (h := h) (by omega) 7 (by omega))
 have H7 : Hid (h.length ≤ 7) := hid (by omega)
 have CO := hid (of_done _ h w2 (HH.out _ hb2) HOK.out HSH.out hc)
 have HC := hid hc
 clear hb1 CC hc hsh hTK
 go_wp2_with fail
 refine (CO.out).mono ?_
 rintro e w3 ⟨⟨B, rfl, hB, hO⟩, h3⟩
 have hb3 := below_then hb2 h3
 have HT3 := hid (HT.out _ hb3)
 have HO3 := hid hO
 have CN := hid (fnew_any 4611686018427387904 w3)
 rw [fuel_most] at CN
 clear CO hb2 h3 hO hB
 go_wp2_with fail
 refine CN.out.mono ?_
 rintro e w7 ⟨T, rfl, hm7, hT7, h7⟩
 have CD := hid (sdecide_ok (w := w7) 7 T 4611686018427387904 0 HO3.out HT3.out.1 HT3.out.2 HC.out h7 hT7 hm7 HM.out (fun _ => by have := HM.out; omega) (.inl rfl))
 clear CN hm7 hT7 h7
 go_wp2_with fail
 refine CD.out.mono ?_
 rintro e w8 ⟨vo, vs, rfl, hI8, hL8, _, _, hbb8⟩
 have hb8 := below_then hb3 hbb8
 obtain ⟨qo, qc, rfl, _⟩ := hL8.form
 generalize (decW h 7).2.1.length = nk at *
 obtain ⟨q, hq⟩ : ∃ q, (decW h 7).2.2 = q := ⟨_, rfl⟩
 rw [hq]
 clear CD hbb8 hL8 HM HO3 HT3 hb3
 cases q with
 | false =>
  obtain ⟨po, pc, rfl, _⟩ := hI8.form
  generalize (decW h 7).1.length = nl at *
  have hbz := below_then hb8 (box_below w8 (.cells #[.slice po nl pc, .slice qo nk qc] 37))
  clear hI8 hq
  go_wp2_with fail
  go_ret
  exact ⟨rfl, hbz⟩
 | true =>
  obtain ⟨r, hr, hs⟩ := ser_dec HC.out hq
  rw [hr] at hI8
  obtain ⟨po, pc, rfl, _⟩ := hI8.form
  rw [List.length_map] at *
  have HSer := hid hs
  have HRL := hid hs.len
  have W9 := WitT.made w8 (.slice po r.length pc) (.slice qo nk qc) 37
  have hx9 := box_below w8 (.cells #[.slice po r.length pc, .slice qo nk qc] 37)
  have hb9 := below_then hb8 hx9
  have hI9 := hI8.below hx9
  clear hq hr hs hI8 hx9 hb8
  go_upto_region 11 with fail
  generalize w8.alloc (.cells #[.slice po r.length pc, .slice qo nk qc] 37) = w9 at *
  generalize w8.heap.size = x9 at *
  have hm0 := MapI.made eI Tryz.prog 3 w9
  have hxA := box_below w9 (.map #[] 0)
  have c0 := (W9.below hxA).c0
  have HW9 := hid (fun wx (hx : Below w9.heap.size w9 wx) => (W9.below hx).c0)
  have HI9 := hid (fun wx (hx : Below w9.heap.size w9 wx) => hI9.below hx)
  have HH9 := hid (fun wx (hx : Below w9.heap.size w9 wx) => HH.out wx (below_then hb9 hx))
  have HT9 := hid (fun wx (hx : Below w9.heap.size w9 wx) => HT.out wx (below_then hb9 hx))
  have HB9 := hid hb9
  have HXA := hid hxA
  have hmm := @run_makeMap Tryz.prog
  clear W9 hI9 HH HT hb9 hxA
  go_wp2_with fail
  clear hmm c0
  go_loopw [55] (fun i wr => ∃ (k n c : Nat) (F : Int → Option Int), k ≤ r.length ∧ i = .int .i64 k ∧ n ≤ 1024 * k ∧ Hid (∀ x, (F x).getD 0 = thereTo h r k x) ∧ MapI eI Tryz.prog 3 wr w9.heap.size n F c ∧ Hid (Below w9.heap.size w9 wr)) (fun i _ => r.length - (intOf i).toNat)
  case atStart => exact ⟨0, 0, 0, fun _ => none, by omega, rfl, by omega, hid (fun x => rfl), hm0, HXA⟩
  case round =>
   obtain ⟨k, n, c, F, hk, rfl, hn, HF, hM, HB⟩ := hrel
   clear hm0
   by_cases hlt : k < r.length
   ·have hki : (k : Int) < (r.length : Int) := by omega
    have hk7 : k < 7 := by have := HRL.out; have := H7.out; omega
    obtain ⟨g, o, hao, hc0⟩ := (HI9.out wr HB.out).at (k := k) (by simpa using hlt)
    cases hao
    have hmv : (r.map Int.ofNat)[k]'(by simpa using hlt) = (r[k] : Int) := by simp
    rw [hmv] at hc0
    have hml := HSer.out.lt hlt
    have hmi : (r[k] : Int) < (h.length : Int) := by omega
    obtain ⟨g1, o1, hao1, _, _, _, d3⟩ := (HH9.out wr HB.out).at hml
    cases hao1
    have HOP := hid (fun wx (hx : Below w9.heap.size w9 wx) => (HH9.out wx hx).ops hml)
    obtain ⟨s1, s2, s3, hll⟩ := HSer.out.step HC.out hlt
    have HW0 := hid s1
    have HR0 := hid s2
    have HE := hid s3
    have HTK := hid (HOK.out h[r[k]] (List.getElem_mem hml))
    clear s1 s2 s3 hmv
    generalize h[r[k]] = t at *
    generalize r[k] = m at *
    obtain ⟨s, b, cc, v, l⟩ := t
    simp only at d3 HOP HW0 HR0 HE hll
    generalize thereTo h r k = T at *
    obtain ⟨ai, capi, rfl, hli⟩ := (HOP.out wr HB.out).form
    go_wp2_with fail
    go_loopw [65] (fun i wx => ∃ (j n2 c2 : Nat) (F2 : Int → Option Int), j ≤ l.length ∧ i = .int .i64 j ∧ n2 ≤ 1024 * k + j ∧ Hid (∀ x, (F2 x).getD 0 = opTo T l j x) ∧ MapI eI Tryz.prog 3 wx w9.heap.size n2 F2 c2 ∧ Hid (Below w9.heap.size w9 wx)) (fun i _ => l.length - (intOf i).toNat)
    case atStart => exact ⟨0, n, c, F, by omega, rfl, by omega, hid (fun x => HF.out x), hM, HB⟩
    case round =>
     obtain ⟨j, n2, c2, F2, hj, rfl, hn2, HF2, hM2, HB2⟩ := hrel
     clear hM hc0 d3
     by_cases hltj : j < l.length
     ·have hkj : (j : Int) < (l.length : Int) := by omega
      obtain ⟨g2, o2, hao2, e0, e1, e2⟩ := (HOP.out _ HB2.out).at hltj
      cases hao2
      have HWj := hid (HW0.out j hltj)
      have HRj := hid (HR0.out j hltj)
      have hox := HTK.out.2 l[j] (List.getElem_mem hltj)
      generalize l[j] = x at *
      obtain ⟨xw, xk, xv⟩ := x
      simp only at e0 e1 e2 HWj HRj
      have hkk := inI_of hox.1
      have hM3 := hM2.alloc (.cells #[.bool xw, .int .i64 xk, .int .i64 xv] 56)
      have hb3 := HB2.out.alloc HB2.out.size (.cells #[.bool xw, .int .i64 xk, .int .i64 xv] 56)
      have hszj := HB2.out.size
      clear hox hM2
      cases xw with
      | false =>
       have hv : (F2 xk).getD 0 = xv := by rw [HF2.out]; exact (HRj.out rfl).2
       have hqq : (xv != xv) = false := by simp
       have HF3 : Hid (∀ x, (F2 x).getD 0 = opTo T l (j + 1) x) := hid (fun x => by rw [HF2.out, (HRj.out rfl).1])
       clear HF2 HRj HWj
       go_wp2_with (first | (at_lookup; refine wpList_lookI _ rfl _ _ 68 rfl 3 3 keyI mapII 0 (zeroI _) _ _ _ _ rfl hM3 _ rfl hkk ?_; rw [hv]; simp only [eI]) | go_in)
       go_roundw
       case rel => exact ⟨j + 1, n2, c2, F2, by omega, by go_num, by omega, HF3, hM3, hid hb3⟩
       case measure => simp [intOf]; omega
      | true =>
       have HF3 : Hid (∀ x, (putF F2 xk xv x).getD 0 = opTo T l (j + 1) x) := hid (fun x => by
        rw [HWj.out rfl x]
        unfold putF
        by_cases e : x = xk
        ·rw [if_pos e, if_pos e]; rfl
        ·rw [if_neg e, if_neg e]; exact HF2.out x)
       clear HF2 HRj HWj
       go_wp2_with (first | (at_mapUpdate; refine wpList_putI _ rfl _ _ _ 68 rfl 3 3 keyI mapII _ _ _ _ rfl hM3 (by unfold maxLen; omega) _ rfl hkk xv rfl ?_; intro w1 hM4 hgm; go_frame) | go_in)
       have hb4 := hb3.grown hgm hb3.size (fun j hj => by cases hj; omega)
       go_wp2_with fail
       go_roundw
       case rel => exact ⟨j + 1, n2 + 1, _, _, by omega, by go_num, by omega, HF3, hM4, hid hb4⟩
       case measure => simp [intOf]; omega
     ·obtain rfl : j = l.length := by omega
      have HF3 : Hid (∀ x, (F2 x).getD 0 = thereTo h r (k + 1) x) := hid (fun x => by rw [HF2.out, HE.out])
      go_wp2_with fail
      go_roundw
      case rel => exact ⟨k + 1, n2, c2, F2, by omega, by go_num, by omega, HF3, hM2, HB2⟩
      case measure => simp [intOf]; omega
   ·obtain rfl : k = r.length := by omega
    have hki : ¬ (r.length : Int) < (r.length : Int) := by omega
    have c0 := HW9.out wr HB.out
    clear hM HF hlt hk hn
    generalize wr = wS at *
    go_wp2_with fail
    clear c0 HW9 HXA
    go_loopw [13, 88] (fun v i wr => ∃ k : Nat, k ≤ r.length ∧ i = .int .i64 (k : Int) ∧ Hid (wr.ownsRow wS.heap.size 59 4 v (serG h r k).length (txV (serG h r k))) ∧ Hid (Below wS.heap.size wS wr)) (fun _ i _ => r.length - (intOf i).toNat)
    case atStart => exact ⟨0, by omega, rfl, hid (World.ownsRow_nil _ _ _ _), hid (Below.refl _ _)⟩
    case round =>
     obtain ⟨k, hk, rfl, HO, HC2⟩ := hrel
     have hbw := below_then HB.out HC2.out
     by_cases hlt : k < r.length
     ·have hki : (k : Int) < (r.length : Int) := by omega
      obtain ⟨g, o, hao, hc0⟩ := (HI9.out _ hbw).at (k := k) (by simpa using hlt)
      cases hao
      have hmv : (r.map Int.ofNat)[k]'(by simpa using hlt) = (r[k] : Int) := by simp
      rw [hmv] at hc0
      have hml := HSer.out.lt hlt
      have hmi : (r[k] : Int) < (h.length : Int) := by omega
      obtain ⟨g1, o1, hao1, d0, d1, d2, d3⟩ := (HH9.out _ hbw).at hml
      cases hao1
      have HL := hid (HSer.out.serG_succ hlt)
      have hlk := HSer.out.serG_len k hk
      obtain ⟨ua, un, uc, hu⟩ := ser_slice ((HH9.out _ hbw).ops hml)
      rw [hu] at d3 HL
      have h7 := H7.out
      have hka : (k : Int) ≤ 7 := by have := HRL.out; omega
      have hrl7 : r.length ≤ 7 := by have := HRL.out; omega
      clear h7
      clear hmv hu
      generalize h[r[k]] = t at *
      generalize r[k] = m at *
      obtain ⟨s, b, cc, v9, l⟩ := t
      simp only at d0 d1 d2 d3 HL
      have hown := HO.out
      have hbs := HC2.out.size
      clear HO hbw
      go_upto_region 30 with fail
      clear d0 d1 d2 d3 hc0
      obtain ⟨b0, b1, b2, b3⟩ := txnBlock wr (.int .i64 s) (.int .i64 (2 * (k : Int))) (.int .i64 (2 * (k : Int) + 1)) (.slice ua un uc) 59
      have hown := hown.alloc (.cells #[.int .i64 s, .int .i64 (2 * (k : Int)), .int .i64 (2 * (k : Int) + 1), .slice ua un uc] 59)
      have hb8 : Below wS.heap.size wS (wr.alloc (.cells #[.int .i64 s, .int .i64 (2 * (k : Int)), .int .i64 (2 * (k : Int) + 1), .slice ua un uc] 59)) := HC2.out.alloc HC2.out.size _
      generalize wr.alloc (.cells #[.int .i64 s, .int .i64 (2 * (k : Int)), .int .i64 (2 * (k : Int) + 1), .slice ua un uc] 59) = w8 at *
      generalize wr.heap.size = p8 at *
      have hbs8 := hb8.size
      go_wp2_with (first | (at_builtin; refine wpList_append_own _ rfl _ _ 22 rfl wS.heap.size 59 i1 (.agg #[.int .i64 0, .int .i64 0, .int .i64 0, .slice none 0 0]) 4 48 Tryz.underlying22 hj1 hy0 hy1 hy2 rfl (by decide) _ _ _ rfl (hown.alloc _) ⟨_, 0, none⟩ 1 1 [.int .i64 s, .int .i64 (2 * (k : Int)), .int .i64 (2 * (k : Int) + 1), .slice ua un uc] rfl rfl ?c1 ?c2 ?c3 ?c4 ?c5 ?_) | go_in)
      case c1 => exact row4_newM w8 _ _ _ _ _
      case c2 =>
       intro u hu
       simp at hu
       rcases hu with rfl | rfl | rfl | rfl <;> rfl
      case c3 => unfold maxLen; omega
      case c4 => omega
      case c5 => simp; omega
      intro v10 w10 hown10 hg10 _
      have HO10 : Hid (w10.ownsRow wS.heap.size 59 4 v10 (serG h r (k + 1)).length (txV (serG h r (k + 1)))) := hid (by
       rw [HL.out, List.length_append, txV_app, hlk]
       exact hown10)
      have HB10 : Hid (Below wS.heap.size wS w10) := hid (below_app0 hb8 (Nat.le_refl _) hown (Nat.le_refl _) hg10)
      clear hown10 hg10 hown HL b0 b1 b2 b3 hb8
      go_wp2_with fail
      go_roundw
      case rel => exact ⟨k + 1, by omega, by go_num, HO10, HB10⟩
      case measure => simp [intOf]; omega
     ·obtain rfl : k = r.length := by omega
      have hki : ¬ (r.length : Int) < (r.length : Int) := by omega
      have hG := HSer.out.txns (HH9.out _ hbw) (Row.of_owns HO.out)
      have CO2 := hid (of_done _ (serG h r r.length) _ hG (Ser.ok HOK.out HC.out HSer.out) (Ser.short HSH.out HSer.out) (Ser.check HC.out HSer.out))
      obtain ⟨_, ga, gc, rfl, _⟩ := hG.1
      clear HO hG
      go_wp2_with fail
      refine CO2.out.mono ?_
      rintro e wa ⟨⟨B2, rfl, _, hO2⟩, ha⟩
      have hba := below_then hbw ha
      have CB := hid (bdecide_any 11 (serG h r r.length) B2 (B2 + 2) wa hO2 (Ser.check HC.out HSer.out) (HT9.out _ hba).1 (HT9.out _ hba).2)
      have HD := hid (fun v wr hd => HSer.out.decides HC.out H7.out v wr hd)
      clear CO2 hO2 ha
      go_wp2_with fail
      refine CB.out.mono ?_
      rintro e wb ⟨⟨v, rfl, hd⟩, hbb⟩
      obtain ⟨ao, an, ac, bo, bn, bc, rfl⟩ := HD.out _ _ hd
      have hbz := below_then HB9.out (below_then (below_then hba hbb) (box_below wb (.cells #[.slice ao an ac, .slice bo bn bc] 37)))
      clear CB hd HD
      go_wp2_with fail
      go_ret
      exact ⟨rfl, hbz⟩
end

end Go.Proofs.YtadihdkpoeibhaaGreatDoor
