/- Walks and plain facts that the proof of the statement BruteLeast uses, joined: BruP BruQ BruR BruF AxhG AxhL BruG BruH. Conditions: each theorem's own. -/
import Derived.Deep.CutRange
import Derived.OneCell
import Derived.Test.YtfancjmhdbaoeaaGreatDoorPBruteLeast0
import Derived.Test.YtfancjmhdbaoeaaGreatDoorPBruteLeast2
import Derived.Test.YtfancjmhdbaoeaaGreatDoorPBruteLeast3
import Derived.Test.YtfancjmhdbaoeaaGreatDoorPBruteLeast6
import Derived.Test.YtfancjmhdbaoeaaGreatDoorPBruteLeast7
import Derived.Test.YtfancjmhdbaoeaaGreatDoorPBruteLeast8
namespace Go.Proofs.YtfancjmhdbaoeaaGreatDoor
set_option maxRecDepth 100000
open Go.RowKit

/-- The places of a row, each with all those ahead of it, as far as they were gone through. -/
def posTo (k i : Nat) : List (Nat × Nat) := ((List.range k).flatMap fun k' => (List.range k').map fun i' => (i', k')) ++ (List.range i).map fun i' => (i', k)
theorem posTo_step (k i : Nat) : posTo k (i + 1) = posTo k i ++ [(i, k)] := by
  unfold posTo; rw [List.range_succ, List.map_append, List.append_assoc]; rfl
theorem posTo_next (k : Nat) : posTo (k + 1) 0 = posTo k k := by
  unfold posTo; rw [List.range_succ, List.flatMap_append]; simp
theorem mem_pos {n : Nat} {p : Nat × Nat} : p ∈ posTo n 0 ↔ p.1 < p.2 ∧ p.2 < n := by
  unfold posTo
  simp only [List.range_zero, List.map_nil, List.append_nil, List.mem_flatMap, List.mem_range, List.mem_map]
  constructor
  · rintro ⟨k, hk, i, hi, rfl⟩; exact ⟨hi, hk⟩
  · rintro ⟨a, b⟩; exact ⟨p.2, b, p.1, a, rfl⟩
theorem pos_nodup : ∀ n, (posTo n 0).Nodup
  | 0 => by simp [posTo]
  | n + 1 => by
    rw [posTo_next]
    have h : ∀ i, (posTo n i).Nodup := by
      intro i
      induction i with
      | zero => exact pos_nodup n
      | succ i ih =>
        rw [posTo_step, List.nodup_append]
        refine ⟨ih, by simp, fun x hx y hy e => ?_⟩
        simp at hy
        subst hy
        subst e
        unfold posTo at hx
        simp at hx
        omega
    exact h n
/-- One place more: is its pair one of those that are seen? -/
def selStep (row : List Int) (s : List Pr × Nat) (p : Nat × Nat) : List Pr × Nat := (if s.2 % 2 = 1 then s.1 ++ [(row.getD p.1 0, row.getD p.2 0)] else s.1, s.2 / 2)
def selF (row : List Int) (bits : Nat) (ps : List (Nat × Nat)) : List Pr × Nat := ps.foldl (selStep row) ([], bits)
theorem selF_snoc (row : List Int) (bits : Nat) (ps : List (Nat × Nat)) (p : Nat × Nat) : selF row bits (ps ++ [p]) = selStep row (selF row bits ps) p := by unfold selF; rw [List.foldl_append]; rfl
/-- The same, told from the first one on. -/
def selP (row : List Int) : List (Nat × Nat) → Nat → List Pr
  | [], _ => []
  | p :: ps, b => (if b % 2 = 1 then [(row.getD p.1 0, row.getD p.2 0)] else []) ++ selP row ps (b / 2)
theorem selF_selP (row : List Int) : ∀ (ps : List (Nat × Nat)) (m : List Pr) (b : Nat), (ps.foldl (selStep row) (m, b)).1 = m ++ selP row ps b
  | [], m, b => by simp [selP]
  | p :: ps, m, b => by
    rw [List.foldl_cons, show selStep row (m, b) p = (if b % 2 = 1 then m ++ [(row.getD p.1 0, row.getD p.2 0)] else m, b / 2) from rfl, selF_selP row ps, show selP row (p :: ps) b = (if b % 2 = 1 then [(row.getD p.1 0, row.getD p.2 0)] else []) ++ selP row ps (b / 2) from rfl]
    by_cases h : b % 2 = 1
    · rw [if_pos h, if_pos h, List.append_assoc]
    · rw [if_neg h, if_neg h, List.nil_append]
theorem selF_one (row : List Int) (bits : Nat) (ps : List (Nat × Nat)) : (selF row bits ps).1 = selP row ps bits := by unfold selF; rw [selF_selP]; rfl
theorem selF_len (row : List Int) (bits : Nat) (ps : List (Nat × Nat)) : (selF row bits ps).1.length ≤ ps.length := by
  rw [selF_one]
  induction ps generalizing bits with
  | nil => simp [selP]
  | cons p ps ih =>
    unfold selP
    rw [List.length_append, List.length_cons]
    have := ih (bits / 2)
    split <;> simp <;> omega
/-- Each choice of the pairs is that of some number. -/
theorem selP_all (row : List Int) (s : Nat × Nat → Bool) : ∀ (ps : List (Nat × Nat)), ∃ b, b < 2 ^ ps.length ∧ selP row ps b = (ps.filter s).map fun p => (row.getD p.1 0, row.getD p.2 0)
  | [] => ⟨0, by simp, rfl⟩
  | p :: ps => by
    obtain ⟨b, h1, h2⟩ := selP_all row s ps
    cases hs : s p with
    | true =>
      refine ⟨2 * b + 1, by rw [List.length_cons, Nat.pow_succ]; omega, ?_⟩
      unfold selP
      rw [if_pos (by omega), show (2 * b + 1) / 2 = b by omega, h2, List.filter_cons, hs]
      simp
    | false =>
      refine ⟨2 * b, by rw [List.length_cons, Nat.pow_succ]; omega, ?_⟩
      unfold selP
      rw [if_neg (by omega), show 2 * b / 2 = b by omega, h2, List.filter_cons, hs]
      simp
/-- Whatever is chosen are some of the pairs. -/
theorem selP_sub (row : List Int) : ∀ (ps : List (Nat × Nat)) (b : Nat), ∃ s : List (Nat × Nat), s.Sublist ps ∧ selP row ps b = s.map fun p => (row.getD p.1 0, row.getD p.2 0)
  | [], _ => ⟨[], List.Sublist.refl _, rfl⟩
  | p :: ps, b => by
    obtain ⟨s, h1, h2⟩ := selP_sub row ps (b / 2)
    by_cases hb : b % 2 = 1
    · exact ⟨p :: s, h1.cons_cons p, by unfold selP; rw [if_pos hb, h2]; rfl⟩
    · exact ⟨s, h1.cons p, by unfold selP; rw [if_neg hb, h2]; rfl⟩
def anyR (h : List TxnV) (lv : Int) (row : List Int) (q : Nat) : Bool := (List.range (2 ^ q)).any fun b => holdsR h lv row (selP row (posTo row.length 0) b)
theorem getI_at {L : List Nat} {i : Nat} (hi : i < L.length) : (L.map Int.ofNat).getD i 0 = ((L[i] : Nat) : Int) := by
  rw [List.getD_eq_getElem?_getD, List.getElem?_map, List.getElem?_eq_getElem hi]; rfl
theorem pairs_inj {L : List Nat} (hnd : L.Nodup) {p q : Nat × Nat} (hp : p.1 < p.2 ∧ p.2 < L.length) (hq : q.1 < q.2 ∧ q.2 < L.length) (e : ((L.map Int.ofNat).getD p.1 0, (L.map Int.ofNat).getD p.2 0) = ((L.map Int.ofNat).getD q.1 0, (L.map Int.ofNat).getD q.2 0)) : p = q := by
  rw [getI_at (by omega), getI_at hp.2, getI_at (by omega), getI_at hq.2] at e
  obtain ⟨e1, e2⟩ := Prod.mk.inj e
  have a1 : L[p.1] = L[q.1] := Int.ofNat.inj e1
  have a2 : L[p.2] = L[q.2] := Int.ofNat.inj e2
  exact Prod.ext ((List.getElem_inj hnd).1 a1) ((List.getElem_inj hnd).1 a2)
theorem nodup_pairs {L : List Nat} (hnd : L.Nodup) : ∀ (s : List (Nat × Nat)), s.Nodup → (∀ p ∈ s, p.1 < p.2 ∧ p.2 < L.length) → (s.map fun p => ((L.map Int.ofNat).getD p.1 0, (L.map Int.ofNat).getD p.2 0)).Nodup
  | [], _, _ => List.nodup_nil
  | p :: s, hs, hb => by
    obtain ⟨h1, h2⟩ := List.nodup_cons.1 hs
    rw [List.map_cons, List.nodup_cons]
    refine ⟨fun hm => ?_, nodup_pairs hnd s h2 (fun q hq => hb q (List.mem_cons_of_mem _ hq))⟩
    obtain ⟨q, hq, e⟩ := List.mem_map.1 hm
    exact h1 (by rw [← pairs_inj hnd (hb q (List.mem_cons_of_mem _ hq)) (hb p (List.mem_cons_self ..)) e]; exact hq)
theorem ahead_pos {i j : Nat} : ∀ {L : List Nat}, Ahead (L.map Int.ofNat) (i : Int) (j : Int) → ∃ (p q : Nat) (h1 : p < q) (h2 : q < L.length), L[p] = i ∧ L[q] = j
  | [], h => by cases h
  | a :: L, h => by
    rcases h with h | ⟨e, hj⟩
    rotate_left
    · obtain ⟨b, hb, e2⟩ := List.mem_map.1 hj
      obtain ⟨q, hq, e3⟩ := List.getElem_of_mem hb
      exact ⟨0, q + 1, by omega, by simp; omega, Int.ofNat.inj e, by simp [e3]; exact Int.ofNat.inj e2⟩
    · obtain ⟨p, q, h1, h2, e1, e2⟩ := ahead_pos h
      exact ⟨p + 1, q + 1, by omega, by simp; omega, by simpa using e1, by simpa using e2⟩
section
variable {h : List TxnV} {lv : Int} {L : List Nat}
/-- A level is kept by some of all that may be seen just if it is kept by the least. -/
theorem any_kept (hc : checkI h = 0) (hp : L.Perm (List.range h.length)) {q : Nat} (hq : (posTo L.length 0).length = q) : anyR h lv (L.map Int.ofNat) q = keptL h lv L := by
  have h64 := (check_zero hc).1
  have hnd : L.Nodup := (List.Perm.nodup_iff hp).2 List.nodup_range
  have hlt : ∀ k ∈ L, k < 64 := fun k hk => by have := List.mem_range.1 (hp.mem_iff.1 hk); omega
  have hll : (L.map Int.ofNat).length = L.length := List.length_map _
  obtain ⟨R, hR⟩ := least_some h (askN lv) (L.map Int.ofNat)
  unfold anyR
  rw [Bool.eq_iff_iff, List.any_eq_true, hll]
  constructor
  · rintro ⟨b, _, hb⟩
    obtain ⟨s, h1, h2⟩ := selP_sub (L.map Int.ofNat) (posTo L.length 0) b
    rw [h2] at hb
    have hsb : ∀ p ∈ s, p.1 < p.2 ∧ p.2 < L.length := fun p hp => mem_pos.1 (h1.subset hp)
    have hrep : Rep (fun i j => decide (((i : Int), (j : Int)) ∈ s.map fun p => ((L.map Int.ofNat).getD p.1 0, (L.map Int.ofNat).getD p.2 0))) (s.map fun p => ((L.map Int.ofNat).getD p.1 0, (L.map Int.ofNat).getD p.2 0)) := by
      refine ⟨nodup_pairs hnd s (h1.nodup (pos_nodup _)) hsb, fun a c => ⟨fun hm => ?_, ?_⟩⟩
      · obtain ⟨p, hp, e⟩ := List.mem_map.1 hm
        obtain ⟨b1, b2⟩ := hsb p hp
        obtain ⟨e1, e2⟩ := Prod.mk.inj e
        rw [getI_at (by omega)] at e1
        rw [getI_at b2] at e2
        refine ⟨L[p.1], L[p.2], hlt _ (List.getElem_mem _), hlt _ (List.getElem_mem _), e1.symm, e2.symm, ?_⟩
        rw [decide_eq_true_eq, e1, e2]; exact hm
      · rintro ⟨i, j, _, _, rfl, rfl, hv⟩
        exact of_decide_eq_true hv
    rw [← holds_same hc hrep] at hb
    have := least_holds h64 hb hR
    rw [← kept_holds hc lv hp hR]; exact this
  · intro hk
    rw [← kept_holds hc lv hp hR] at hk
    obtain ⟨b, hb1, hb2⟩ := selP_all (L.map Int.ofNat) (fun p => R (L.getD p.1 0) (L.getD p.2 0)) (posTo L.length 0)
    rw [hq] at hb1
    refine ⟨b, List.mem_range.2 hb1, ?_⟩
    rw [hb2]
    have hin : inM R (chainR (L.map Int.ofNat)) = true := by
      unfold holdsB at hk
      simp only [Bool.and_eq_true] at hk
      have := hk.2.2.1
      unfold rightM at this
      simp only [Bool.and_eq_true] at this
      exact this.2.1
    have hin' := (inM_iff _ _).1 hin
    have hrep : Rep R (((posTo L.length 0).filter fun p => R (L.getD p.1 0) (L.getD p.2 0)).map fun p => ((L.map Int.ofNat).getD p.1 0, (L.map Int.ofNat).getD p.2 0)) := by
      have hsb : ∀ p ∈ (posTo L.length 0).filter fun p => R (L.getD p.1 0) (L.getD p.2 0), p.1 < p.2 ∧ p.2 < L.length := fun p hp => mem_pos.1 (List.mem_filter.1 hp).1
      have hgd : ∀ i (hi : i < L.length), L.getD i 0 = L[i] := fun i hi => by rw [List.getD_eq_getElem?_getD, List.getElem?_eq_getElem hi]; rfl
      refine ⟨nodup_pairs hnd _ ((pos_nodup _).filter _) hsb, fun a c => ⟨fun hm => ?_, ?_⟩⟩
      · obtain ⟨p, hp, e⟩ := List.mem_map.1 hm
        obtain ⟨b1, b2⟩ := hsb p hp
        have hv := (List.mem_filter.1 hp).2
        obtain ⟨e1, e2⟩ := Prod.mk.inj e
        rw [getI_at (by omega)] at e1
        rw [getI_at b2] at e2
        rw [hgd _ (by omega), hgd _ b2] at hv
        exact ⟨L[p.1], L[p.2], hlt _ (List.getElem_mem _), hlt _ (List.getElem_mem _), e1.symm, e2.symm, hv⟩
      · rintro ⟨i, j, hi, hj, rfl, rfl, hv⟩
        have hch := hin' i j hi hj hv
        obtain ⟨p1, p2, h1, h2, e1, e2⟩ := ahead_pos ((chainR_iff i j _).1 hch)
        refine List.mem_map.2 ⟨(p1, p2), List.mem_filter.2 ⟨mem_pos.2 ⟨h1, h2⟩, ?_⟩, ?_⟩
        · show R (L.getD p1 0) (L.getD p2 0) = true
          rw [hgd _ (by omega), hgd _ h2, e1, e2]; exact hv
        · show ((L.map Int.ofNat).getD p1 0, (L.map Int.ofNat).getD p2 0) = _
          rw [getI_at (by omega), getI_at h2, e1, e2]
    rw [← holds_same hc hrep]; exact hk
end
end Go.Proofs.YtfancjmhdbaoeaaGreatDoor

namespace Go.Proofs.YtfancjmhdbaoeaaGreatDoor
set_option maxRecDepth 100000
open Go.RowKit

theorem infoPairQ : (Tryz.prog.info? 65).map (fun i => (i.zero, i.size, i.bytes)) = some (some (.agg #[.int .i64 0, .int .i64 0]), 2, 16) := by kernel_rfl
theorem pos_add (n i : Nat) : (posTo n i).length = (posTo n 0).length + i := by
  induction i with
  | zero => rfl
  | succ i ih => rw [posTo_step, List.length_append, ih]; rfl
theorem pos_le : ∀ n, n ≤ 8 → (posTo n 0).length ≤ n * 8
  | 0, _ => by simp [posTo]
  | n + 1, h => by
    have := pos_le n (by omega)
    rw [posTo_next, pos_add]; omega
theorem sel_short {row : List Int} {bits k i b : Nat} {m : List Pr} (h : selF row bits (posTo k i) = (m, b)) (hk : k ≤ 8) (hi : i ≤ 8) : m.length ≤ 72 := by
  have h1 := selF_len row bits (posTo k i)
  rw [h, pos_add] at h1
  have h2 := pos_le k hk
  show m.length ≤ 72
  have : (m, b).1.length = m.length := rfl
  omega
theorem sel_step {row : List Int} {bits k i b : Nat} {m : List Pr} (h : selF row bits (posTo k i) = (m, b)) : selF row bits (posTo k (i + 1)) = (if b % 2 = 1 then m ++ [(row.getD i 0, row.getD k 0)] else m, b / 2) := by
  rw [posTo_step, selF_snoc, h]; rfl
theorem getD_of {row : List Int} {i : Nat} (hi : i < row.length) : row.getD i 0 = row[i] := by rw [List.getD_eq_getElem?_getD, List.getElem?_eq_getElem hi]; rfl
theorem two_newQ (w : World) (x y : Value) (t : TypeId) : ∀ j u, [x, y][j]? = some u → (w.alloc (.cells #[x, y] t)).cell? ((⟨w.heap.size, 0, none⟩ : Addr).add j) = some u := fun j v hv => by
  rw [Addr.add_lit, cell_of_row _ _ _ _ _ _ (heap_alloc_new w _)]
  simpa using hv
set_option maxRecDepth 100000 in
set_option maxHeartbeats 8000000 in
theorem pairs13_any (va : Value) (row : List Int) (bits : Nat) (w : World) (hb : bits ≤ 9223372036854775807) (hn : row.length ≤ 8) (hl : Ints w va row) :
    Calls Tryz.prog 72 #[va, .int .i64 (bits : Int)] w fun e w' => (∃ v, e = .returned v ∧ Prs w' v (selP row (posTo row.length 0) bits)) ∧ Below w.heap.size w w' := by
  obtain ⟨i0, hi, hz0, hz1, hz2⟩ := info_parts infoPairQ
  have HL := Lib.hid (fun wx (hx : Below w.heap.size w wx) => hl.below hx)
  obtain ⟨ao, cap, rfl, hal⟩ := hl.form
  have hlit : (w.alloc (.cells #[] 65)).ownsRow w.heap.size 65 2 (.slice (some ⟨w.heap.size, 0, none⟩) 0 0) 0 (prV []) := World.ownsRow_lit (size := 2) _ _ _ (Nat.le_refl _) (by simp) (by simp)
  have hb0 := box_below w (.cells #[] 65)
  clear hl
  go_enter Tryz.func72, Tryz.ntmps72
  go_wp2_with fail
  generalize w.alloc (.cells #[] 65) = w0 at *
  go_loopw [1, 5, 6] (fun bv ov iv wr => ∃ (k b : Nat) (m : List Pr), k ≤ row.length ∧ b ≤ 9223372036854775807 ∧ iv = .int .i64 (k : Int) ∧ bv = .int .i64 (b : Int) ∧ Hid (selF row bits (posTo k 0) = (m, b)) ∧ wr.ownsRow w.heap.size 65 2 ov m.length (prV m) ∧ Hid (Below w.heap.size w wr)) (fun _ _ iv _ => row.length - (intOf iv).toNat)
  case atStart => exact ⟨0, bits, [], by omega, hb, rfl, rfl, Lib.hid rfl, hlit, Lib.hid hb0⟩
  case round =>
    obtain ⟨k, b, m, hk, hbb, rfl, rfl, HS, hO, HB⟩ := hrel
    obtain ⟨oo, oc, rfl⟩ : ∃ oo oc, u5 = .slice oo m.length oc := owns_form hO
    by_cases hlt : (k : Int) < (row.length : Int)
    · go_wp2_with fail
      go_loopw [1, 5, 7] (fun bv ov jv wx => ∃ (i b : Nat) (m : List Pr), i ≤ k ∧ b ≤ 9223372036854775807 ∧ jv = .int .i64 (i : Int) ∧ bv = .int .i64 (b : Int) ∧ Hid (selF row bits (posTo k i) = (m, b)) ∧ wx.ownsRow w.heap.size 65 2 ov m.length (prV m) ∧ Hid (Below w.heap.size w wx)) (fun _ _ jv _ => k - (intOf jv).toNat)
      case atStart => exact ⟨0, b, m, by omega, hbb, rfl, rfl, HS, hO, HB⟩
      case round =>
        clear HS hO HB
        obtain ⟨i, b, m, hik, hbb, rfl, rfl, HS, hO, HB⟩ := hrel
        obtain ⟨oo, oc, rfl⟩ : ∃ oo oc, u5 = .slice oo m.length oc := owns_form hO
        by_cases hlti : (i : Int) < (k : Int)
        · have HN := Lib.hid (sel_step HS.out)
          have hdv : IntKind.i64.wrap ((b : Int).tdiv 2) = ((b / 2 : Nat) : Int) := by
            rw [IntKind.wrap_i64, Int.tdiv_eq_ediv_of_nonneg (by omega)]; omega
          by_cases hodd : b % 2 = 1
          · have h2 : (b : Int) % 2 = 1 := by omega
            rw [if_pos hodd] at HN
            have hri : i < row.length := by omega
            have hrk : k < row.length := by omega
            obtain ⟨g, o, hgo, hci⟩ := (HL.out wr.drew HB.out.drew).at hri
            cases hgo
            obtain ⟨g2, o2, hgo, hck⟩ := (HL.out wr.drew HB.out.drew).at hrk
            cases hgo
            rw [getD_of hri, getD_of hrk] at HN
            have hml := sel_short HS.out (by omega) (by omega)
            generalize row[i] = x at *
            generalize row[k] = y at *
            have HO := Lib.hid (fun (o : Obj) => hO.drew.alloc o)
            have HBD := Lib.hid HB.out.drew
            have HLN : Hid (∀ (v8 : Value) (w8 : World), w8.ownsRow w.heap.size 65 2 v8 (m.length + 1) (prV m ++ [.int .i64 x, .int .i64 y]) → w8.ownsRow w.heap.size 65 2 v8 (m ++ [(x, y)]).length (prV (m ++ [(x, y)]))) := Lib.hid (fun v8 w8 h => by rw [prV_append, List.length_append]; exact h)
            have hws : Hid (w.heap.size ≤ wr.heap.size) := Lib.hid HB.out.size
            clear hodd
            have hrii : (i : Int) < (row.length : Int) := by omega
            have hrki : (k : Int) < (row.length : Int) := by omega
            go_upto_region 9 with fail
            go_region_law (refine step_append_own _ rfl (.tmp 23) (.tmp 33) 41 rfl w.heap.size 65 i0 (.agg #[.int .i64 0, .int .i64 0]) 2 16 Tryz.underlying41 hi hz0 hz1 hz2 rfl (by decide) _ m.length _ (by simp [Act.eval]) (HO.out _) ⟨wr.heap.size, 0, none⟩ 1 1 [.int .i64 x, .int .i64 y] (by simp [Act.eval]) rfl (two_newQ wr.drew _ _ _) (by simp; exact ⟨rfl, rfl⟩) (by unfold maxLen; omega) (by omega) (by simp; exact Nat.le_succ_of_le hws.out) ?_
                           intro v8 w8 hown8 hg8)
            all_goals have hb8 : Hid (Below w.heap.size w w8) := Lib.hid ((HBD.out.alloc hws.out _).grown hg8 (by simp; exact Nat.le_succ_of_le hws.out) (fun k hk => (hO.lt k hk).1))
            all_goals have ho8 := HLN.out _ _ hown8
            all_goals clear hown8 hg8 hO HO HB HBD HLN hws
            all_goals try go_simp
            all_goals try go_wp2
            all_goals try go_roundw
            all_goals first
              | exact ⟨i + 1, b / 2, m ++ [(x, y)], by omega, by omega, rfl, rfl, HN, ho8, hb8⟩
              | (simp only [intOf]; omega)
              | exact ⟨⟨i + 1, b / 2, m ++ [(x, y)], by omega, by omega, by go_num, by go_num, HN, ho8, hb8⟩, by simp only [intOf]; omega⟩
          · have h2 : (b : Int) % 2 = 0 := by omega
            rw [if_neg hodd] at HN
            clear hodd
            go_wp2_with fail
            go_roundw
            case rel => exact ⟨i + 1, b / 2, m, by omega, by omega, rfl, rfl, HN, hO, HB⟩
            case measure => simp only [intOf]; omega
        · obtain rfl : i = k := by omega
          have HN : Hid (selF row bits (posTo (i + 1) 0) = (m, b)) := Lib.hid (by rw [posTo_next]; exact HS.out)
          go_wp2_with fail
          go_roundw
          case rel => exact ⟨i + 1, b, m, by omega, hbb, rfl, rfl, HN, hO, HB⟩
          case measure => simp only [intOf]; omega
    · obtain rfl : k = row.length := by omega
      have HE : Hid (m = selP row (posTo row.length 0) bits) := Lib.hid (by rw [← selF_one, HS.out])
      have HP := Lib.hid (Prs.of_owns hO)
      go_wp2_with fail
      go_ret
      exact ⟨⟨_, rfl, by rw [← HE.out]; exact HP.out⟩, HB.out⟩
end Go.Proofs.YtfancjmhdbaoeaaGreatDoor

namespace Go.Proofs.YtfancjmhdbaoeaaGreatDoor
set_option maxRecDepth 100000
open Go.RowKit

theorem few_pairs {n : Nat} (h : n ≤ 4) : (posTo n 0).length = n * (n - 1) / 2 := by
  rcases (show n = 0 ∨ n = 1 ∨ n = 2 ∨ n = 3 ∨ n = 4 by omega) with rfl | rfl | rfl | rfl | rfl <;> decide
theorem few_q {n : Nat} (h : n ≤ 4) : n * (n - 1) / 2 ≤ 6 := by
  rcases (show n = 0 ∨ n = 1 ∨ n = 2 ∨ n = 3 ∨ n = 4 by omega) with rfl | rfl | rfl | rfl | rfl <;> decide
theorem few_a {n : Nat} (h : n ≤ 4) : IntKind.i64.wrap ((n : Int) - 1) = (n : Int) - 1 := by rw [IntKind.wrap_i64]; omega
theorem few_b {n : Nat} (h : n ≤ 4) : IntKind.i64.wrap ((n : Int) * ((n : Int) - 1)) = (n : Int) * ((n : Int) - 1) := by
  rcases (show n = 0 ∨ n = 1 ∨ n = 2 ∨ n = 3 ∨ n = 4 by omega) with rfl | rfl | rfl | rfl | rfl <;> decide
theorem few_c {n : Nat} (h : n ≤ 4) : IntKind.i64.wrap (((n : Int) * ((n : Int) - 1)).tdiv 2) = ((n * (n - 1) / 2 : Nat) : Int) := by
  rcases (show n = 0 ∨ n = 1 ∨ n = 2 ∨ n = 3 ∨ n = 4 by omega) with rfl | rfl | rfl | rfl | rfl <;> decide
theorem pow_small {i q : Nat} (hi : i ≤ q) (hq : q ≤ 6) : 2 ^ i ≤ 64 := Nat.le_trans (Nat.pow_le_pow_right (by decide) (Nat.le_trans hi hq)) (by decide)
/-- Tried as far as that: none. -/
def noneTo (h : List TxnV) (lv : Int) (row : List Int) (k : Nat) : Prop := ∀ b, b < k → holdsR h lv row (selP row (posTo row.length 0) b) = false
theorem noneTo_step {h : List TxnV} {lv : Int} {row : List Int} {k : Nat} (hn : noneTo h lv row k) (hk : holdsR h lv row (selP row (posTo row.length 0) k) = false) : noneTo h lv row (k + 1) := fun b hb => by
  by_cases e : b = k
  · rw [e]; exact hk
  · exact hn b (by omega)
theorem noneTo_all {h : List TxnV} {lv : Int} {row : List Int} {q : Nat} (hn : noneTo h lv row (2 ^ q)) : anyR h lv row q = false := by
  unfold anyR
  rw [Bool.eq_false_iff]
  intro h1
  obtain ⟨b, hb, h2⟩ := List.any_eq_true.1 h1
  rw [hn b (List.mem_range.1 hb)] at h2
  cases h2
theorem some_any {h : List TxnV} {lv : Int} {row : List Int} {q k : Nat} (hk : k < 2 ^ q) (he : holdsR h lv row (selP row (posTo row.length 0) k) = true) : anyR h lv row q = true := List.any_eq_true.2 ⟨k, List.mem_range.2 hk, he⟩
set_option maxRecDepth 100000 in
set_option maxHeartbeats 8000000 in
theorem rany_any (va vr : Value) (h : List TxnV) (lv : Int) (row : List Int) (w : World) (hc : checkI h = 0) (h4 : row.length ≤ 4) (hT : Txns w va h) (hl : Ints w vr row) :
    Calls Tryz.prog 18 #[va, .int .i64 lv, vr] w fun e w' => e = .returned (.bool (anyR h lv row (row.length * (row.length - 1) / 2))) ∧ Below w.heap.size w w' := by
  have CH := Lib.hid (fun vm m wx (hx : Below w.heap.size w wx) (hm : Prs wx vm m) => rholds12_any va vr vm h lv row m hc wx (hT.below hx) (hl.below hx) hm)
  have CP := Lib.hid (fun (b : Nat) wx (hx : Below w.heap.size w wx) (hb : b ≤ 9223372036854775807) => pairs13_any vr row b wx hb (by omega) (hl.below hx))
  have hq := few_q h4
  have ha := few_a h4
  have hb := few_b h4
  have hcc := few_c h4
  obtain ⟨ao, cap, rfl, hal⟩ := hl.form
  generalize hQ : row.length * (row.length - 1) / 2 = q at *
  clear hQ hT hl
  have hb0 := Lib.hid (Below.refl w.heap.size w)
  go_enter Tryz.func18, Tryz.ntmps18
  go_wp2_with fail
  go_loopw [7, 8] (fun mv iv wr => ∃ (i p : Nat), i ≤ q ∧ p ≤ 64 ∧ iv = .int .i64 (i : Int) ∧ mv = .int .i64 (p : Int) ∧ Hid (2 ^ i = p) ∧ Hid (Below w.heap.size w wr)) (fun _ iv _ => q - (intOf iv).toNat)
  case atStart => exact ⟨0, 1, by omega, by omega, rfl, rfl, Lib.hid rfl, hb0⟩
  case round =>
    clear hb0
    obtain ⟨i, p, hi, hp, rfl, rfl, HP, HB⟩ := hrel
    by_cases hlt : (i : Int) < (q : Int)
    · have HN : Hid (2 ^ (i + 1) = p * 2 ∧ p * 2 ≤ 64) := Lib.hid ⟨by rw [Nat.pow_succ, HP.out], by have := pow_small (i := i + 1) (q := q) (by omega) hq; rw [Nat.pow_succ, HP.out] at this; exact this⟩
      go_wp2_with fail
      go_roundw
      case rel => exact ⟨i + 1, p * 2, by omega, HN.out.2, by go_num, by go_num, Lib.hid HN.out.1, HB⟩
      case measure => simp only [intOf]; omega
    · obtain rfl : i = q := by omega
      have HN0 : Hid (noneTo h lv row 0) := Lib.hid (fun b hb => absurd hb (Nat.not_lt_zero b))
      go_wp2_with fail
      go_loopw [9] (fun bv wr => ∃ (b : Nat), b ≤ p ∧ bv = .int .i64 (b : Int) ∧ Hid (noneTo h lv row b) ∧ Hid (Below w.heap.size w wr)) (fun bv _ => p - (intOf bv).toNat)
      case atStart => exact ⟨0, by omega, rfl, HN0, HB⟩
      case round =>
        clear HN0 HB
        obtain ⟨b, hbp, rfl, HN, HB⟩ := hrel
        by_cases hlb : (b : Int) < (p : Int)
        · have C1 := Lib.hid (CP.out b _ HB.out (by omega))
          go_wp2_with fail
          refine (C1.out).mono ?_
          rintro e w1 ⟨⟨vm, rfl, hm⟩, h1⟩
          have C2 := Lib.hid (CH.out vm _ w1 (below_then HB.out h1) hm)
          have HB1 := Lib.hid (below_then HB.out h1)
          cases hres : holdsR h lv row (selP row (posTo row.length 0) b) with
          | true =>
            have HA : Hid (true = anyR h lv row i) := Lib.hid (some_any (by rw [HP.out]; omega) hres).symm
            rw [hres] at C2
            clear hres h1 hm
            go_wp2_with fail
            refine (C2.out).mono ?_
            rintro e w2 ⟨rfl, h2⟩
            have h2 := below_then HB1.out h2
            go_wp2_with fail
            go_ret
            exact ⟨congrArg (fun b => Ending.returned (.bool b)) HA.out, h2⟩
          | false =>
            have HNN := Lib.hid (noneTo_step HN.out hres)
            rw [hres] at C2
            clear hres h1 hm
            go_wp2_with fail
            refine (C2.out).mono ?_
            rintro e w2 ⟨rfl, h2⟩
            have HB2 := Lib.hid (below_then HB1.out h2)
            clear h2
            go_wp2_with fail
            go_roundw
            case rel => exact ⟨b + 1, by omega, by go_num, HNN, HB2⟩
            case measure => simp only [intOf]; omega
        · obtain rfl : b = p := by omega
          have HA : Hid (false = anyR h lv row i) := Lib.hid (by rw [noneTo_all (by rw [HP.out]; exact HN.out)])
          go_wp2_with fail
          go_ret
          exact ⟨congrArg (fun b => Ending.returned (.bool b)) HA.out, HB.out⟩
end Go.Proofs.YtfancjmhdbaoeaaGreatDoor

namespace Go.Proofs.YtfancjmhdbaoeaaGreatDoor
set_option maxRecDepth 100000
open Go.RowKit Go.Shelf
attribute [local go_sem] Oper.semAt_some

/-- As many orders as keep a level; -1 of too many transactions. -/
def countI (h : List TxnV) (lv : Int) : Int := if h.length ≤ 8 then (((ordersN h.length).countP (keptL h lv) : Nat) : Int) else -1
/-- One order: whether a level is kept by it. -/
theorem bin_kept (lv : Int) (va : Value) (r : List Nat) (h : List TxnV) (B b : Nat) (w : World) (hO : OrdIs w B b h) (hc : checkI h = 0) (ht : Tab w) (hK : Kinds w) (hl : Ints w va (r.map Int.ofNat)) (hr : r ∈ ordersN h.length) :
    Calls Tryz.prog 13 #[.pointer (some ⟨B, 0, none⟩), .int .i64 lv, va] w fun e w' => (∃ X, (keptL h lv r = true → LeastIs h (askN lv) (r.map Int.ofNat) X) ∧ e = .returned (.tuple #[.agg (rowsA X), .bool (keptL h lv r)])) ∧ Below w.heap.size w w' := by
  refine (bin_any lv va (r.map Int.ofNat) h B b w hO hc ht hK hl).mono ?_
  rintro e w' ⟨⟨R, hR, rfl⟩, hb⟩
  have e1 := kept_holds hc lv (orders_perm hr) hR
  refine ⟨⟨inR h lv (r.map Int.ofNat) R, fun hk => ?_, by rw [e1]⟩, hb⟩
  unfold inR
  rw [if_pos (by rw [e1]; exact hk)]
  exact hR
/-- What stands in the loop's own cells. -/
structure CntI (s B : Nat) (lv : Int) (c : Nat) (w W : World) : Prop where
  c0 : W.cell? ⟨s, 0, none⟩ = some (.pointer (some ⟨B, 0, none⟩))
  c1 : W.cell? ⟨s + 1, 0, none⟩ = some (.int .i64 lv)
  c2 : W.cell? ⟨s + 1 + 1, 0, none⟩ = some (.int .i64 (c : Int))
  f2 : W.frozen? ⟨s + 1 + 1, 0, none⟩ = false
  bel : Below s w W
theorem CntI.below {s B : Nat} {lv : Int} {c D : Nat} {w W W' : World} (q : CntI s B lv c w W) (hb : Below D W W') (hD : s + 4 ≤ D) : CntI s B lv c w W' :=
  ⟨(hb.cell (p := ⟨s, 0, none⟩) (by show s < D; omega)).trans q.c0, (hb.cell (p := ⟨s + 1, 0, none⟩) (by show s + 1 < D; omega)).trans q.c1, (hb.cell (p := ⟨s + 1 + 1, 0, none⟩) (by show s + 1 + 1 < D; omega)).trans q.c2, (hb.frozen (p := ⟨s + 1 + 1, 0, none⟩) (by show s + 1 + 1 < D; omega)).trans q.f2, q.bel.trans (hb.mono (by omega))⟩
theorem CntI.more {s B : Nat} {lv : Int} {c : Nat} {w W : World} (q : CntI s B lv c w W) (c' : Nat) : CntI s B lv c' w (W.setCell ⟨s + 1 + 1, 0, none⟩ (.int .i64 (c' : Int))) := by
  refine ⟨?_, ?_, World.cell?_setCell_same _ _ _ q.c2, by rw [World.frozen?_setCell]; exact q.f2, q.bel.setCell (p := ⟨s + 1 + 1, 0, none⟩) (by show s ≤ s + 1 + 1; omega) _⟩
  · rw [World.cell?_setCell_other _ _ _ _ (by simp)]; exact q.c0
  · rw [World.cell?_setCell_other _ _ _ _ (by simp)]; exact q.c1
theorem exts_len (many : Nat) : ∀ (k : Nat) (r : List Nat), (exts many k r).length ≤ many ^ k
  | 0, r => by simp [exts]
  | k + 1, r => by
    have key : ∀ j, (extsTo many k r j).length ≤ j * many ^ k := by
      intro j
      induction j with
      | zero => rw [extsTo_zero]; simp
      | succ j ih =>
        rw [extsTo_succ, List.length_append, Nat.succ_mul]
        refine Nat.add_le_add ih ?_
        split
        · simp
        · exact exts_len many k _
    rw [exts_all, Nat.pow_succ, Nat.mul_comm]
    exact key many
theorem pre_len {n : Nat} (h8 : n ≤ 8) {pre : List (List Nat)} {r : List Nat} (hp : (pre ++ [r]) <+: ordersN n) (p : List Nat → Bool) : pre.countP p ≤ 16777216 := by
  have h1 := hp.length_le
  have h2 := exts_len n n []
  have h3 : n ^ n ≤ 8 ^ 8 := Nat.le_trans (Nat.pow_le_pow_left h8 n) (Nat.pow_le_pow_right (by omega) h8)
  have h4 := List.countP_le_length (p := p) (l := pre)
  have h5 : (ordersN n).length ≤ 8 ^ 8 := Nat.le_trans h2 h3
  rw [List.length_append] at h1
  have h6 : (8 : Nat) ^ 8 = 16777216 := by decide
  omega
theorem countP_snoc (p : List Nat → Bool) (pre : List (List Nat)) (r : List Nat) : (pre ++ [r]).countP p = pre.countP p + if p r = true then 1 else 0 := by
  rw [List.countP_append, List.countP_singleton]
theorem four_boxes (w : World) (B : Nat) (lv n : Int) (c : Nat) (t1 t2 t3 t4 : TypeId) :
    CntI w.heap.size B lv c w ((((w.alloc (.cells #[.pointer (some ⟨B, 0, none⟩)] t1)).alloc (.cells #[.int .i64 lv] t2)).alloc (.cells #[.int .i64 (c : Int)] t3)).alloc (.cells #[.int .i64 n] t4)) ∧
    ((((w.alloc (.cells #[.pointer (some ⟨B, 0, none⟩)] t1)).alloc (.cells #[.int .i64 lv] t2)).alloc (.cells #[.int .i64 (c : Int)] t3)).alloc (.cells #[.int .i64 n] t4)).cell? ⟨w.heap.size + 3, 0, none⟩ = some (.int .i64 n) ∧
    ((((w.alloc (.cells #[.pointer (some ⟨B, 0, none⟩)] t1)).alloc (.cells #[.int .i64 lv] t2)).alloc (.cells #[.int .i64 (c : Int)] t3)).alloc (.cells #[.int .i64 n] t4)).heap.size = w.heap.size + 4 := by
  obtain ⟨w1, e1⟩ : ∃ x, x = w.alloc (.cells #[.pointer (some ⟨B, 0, none⟩)] t1) := ⟨_, rfl⟩
  obtain ⟨w2, e2⟩ : ∃ x, x = w1.alloc (.cells #[.int .i64 lv] t2) := ⟨_, rfl⟩
  obtain ⟨w3, e3⟩ : ∃ x, x = w2.alloc (.cells #[.int .i64 (c : Int)] t3) := ⟨_, rfl⟩
  obtain ⟨w4, e4⟩ : ∃ x, x = w3.alloc (.cells #[.int .i64 n] t4) := ⟨_, rfl⟩
  rw [← e1, ← e2, ← e3, ← e4]
  have s1 : w1.heap.size = w.heap.size + 1 := by rw [e1]; simp
  have s2 : w2.heap.size = w.heap.size + 2 := by rw [e2]; simp [s1]
  have s3 : w3.heap.size = w.heap.size + 3 := by rw [e3]; simp [s2]
  have s4 : w4.heap.size = w.heap.size + 4 := by rw [e4]; simp [s3]
  have b1 : Below w.heap.size w w1 := by rw [e1]; exact (Below.refl _ _).alloc (Nat.le_refl _) _
  have b2 : Below w1.heap.size w1 w2 := by rw [e2]; exact (Below.refl _ _).alloc (Nat.le_refl _) _
  have b3 : Below w2.heap.size w2 w3 := by rw [e3]; exact (Below.refl _ _).alloc (Nat.le_refl _) _
  have b4 : Below w3.heap.size w3 w4 := by rw [e4]; exact (Below.refl _ _).alloc (Nat.le_refl _) _
  have c1 : w1.cell? ⟨w.heap.size, 0, none⟩ = some (.pointer (some ⟨B, 0, none⟩)) := by rw [e1, cell_of_row _ _ _ _ _ _ (heap_alloc_new w _)]; rfl
  have c2 : w2.cell? ⟨w1.heap.size, 0, none⟩ = some (.int .i64 lv) := by rw [e2, cell_of_row _ _ _ _ _ _ (heap_alloc_new w1 _)]; rfl
  have c3 : w3.cell? ⟨w2.heap.size, 0, none⟩ = some (.int .i64 (c : Int)) := by rw [e3, cell_of_row _ _ _ _ _ _ (heap_alloc_new w2 _)]; rfl
  have f3 : w3.frozen? ⟨w2.heap.size, 0, none⟩ = false := by rw [e3]; exact frozen_of_row _ _ _ _ _ (heap_alloc_new w2 _)
  have c4 : w4.cell? ⟨w3.heap.size, 0, none⟩ = some (.int .i64 n) := by rw [e4, cell_of_row _ _ _ _ _ _ (heap_alloc_new w3 _)]; rfl
  have b24 : Below w2.heap.size w2 w4 := b3.trans (b4.mono b3.size)
  have b14 : Below w1.heap.size w1 w4 := b2.trans (b24.mono b2.size)
  have b34 := b4.cell (p := ⟨w2.heap.size, 0, none⟩) (by show w2.heap.size < w3.heap.size; omega)
  have g34 := b4.frozen (p := ⟨w2.heap.size, 0, none⟩) (by show w2.heap.size < w3.heap.size; omega)
  have c1' := (b14.cell (p := ⟨w.heap.size, 0, none⟩) (by show w.heap.size < w1.heap.size; omega)).trans c1
  have c2' := (b24.cell (p := ⟨w1.heap.size, 0, none⟩) (by show w1.heap.size < w2.heap.size; omega)).trans c2
  have c3' := b34.trans c3
  have f3' := g34.trans f3
  rw [s1] at c2'
  rw [s2] at c3' f3'
  rw [s3] at c4
  exact ⟨⟨c1', c2', c3', f3', b1.trans (b14.mono b1.size)⟩, c4, s4⟩
set_option maxRecDepth 100000 in
set_option maxHeartbeats 8000000 in
theorem bcount_any (lv : Int) (h : List TxnV) (B b : Nat) (w : World) (hO : OrdIs w B b h) (hc : checkI h = 0) (ht : Tab w) (hK : Kinds w) :
    Calls Tryz.prog 21 #[.pointer (some ⟨B, 0, none⟩), .int .i64 lv] w fun e w' => e = .returned (.int .i64 (countI h lv)) ∧ Below w.heap.size w w' := by
  have h64 := (check_zero hc).1
  have hg := ht.pos
  have n0 := hO.blk.cN
  have HC := Lib.hid hc
  have HB : Hid (∀ wx, Below w.heap.size w wx → (OrdIs wx B b h ∧ Tab wx ∧ Kinds wx) ∧ wx.cell? ⟨B, 0, none⟩ = w.cell? ⟨B, 0, none⟩) := Lib.hid (fun wx hb => ⟨⟨hO.below hb, ht.below hb hg, hK.below hb⟩, hb.cell (p := ⟨B, 0, none⟩) (block_lt n0)⟩)
  clear hO hc ht hK hg
  have hb1 : Below w.heap.size w ((w.alloc (.cells #[.pointer (some ⟨B, 0, none⟩)] 28)).alloc (.cells #[.int .i64 lv] 40)) := ((Below.refl _ w).alloc (Nat.le_refl _) _).alloc (by simp) _
  have n1 := (HB.out _ hb1).2.trans n0
  by_cases h8 : h.length ≤ 8
  · have HV : Hid ((((ordersN h.length).countP (keptL h lv) : Nat) : Int) = countI h lv) := Lib.hid (by unfold countI; rw [if_pos h8])
    refine (callsIn_wide (n := 3)).1 ?_
    refine callsIn_of_wp_marks Tryz.func21 rfl trivial ?_ rfl
    simp only [Tryz.ntmps21, List.size_toArray, List.length_cons, List.length_nil, Nat.reduceAdd, Nat.reduceSub, Array.replicate_succ, Array.replicate_zero, List.push_toArray, List.append_toArray, List.nil_append, List.cons_append]
    have h8i : ¬ (8 : Int) < (h.length : Int) := by omega
    have hb2 : Below w.heap.size w (((w.alloc (.cells #[.pointer (some ⟨B, 0, none⟩)] 28)).alloc (.cells #[.int .i64 lv] 40)).alloc (.cells #[.int .i64 0] 3)) := hb1.alloc hb1.size _
    have n2 := (HB.out _ hb2).2.trans n0
    have HQ : Hid (CntI w.heap.size B lv 0 w ((((w.alloc (.cells #[.pointer (some ⟨B, 0, none⟩)] 28)).alloc (.cells #[.int .i64 lv] 40)).alloc (.cells #[.int .i64 0] 3)).alloc (.cells #[.int .i64 (h.length : Int)] 3)) ∧ ((((w.alloc (.cells #[.pointer (some ⟨B, 0, none⟩)] 28)).alloc (.cells #[.int .i64 lv] 40)).alloc (.cells #[.int .i64 0] 3)).alloc (.cells #[.int .i64 (h.length : Int)] 3)).cell? ⟨w.heap.size + 3, 0, none⟩ = some (.int .i64 (h.length : Int)) ∧ ((((w.alloc (.cells #[.pointer (some ⟨B, 0, none⟩)] 28)).alloc (.cells #[.int .i64 lv] 40)).alloc (.cells #[.int .i64 0] 3)).alloc (.cells #[.int .i64 (h.length : Int)] 3)).heap.size = w.heap.size + 4) := Lib.hid (four_boxes w _ _ _ _ _ _ _ _)
    have hs3 : (((w.alloc (.cells #[.pointer (some ⟨B, 0, none⟩)] 28)).alloc (.cells #[.int .i64 lv] 40)).alloc (.cells #[.int .i64 0] 3)).heap.size = w.heap.size + 3 := by simp
    have HM := Lib.hid (orders_any (h.length : Int) (((w.alloc (.cells #[.pointer (some ⟨B, 0, none⟩)] 28)).alloc (.cells #[.int .i64 lv] 40)).alloc (.cells #[.int .i64 0] 3)))
    rw [hs3] at HM
    clear hb1 hb2 hs3
    gi_wp2_with (refine ⟨trivial, ?_⟩; gi_at_call 73; refine ((callsIn_wide (n := _)).2 HM.out).mono ?_; rintro e w' ⟨rfl, rfl⟩)
    clear HM n1 n2
    generalize ((((w.alloc (.cells #[.pointer (some ⟨B, 0, none⟩)] 28)).alloc (.cells #[.int .i64 lv] 40)).alloc (.cells #[.int .i64 0] 3)).alloc (.cells #[.int .i64 (h.length : Int)] 3)) = W4 at *
    obtain ⟨q4, c4, s4⟩ := HQ.out
    have hs : w.heap.size + 4 ≤ W4.heap.size := by omega
    refine range_rows (gf := 137) (lb := #[.pointer (some ⟨w.heap.size + 3, 0, none⟩)]) (L := ordersN h.length) rfl (by omega) rfl trivial (fun args w => by kernel_rfl)
      (orders_seq _ h.length (w.heap.size + 3) W4 (by omega) (by omega) c4) (Below.refl _ _) rfl
      (fun pre W => CntI w.heap.size B lv (pre.countP (keptL h lv)) w W) (fun _ _ => False)
      (fun pre A B q hb => q.below hb hs) (fun _ _ _ _ q _ => q) q4
      (fun v => { tmps := #[.pointer (some ⟨B, 0, none⟩), .int .i64 lv, .pointer (some ⟨w.heap.size, 0, none⟩), .pointer (some ⟨w.heap.size + 1, 0, none⟩), .int .i64 0, .pointer (some ⟨w.heap.size + 1 + 1, 0, none⟩), v, undef, undef, .pointer (some ⟨B, 0, none⟩), .pointer (some ⟨B, 0, none⟩), .pointer (some ⟨B, 0, none⟩), .int .i64 (h.length : Int), .bool false, .pointer (some ⟨B, 0, none⟩), .pointer (some ⟨B, 0, none⟩), .pointer (some ⟨B, 0, none⟩), .int .i64 (h.length : Int),
        .func (.func 137) #[] #[.pointer (some ⟨w.heap.size + 3, 0, none⟩)], v, undef, undef, undef, undef, undef, undef, undef, undef, undef, undef, undef], defers := [] }) ?assign ?body ?done ?stop
    case assign =>
      intro l v W K hK
      gi_wp2
      exact hK
    case body =>
      intro l pre v r W q hr hpre hsz
      have hle := pre_len h8 hpre (keptL h lv)
      have HP := Lib.hid (countP_snoc (keptL h lv) pre r)
      have q0 := q.c0
      have q1 := q.c1
      obtain ⟨⟨hO, ht, hK⟩, _⟩ := HB.out W q.bel
      have CI := Lib.hid (bin_kept lv v r h B b W hO HC.out ht hK hr.1 (mem_of_prefix hpre))
      have HQ := Lib.hid q
      generalize hx : pre.countP (keptL h lv) = x at *
      clear q hr hpre hO ht hK hx
      gi_wp2_with fail
      refine ⟨trivial, ?_⟩
      refine (CallsIn.inRound l ((callsIn_wide (n := _)).2 CI.out)).mono ?_
      rintro e w5 ⟨⟨X, _, rfl⟩, hb5⟩
      have z5 := zero_block w5
      have hb6 : Below W.heap.size W ((w5.alloc (.cells #[.int .u64 0, .int .u64 0, .int .u64 0, .int .u64 0, .int .u64 0, .int .u64 0, .int .u64 0, .int .u64 0, .int .u64 0, .int .u64 0, .int .u64 0, .int .u64 0, .int .u64 0, .int .u64 0, .int .u64 0, .int .u64 0, .int .u64 0, .int .u64 0, .int .u64 0, .int .u64 0, .int .u64 0, .int .u64 0, .int .u64 0, .int .u64 0, .int .u64 0, .int .u64 0, .int .u64 0, .int .u64 0, .int .u64 0, .int .u64 0, .int .u64 0, .int .u64 0, .int .u64 0, .int .u64 0, .int .u64 0, .int .u64 0, .int .u64 0, .int .u64 0, .int .u64 0, .int .u64 0, .int .u64 0, .int .u64 0, .int .u64 0, .int .u64 0, .int .u64 0, .int .u64 0, .int .u64 0, .int .u64 0, .int .u64 0, .int .u64 0, .int .u64 0, .int .u64 0, .int .u64 0, .int .u64 0, .int .u64 0, .int .u64 0, .int .u64 0, .int .u64 0, .int .u64 0, .int .u64 0, .int .u64 0, .int .u64 0, .int .u64 0, .int .u64 0] 37)).setRow w5.heap.size (rowsA X)) := below_setRow (below_then hb5 (box_below w5 (.cells #[.int .u64 0, .int .u64 0, .int .u64 0, .int .u64 0, .int .u64 0, .int .u64 0, .int .u64 0, .int .u64 0, .int .u64 0, .int .u64 0, .int .u64 0, .int .u64 0, .int .u64 0, .int .u64 0, .int .u64 0, .int .u64 0, .int .u64 0, .int .u64 0, .int .u64 0, .int .u64 0, .int .u64 0, .int .u64 0, .int .u64 0, .int .u64 0, .int .u64 0, .int .u64 0, .int .u64 0, .int .u64 0, .int .u64 0, .int .u64 0, .int .u64 0, .int .u64 0, .int .u64 0, .int .u64 0, .int .u64 0, .int .u64 0, .int .u64 0, .int .u64 0, .int .u64 0, .int .u64 0, .int .u64 0, .int .u64 0, .int .u64 0, .int .u64 0, .int .u64 0, .int .u64 0, .int .u64 0, .int .u64 0, .int .u64 0, .int .u64 0, .int .u64 0, .int .u64 0, .int .u64 0, .int .u64 0, .int .u64 0, .int .u64 0, .int .u64 0, .int .u64 0, .int .u64 0, .int .u64 0, .int .u64 0, .int .u64 0, .int .u64 0, .int .u64 0] 37))) hb5.size (rowsA X)
      have HQ6 := Lib.hid (HQ.out.below hb6 (Nat.le_trans hs (by omega)))
      have c2 := HQ6.out.c2
      have f2 := HQ6.out.f2
      have HK6 : Hid (KeepsHi W4.heap.size W ((w5.alloc (.cells #[.int .u64 0, .int .u64 0, .int .u64 0, .int .u64 0, .int .u64 0, .int .u64 0, .int .u64 0, .int .u64 0, .int .u64 0, .int .u64 0, .int .u64 0, .int .u64 0, .int .u64 0, .int .u64 0, .int .u64 0, .int .u64 0, .int .u64 0, .int .u64 0, .int .u64 0, .int .u64 0, .int .u64 0, .int .u64 0, .int .u64 0, .int .u64 0, .int .u64 0, .int .u64 0, .int .u64 0, .int .u64 0, .int .u64 0, .int .u64 0, .int .u64 0, .int .u64 0, .int .u64 0, .int .u64 0, .int .u64 0, .int .u64 0, .int .u64 0, .int .u64 0, .int .u64 0, .int .u64 0, .int .u64 0, .int .u64 0, .int .u64 0, .int .u64 0, .int .u64 0, .int .u64 0, .int .u64 0, .int .u64 0, .int .u64 0, .int .u64 0, .int .u64 0, .int .u64 0, .int .u64 0, .int .u64 0, .int .u64 0, .int .u64 0, .int .u64 0, .int .u64 0, .int .u64 0, .int .u64 0, .int .u64 0, .int .u64 0, .int .u64 0, .int .u64 0] 37)).setRow w5.heap.size (rowsA X))) := Lib.hid (KeepsHi.of_below hb6)
      clear hb5 hb6 CI
      cases hk : keptL h lv r with
      | false =>
        rw [hk] at HP
        gi_wp2_with (with_reducible refine wpListIn_store_rel z5 X rfl _ _ rfl rfl rfl ?_)
        exact ⟨HK6.out, by show CntI _ _ _ ((pre ++ [r]).countP (keptL h lv)) _ _; rw [HP.out]; exact HQ6.out⟩
      | true =>
        rw [hk] at HP
        have HS := Lib.hid (HQ6.out.more (x + 1))
        have HT := Lib.hid (KeepsHi.setCell (D := W4.heap.size) ((w5.alloc (.cells #[.int .u64 0, .int .u64 0, .int .u64 0, .int .u64 0, .int .u64 0, .int .u64 0, .int .u64 0, .int .u64 0, .int .u64 0, .int .u64 0, .int .u64 0, .int .u64 0, .int .u64 0, .int .u64 0, .int .u64 0, .int .u64 0, .int .u64 0, .int .u64 0, .int .u64 0, .int .u64 0, .int .u64 0, .int .u64 0, .int .u64 0, .int .u64 0, .int .u64 0, .int .u64 0, .int .u64 0, .int .u64 0, .int .u64 0, .int .u64 0, .int .u64 0, .int .u64 0, .int .u64 0, .int .u64 0, .int .u64 0, .int .u64 0, .int .u64 0, .int .u64 0, .int .u64 0, .int .u64 0, .int .u64 0, .int .u64 0, .int .u64 0, .int .u64 0, .int .u64 0, .int .u64 0, .int .u64 0, .int .u64 0, .int .u64 0, .int .u64 0, .int .u64 0, .int .u64 0, .int .u64 0, .int .u64 0, .int .u64 0, .int .u64 0, .int .u64 0, .int .u64 0, .int .u64 0, .int .u64 0, .int .u64 0, .int .u64 0, .int .u64 0, .int .u64 0] 37)).setRow w5.heap.size (rowsA X)) ⟨w.heap.size + 1 + 1, 0, none⟩ (.int .i64 ((x + 1 : Nat) : Int)) (by show w.heap.size + 1 + 1 < W4.heap.size; omega))
        gi_wp2_with (with_reducible refine wpListIn_store_rel z5 X rfl _ _ rfl rfl rfl ?_)
        exact ⟨HK6.out.trans HT.out, by show CntI _ _ _ ((pre ++ [r]).countP (keptL h lv)) _ _; rw [HP.out]; exact HS.out⟩
    case done =>
      intro W q hK
      have c2 := q.c2
      have HQ := Lib.hid q
      clear q
      gi_wp2
      refine ⟨by simp, .inl ⟨_, _, rfl, run_takeDeferred hK, ?_⟩⟩
      exact ⟨_, results_tmp rfl _ _ _, by rw [← HV.out]; rfl, HQ.out.bel.trans (belowK_b (w := w) (Nat.le_refl _) W W4.heap.size _ _ (by omega) hK rfl rfl)⟩
    case stop => exact fun pre W _ h _ => h.elim
  · have HV : Hid ((-1 : Int) = countI h lv) := Lib.hid (by unfold countI; rw [if_neg h8])
    have h8i : (8 : Int) < (h.length : Int) := by omega
    clear h8
    go_enter Tryz.func21, Tryz.ntmps21
    go_wp2_with fail
    go_ret
    exact ⟨ret_i HV.out, hb1⟩
end Go.Proofs.YtfancjmhdbaoeaaGreatDoor

namespace Go.Proofs.YtfancjmhdbaoeaaGreatDoor
set_option maxRecDepth 100000
open Go.RowKit

/-- What lies in the block of a witness. -/
def WitS (p : Nat) (vo vs : Value) (w : World) : Prop := w.cell? ⟨p, 0, none⟩ = some vo ∧ w.cell? ⟨p, 1, none⟩ = some vs
theorem WitS.below {p : Nat} {vo vs : Value} {w w' : World} (h : WitS p vo vs w) (hb : Below w.heap.size w w') : WitS p vo vs w' := ⟨(hb.cell (p := ⟨p, 0, none⟩) (block_lt h.1)).trans h.1, (hb.cell (p := ⟨p, 1, none⟩) (block_lt h.2)).trans h.2⟩
end Go.Proofs.YtfancjmhdbaoeaaGreatDoor

namespace Go.Proofs.YtfancjmhdbaoeaaGreatDoor
set_option maxRecDepth 100000
open Go.RowKit

theorem nilIn (w : World) : Sem.run Tryz.prog (binOp .eql 32 (.slice none 0 0) (.slice none 0 0)) w = .ok (.bool true) w := by kernel_rfl
theorem someIn (w : World) (a : Addr) (n c : Nat) : Sem.run Tryz.prog (binOp .eql 32 (.slice (some a) n c) (.slice none 0 0)) w = .ok (.bool false) w := by kernel_rfl
set_option maxHeartbeats 4000000 in
theorem clone_ints (va : Value) (l : List Int) (w : World) (ha : Ints w va l) (hl : l.length ≤ 100000) :
    Calls Tryz.prog 139 #[va] w fun e w' => ∃ v, e = .returned v ∧ w'.ownsRow w.heap.size 3 1 v l.length (l.map (Value.int .i64)) ∧ Below w.heap.size w w' := by
  obtain ⟨i0, hi, hz0, hz1, hz2⟩ := info_parts infoInt
  obtain ⟨ao, cap, rfl, hal⟩ := ha.form
  cases ao with
  | none =>
    have h0 : l = [] := by
      obtain ⟨_, ao', cap', e, _, hno, _⟩ := ha
      cases e
      exact List.eq_nil_of_length_eq_zero (hno rfl).1
    subst h0
    have hc0 : cap = 0 := by
      obtain ⟨_, ao', cap', e, _, hno, _⟩ := ha
      cases e
      exact (hno rfl).2
    subst hc0
    have e1 := nilIn
    have e2 := fun w a n c => someIn w a n c
    go_enter Tryz.func139, Tryz.ntmps139
    go_wp2_with fail
    go_ret
    exact ⟨_, rfl, World.ownsRow_nil _ _ _ _, Below.refl _ _⟩
  | some ad =>
    have e1 := nilIn
    have e2 := fun w a n c => someIn w a n c
    go_enter Tryz.func139, Tryz.ntmps139
    go_wp2_with (first | (at_builtin; refine wpList_append_row rfl _ _ 32 rfl w.heap.size 3 i0 (.int .i64 0) 1 8 Tryz.underlying32 hi hz0 hz1 hz2 rfl (by decide) _ 0 [] rfl (World.ownsRow_lit _ _ _ (Nat.le_refl _) (by decide) rfl) _ l.length _ rfl (ha.below ((Below.refl _ _).alloc (Nat.le_refl _) _)) ?d1 ?d2 ?d3 ?d4 ?_) | go_in)
    case d1 => intro u hu; obtain ⟨x, _, rfl⟩ := List.mem_map.1 hu; rfl
    case d2 => unfold maxLen; omega
    case d3 => omega
    case d4 => first | omega | simp
    intro v5 w5 hown5 hg5
    have hO5 : w5.ownsRow w.heap.size 3 1 v5 l.length (l.map (Value.int .i64)) := by simpa using hown5
    have hb5 := ((Below.refl w.heap.size w).alloc (Nat.le_refl _) (.cells #[] 3)).grown hg5 (by simp) (by intro k hk; simp [Value.ownBlock] at hk; omega)
    clear hown5 hg5
    go_wp2_with fail
    go_ret
    exact ⟨_, rfl, hO5, hb5⟩
theorem infoIntsL : (Tryz.prog.info? 32).map (fun i => (i.zero, i.size, i.bytes)) = some (some (.slice none 0 0), 1, 24) := by kernel_rfl
/-- Whom each sees, in lists. -/
def seesL (V : Mat) (n : Nat) : List (List Int) := (List.range n).map fun (i : Nat) => (lst (seeTo V (i : Int) 64)).map Int.ofNat
theorem seesL_succ (V : Mat) (n : Nat) : seesL V (n + 1) = seesL V n ++ [(lst (seeTo V (n : Int) 64)).map Int.ofNat] := by
  unfold seesL; rw [List.range_succ, List.map_append]; rfl
/-- A row of rows of ints that the call itself made. -/
structure OwnK (b : Nat) (w : World) (v : Value) (K : List KRow) : Prop where
  kr : w.ownsRow b 32 1 v K.length (K.map (·.1))
  ke : ∀ p ∈ K, w.ownsRow b 3 1 p.1 p.2.length (p.2.map (Value.int .i64))
theorem OwnK.nil (b : Nat) (w : World) : OwnK b w (.slice none 0 0) [] := ⟨World.ownsRow_nil _ _ _ _, fun p hp => (by cases hp)⟩
theorem OwnK.below {b : Nat} {w w' : World} {v : Value} {K : List KRow} (h : OwnK b w v K) (hb : Below w.heap.size w w') : OwnK b w' v K := ⟨owns_below h.kr hb, fun p hp => owns_below (h.ke p hp) hb⟩
theorem OwnK.add {b : Nat} {w w2 : World} {o : Obj} {v v' u : Value} {K : List KRow} {l : List Int} (h : OwnK b w v K) (hv : w.ownsRow b 3 1 u l.length (l.map (Value.int .i64))) (hown : w2.ownsRow b 32 1 v' (K.length + 1) (K.map (·.1) ++ [u]))
    (hg : (w.alloc o).grownBy w2 v.ownBlock) : OwnK b w2 v' (K ++ [(u, l)]) := by
  refine ⟨by simpa using hown, fun p hp => ?_⟩
  rcases List.mem_append.1 hp with hp | hp
  · exact ((h.ke p hp).alloc o).kept hg (owns_apart (h.ke p hp) h.kr (by decide))
  · obtain rfl := List.mem_singleton.1 hp
    exact (hv.alloc o).kept hg (owns_apart hv h.kr (by decide))
theorem OwnK.lists {b : Nat} {w : World} {v : Value} {K : List KRow} (h : OwnK b w v K) : Lists w v (K.map (·.2)) := by
  refine ⟨K.map (·.1), by have := Row.of_owns h.kr; rwa [List.length_map], fun k hk => ?_⟩
  rw [List.length_map] at hk
  refine ⟨K[k].1, by rw [List.getElem?_map, List.getElem?_eq_getElem hk]; rfl, ?_⟩
  rw [List.getElem_map]
  exact Ints.of_owns (h.ke _ (List.getElem_mem hk))
/-- What lies in a block of another type isn't an own row's. -/
theorem own_far {w : World} {b e size n p : Nat} {v : Value} {xs : List Value} {cs : Array Value} {t : TypeId} {fr : Nat × Nat} (h : w.ownsRow b e size v n xs) (hp : w.heap[p]? = some (.cells cs t fr)) (hne : e ≠ t) : some p ≠ v.ownBlock := by
  obtain ⟨_, h⟩ := h
  rcases h with ⟨rfl, _⟩ | ⟨g, c, cur, rfl, _, hh, _⟩
  · simp [Value.ownBlock]
  · intro e2
    simp [Value.ownBlock] at e2
    subst e2
    rw [hp] at hh
    injection hh with hh
    injection hh with h1 h2 h3
    exact hne h2.symm
/-- What lies there while a witness is made. -/
structure WI (b p5 : Nat) (V : Mat) (vo : Value) (l : List Int) (vs : Value) (K : List KRow) (w0 w : World) : Prop where
  rel : RelAt w b 37 V
  res : At w (b + 1) (.cells #[.slice none 0 0, .slice none 0 0] 50)
  box : At w p5 (.cells #[vo, vs] 50)
  own : OwnK b w vs K
  ord : w.ownsRow b 3 1 vo l.length (l.map (Value.int .i64))
  bel : Below b w0 w
theorem grown_setW (w : World) (a : Addr) (u : Value) : w.grownBy (w.setCell a u) (some a.block) :=
  ⟨rfl, rfl, rfl, by simp, fun k _ hk => Below.heap_setCell w a u k (fun e => hk (by rw [e]))⟩
theorem lit_newS (w : World) (x : Value) (t : TypeId) : ∀ j u, [x][j]? = some u → (w.alloc (.cells #[x] t)).cell? ((⟨w.heap.size, 0, none⟩ : Addr).add j) = some u := fun j u hu => by
  match j, hu with
  | 0, hu =>
    simp at hu; subst hu
    rw [Addr.add_lit, Nat.add_zero, cell_of_row _ _ _ _ _ _ (heap_alloc_new w _)]; rfl
  | j + 1, hu => simp at hu
theorem own_none {w : World} {b e size n p : Nat} {v : Value} {xs : List Value} {cs : Array Value} {t : TypeId} {fr : Nat × Nat} (h : w.ownsRow b e size v n xs) (hp : w.heap[p]? = some (.cells cs t fr)) (hne : e ≠ t) : v.ownBlock = none ∨ v.ownBlock ≠ some p := .inr (fun e2 => own_far h hp hne e2.symm)
theorem WI.below {b p5 : Nat} {V : Mat} {vo : Value} {l : List Int} {vs : Value} {K : List KRow} {w0 w w' : World} (h : WI b p5 V vo l vs K w0 w) (hb : Below w.heap.size w w') : WI b p5 V vo l vs K w0 w' :=
  ⟨h.rel.below hb h.rel.lt, h.res.below hb, h.box.below hb, h.own.below hb, owns_below h.ord hb, h.bel.trans (hb.mono (Nat.le_of_lt h.rel.lt))⟩
theorem WI.add {b p5 : Nat} {V : Mat} {vo : Value} {l : List Int} {vs v' u : Value} {K : List KRow} {s : List Int} {w0 W w5 : World} {o : Obj} (hp : b + 2 ≤ p5) (h : WI b p5 V vo l vs K w0 W) (hv : W.ownsRow b 3 1 u s.length (s.map (Value.int .i64)))
    (hown : w5.ownsRow b 32 1 v' (K.length + 1) (K.map (·.1) ++ [u])) (hg : (W.alloc o).grownBy w5 vs.ownBlock) :
    RelAt w5 b 37 V ∧ w5.cell? ⟨p5, 1, none⟩ = some vs ∧ w5.frozen? ⟨p5, 1, none⟩ = false ∧ RelAt (w5.setCell ⟨p5, 1, none⟩ v') b 37 V ∧ WI b p5 V vo l v' (K ++ [(u, s)]) w0 (w5.setCell ⟨p5, 1, none⟩ v') := by
  have kr := h.own.kr.alloc o
  have r1 : At w5 b (.cells (rowsA V) 37) := At.grown (h.rel.alloc o) hg (own_far kr (h.rel.alloc o) (by decide))
  have r2 := At.grown (h.res.alloc o) hg (own_far kr (h.res.alloc o) (by decide))
  have r3 := At.grown (h.box.alloc o) hg (own_far kr (h.box.alloc o) (by decide))
  have r4 := h.own.add hv hown hg
  have r5 := (h.ord.alloc o).kept hg (owns_apart h.ord h.own.kr (by decide))
  have d5 := (h.bel.alloc (Nat.le_of_lt h.rel.lt) o).grown hg (by have := h.rel.lt; simp; omega) (fun k hk => (kr.lt k hk).1)
  have gs := grown_setW w5 ⟨p5, 1, none⟩ v'
  have hc : w5.cell? ⟨p5, 1, none⟩ = some vs := by unfold At at r3; simp [World.cell?, r3]
  have q1 := At.grown r1 gs (by simp; omega)
  refine ⟨r1, hc, frozen_of_row w5 p5 1 _ _ r3, q1, q1, At.grown r2 gs (by simp; omega), ?_, ⟨r4.kr.kept gs (own_none r4.kr r3 (by decide)), fun p hp => (r4.ke p hp).kept gs (own_none (r4.ke p hp) r3 (by decide))⟩, r5.kept gs (own_none r5 r3 (by decide)), d5.setCell (p := ⟨p5, 1, none⟩) (by show b ≤ p5; omega) v'⟩
  unfold At at r3 ⊢
  simp [World.setCell, Array.getElem?_modify, r3]
theorem At.second {w : World} {p : Nat} {x y : Value} {t : TypeId} (h : At w p (.cells #[x, y] t)) (z : Value) : At (w.setCell ⟨p, 1, none⟩ z) p (.cells #[x, z] t) := by
  unfold At at h ⊢
  simp [World.setCell, Array.getElem?_modify, h]
theorem WI.done {b p5 : Nat} {V : Mat} {vo : Value} {l : List Int} {vs : Value} {K : List KRow} {w0 w : World} (h : WI b p5 V vo l vs K w0 w) :
    At ((w.setCell ⟨b + 1, 0, none⟩ vo).setCell ⟨b + 1, 1, none⟩ vs) (b + 1) (.cells #[vo, vs] 50) ∧ ((w.setCell ⟨b + 1, 0, none⟩ vo).setCell ⟨b + 1, 1, none⟩ vs).ownsRow b 3 1 vo l.length (l.map (Value.int .i64)) ∧ OwnK b ((w.setCell ⟨b + 1, 0, none⟩ vo).setCell ⟨b + 1, 1, none⟩ vs) vs K ∧ Below b w0 ((w.setCell ⟨b + 1, 0, none⟩ vo).setCell ⟨b + 1, 1, none⟩ vs) := by
  have g1 := grown_setW w ⟨b + 1, 0, none⟩ vo
  have a1 : At (w.setCell ⟨b + 1, 0, none⟩ vo) (b + 1) (.cells #[vo, .slice none 0 0] 50) := by
    have := h.res
    unfold At at this ⊢
    simp [World.setCell, Array.getElem?_modify, this]
  have g2 := grown_setW (w.setCell ⟨b + 1, 0, none⟩ vo) ⟨b + 1, 1, none⟩ vs
  have o1 := h.ord.kept g1 (own_none h.ord h.res (by decide))
  have o2 := o1.kept g2 (own_none o1 a1 (by decide))
  have k1 := h.own.kr.kept g1 (own_none h.own.kr h.res (by decide))
  have k2 := k1.kept g2 (own_none k1 a1 (by decide))
  have hk : OwnK b ((w.setCell ⟨b + 1, 0, none⟩ vo).setCell ⟨b + 1, 1, none⟩ vs) vs K := ⟨k2, fun p hp => by
    have q1 := (h.own.ke p hp).kept g1 (own_none (h.own.ke p hp) h.res (by decide))
    exact q1.kept g2 (own_none q1 a1 (by decide))⟩
  refine ⟨?_, o2, hk, (h.bel.setCell (p := ⟨b + 1, 0, none⟩) (by show b ≤ b + 1; omega) vo).setCell (p := ⟨b + 1, 1, none⟩) (by show b ≤ b + 1; omega) vs⟩
  exact a1.second vs
set_option maxRecDepth 100000 in
set_option maxHeartbeats 16000000 in
theorem awitness_own (va : Value) (l : List Int) (V : Mat) (w : World) (ht : Tab w) (hI : Ints w va l) (hl : l.length ≤ 64) :
    Calls Tryz.prog 74 #[va, .agg (rowsA V)] w fun e w' => (∃ vo vs K, e = .returned (.agg #[vo, vs]) ∧ w'.ownsRow w.heap.size 3 1 vo l.length (l.map (Value.int .i64)) ∧ OwnK w.heap.size w' vs K ∧ K.map (fun p : KRow => p.2) = seesL V l.length) ∧ Below w.heap.size w w' := by
  have hg := ht.pos
  obtain ⟨i0, hi, hz0, hz1, hz2⟩ := info_parts infoIntsL
  have HT : Hid (∀ wx, Below w.heap.size w wx → Tab wx) := Lib.hid (fun wx hb => ht.below hb hg)
  have HI := Lib.hid (fun wx (hx : Below w.heap.size w wx) => hI.below hx)
  obtain ⟨ao, cap, rfl, hal⟩ := hI.form
  have r0 : RelAt (w.alloc (.cells (rowsA V) 37)) w.heap.size 37 V := RelAt.made w _ _ rfl rfl
  have hb0 := box_below w (.cells (rowsA V) 37)
  clear ht hI
  go_enter Tryz.func74, Tryz.ntmps74
  go_upto_region 1 with fail
  generalize hw0 : w.alloc (.cells (rowsA V) 37) = w0 at *
  have hs0 : w0.heap.size = w.heap.size + 1 := by rw [← hw0]; simp
  clear hw0
  have a4 := At.new w0 (.cells #[.slice none 0 0, .slice none 0 0] 50)
  rw [hs0] at a4
  have r0 := r0.alloc (.cells #[.slice none 0 0, .slice none 0 0] 50)
  have hb1 := hb0.alloc (by omega) (.cells #[.slice none 0 0, .slice none 0 0] 50)
  have hs1 : (w0.alloc (.cells #[.slice none 0 0, .slice none 0 0] 50)).heap.size = w.heap.size + 2 := by simp [hs0]
  generalize w0.alloc (.cells #[.slice none 0 0, .slice none 0 0] 50) = w1 at *
  have CC := Lib.hid (clone_ints _ l w1 (HI.out _ hb1) (by omega))
  clear hb0 hs0
  go_wp2_with fail
  refine (CC.out).mono ?_
  rintro e w2 ⟨vo, rfl, hO2, h2⟩
  have r2 := r0.below h2 r0.lt
  have a4 := a4.below h2
  have hb2 := below_then hb1 h2
  have hp5 : w.heap.size + 2 ≤ w2.heap.size := by have := h2.size; omega
  obtain ⟨oo, oc, rfl⟩ := owns_form hO2
  go_upto_region 2 with fail
  have hWI : WI w.heap.size w2.heap.size V (.slice oo l.length oc) l (.slice none 0 0) [] w (w2.alloc (.cells #[.slice oo l.length oc, .slice none 0 0] 50)) :=
    ⟨r2.alloc _, a4.alloc _, At.new w2 _, OwnK.nil _ _, own_base' (hO2.alloc _) (by omega), hb2.alloc hb2.size _⟩
  generalize w2.alloc (.cells #[.slice oo l.length oc, .slice none 0 0] 50) = w3 at *
  generalize w2.heap.size = p5 at *
  clear r0 r2 a4 hb1 hb2 hO2 h2 hs1 CC
  go_wp2_with fail
  go_loopw [12] (fun iv wr => ∃ (k : Nat) (vs : Value) (K : List KRow), k ≤ l.length ∧ iv = .int .i64 k ∧ K.map (fun p : KRow => p.2) = seesL V k ∧ WI w.heap.size p5 V (.slice oo l.length oc) l vs K w wr) (fun iv _ => l.length - (intOf iv).toNat)
  case atStart => exact ⟨0, .slice none 0 0, [], by omega, rfl, rfl, hWI⟩
  case round =>
    clear hWI
    obtain ⟨k, vs, K, hk, rfl, hK, hW⟩ := hrel
    by_cases hlt : k < l.length
    · have hki : (k : Int) < (l.length : Int) := by omega
      have hKl : K.length = k := by have := congrArg List.length hK; simpa [seesL] using this
      obtain ⟨vsa, vsc, rfl⟩ := owns_form hW.own.kr
      have HNX : Hid (∀ u, (K ++ [(u, (lst (seeTo V (k : Int) 64)).map Int.ofNat)]).map (fun p : KRow => p.2) = seesL V (k + 1)) := Lib.hid (fun u => by rw [List.map_append, hK, seesL_succ]; rfl)
      have CS := Lib.hid (fun wx => asees_any V (k : Int) wx)
      have CL : Hid (∀ wx, Below wr.heap.size wr wx → Calls Tryz.prog 140 #[.int .u64 ((seeTo V (k : Int) 64 : Nat) : Int)] wx fun e w' => ∃ v, e = .returned v ∧ w'.ownsRow w.heap.size 3 1 v ((lst (seeTo V (k : Int) 64)).map Int.ofNat).length (((lst (seeTo V (k : Int) 64)).map Int.ofNat).map (Value.int .i64)) ∧ Below wx.heap.size wx w') := Lib.hid (fun wx hx => (list_any (seeTo V (k : Int) 64) wx (seeTo_set V _ 64) (HT.out _ (hW.bel.trans (hx.mono (Nat.le_of_lt hW.rel.lt))))).mono (by
        rintro e w' ⟨v, he, ho, hb⟩
        refine ⟨v, he, own_base' ?_ (show w.heap.size ≤ wx.heap.size by have h1 := hx.size; have h2 := hW.rel.lt; omega), hb⟩
        rw [List.length_map, List.map_map]
        exact ho))
      have HW := Lib.hid (fun wx (hx : Below wr.heap.size wr wx) => hW.below hx)
      have HSR : Hid (∀ wx, Below wr.heap.size wr wx → RelAt wx w.heap.size 37 V) := Lib.hid (fun wx hx => (hW.below hx).rel)
      have HCL : Hid (∀ wx, Below wr.heap.size wr wx → wx.cell? ⟨p5, 1, none⟩ = some (.slice vsa K.length vsc)) := Lib.hid (fun wx hx => by have r3 := (hW.below hx).box; unfold At at r3; simp [World.cell?, r3])
      have HSZ : Hid (∀ wx (o : Obj), Below wr.heap.size wr wx → w.heap.size ≤ (wx.alloc o).heap.size) := Lib.hid (fun wx o hx => by have h1 := hx.size; have h2 := hW.rel.lt; simp; omega)
      have n3 : Hid (K.length + 1 ≤ maxLen) := Lib.hid (by unfold maxLen; omega)
      have n4 : Hid ((K.length + 1) * 24 ≤ 140737488355328) := Lib.hid (by omega)
      generalize hLs : (lst (seeTo V (k : Int) 64)).map Int.ofNat = ls at *
      clear hLs
      have kd := (Below.refl wr.heap.size wr).drew
      clear hW hK hKl
      go_upto_region 5 with fail

      refine wp_region_held_drew (S := fun wx => RelAt wx w.heap.size 37 V) (by kernel_rfl) (HSR.out _ kd) (fun hS0 => ?_)
      refine takeG (some 15) (i := 0) (v := ?vw0) rfl rfl (by kernel_rfl) (by kernel_rfl) (by kernel_rfl) (fun _ _ _ h => h) (Or.inl ⟨by rfl, ?hw0⟩) hS0 ?rw0
      case hw0 => (intro w _; go_simp; try (with_reducible rfl))
      try simp only [Act.put, List.setIfInBounds_toArray, List.set_cons_zero, List.set_cons_succ]
      refine takeG (some 18) (i := 3) (v := ?vw3) rfl rfl (by kernel_rfl) (by kernel_rfl) (by kernel_rfl) (fun _ _ _ h => h) (Or.inl ⟨by rfl, ?hw3⟩) hS0 ?rw3
      case hw3 => (intro w _; go_simp; try (with_reducible rfl))
      try simp only [Act.put, List.setIfInBounds_toArray, List.set_cons_zero, List.set_cons_succ]
      refine takeG (some 17) (i := 2) (v := _) rfl rfl (by kernel_rfl) (by kernel_rfl) (by kernel_rfl) (fun _ _ _ h => h) (yields_rel (by rfl) _ rfl rfl (fun w hw => hw)) hS0 ?_
      try simp only [Act.put, List.setIfInBounds_toArray, List.set_cons_zero, List.set_cons_succ]
      generalize wr.drew = wd at *
      refine wpAnyH_ready (rs := [1, 4]) (by kernel_rfl) (by simp) ?_
      refine AllReadyH.cons rfl (fun K' hK' => ?_) (AllReadyH.cons rfl (fun K' hK' => ?_) AllReadyH.nil)
      ·
        have hc1 := HCL.out _ kd
        go_simp
        refine hK'.out _ _ hS0 (fun _ => ?_)
        clear hK' K' hc1
        refine wpAnyH_ready (rs := [4]) (by kernel_rfl) (by simp) ?_
        refine AllReadyH.cons rfl (fun K' hK' => ?_) AllReadyH.nil
        go_simp
        refine (CS.out _).mono ?_
        rintro e q2 ⟨rfl, j2⟩
        show K' _ _
        have k2 := below_then kd j2
        have s2 := HSR.out _ k2
        refine hK'.out _ _ s2 (fun _ => ?_)
        clear hK' K'
        refine wpAnyH_ready (rs := [5]) (by kernel_rfl) (by simp) ?_
        refine AllReadyH.cons rfl (fun K' hK' => ?_) AllReadyH.nil
        go_simp
        refine (CL.out _ k2).mono ?_
        rintro e q3 ⟨vx, rfl, hox, j3⟩
        obtain ⟨ax, cx, hvx⟩ := owns_form hox
        subst hvx
        show K' _ _
        have k3 := below_then k2 j3
        have s3 := HSR.out _ k3
        refine hK'.out _ _ s3 (fun _ => ?_)
        clear hK' K'
        refine wpAnyH_ready (rs := [6]) (by kernel_rfl) (by simp) ?_
        refine AllReadyH.cons rfl (fun K' hK' => ?_) AllReadyH.nil
        go_simp
        have s4 := s3.alloc (.cells #[.slice ax ls.length cx] 32)
        have HCA4 := HCL.out _ (k3.alloc k3.size (.cells #[.slice ax ls.length cx] 32))
        refine hK'.out _ _ s4 (fun _ => ?_)
        clear hK' K'
        refine wpAnyH_ready (rs := [7]) (by kernel_rfl) (by simp) ?_
        refine AllReadyH.cons rfl (fun K' hK' => ?_) AllReadyH.nil
        refine step_app _ rfl (.tmp 16) (.tmp 21) 48 rfl w.heap.size 32 i0 (.slice none 0 0) 1 24 Tryz.underlying48 hi hz0 hz1 hz2 rfl (by decide) (.slice vsa K.length vsc) K.length (K.map (·.1)) (by simp [Act.eval]) ((HW.out _ k3).own.kr.alloc _) ⟨q3.heap.size, 0, none⟩ 1 1 [.slice ax ls.length cx] (by simp [Act.eval]) rfl ?c1x5 ?c2x5 ?c3x5 ?c4x5 ?c5x5 ?c6x5
        case c1x5 => exact lit_newS _ _ _
        case c2x5 => intro u hu; simp at hu; subst hu; rfl
        case c3x5 => exact n3.out
        case c4x5 => exact n4.out
        case c5x5 => exact HSZ.out _ _ k3
        case c6x5 =>
          intro v5 w5 hown5 hg5
          obtain ⟨a5, c5, hv5⟩ := owns_form hown5
          subst hv5
          obtain ⟨hS5, hcz, hfz, hS6, hF5⟩ := WI.add hp5 (HW.out _ k3) hox hown5 hg5
          show K' _ _
          refine hK'.out _ _ hS5 (fun _ => ?_)
          clear hK' K'
          refine takeG (some 23) (i := 8) (v := ?vw5x8) rfl rfl (by kernel_rfl) (by kernel_rfl) (by kernel_rfl) (fun _ _ _ h => h) (Or.inl ⟨by rfl, ?hw5x8⟩) hS5 ?rw5x8
          case hw5x8 => (intro w _; go_simp; try (with_reducible rfl))
          try simp only [Act.put, List.setIfInBounds_toArray]
          refine wpAnyH_ready (rs := [9]) (by kernel_rfl) (by simp) ?_
          refine AllReadyH.cons rfl (fun K' hK' => ?_) AllReadyH.nil
          go_simp
          refine hK'.out _ _ hS6 (fun _ => ?_)
          clear hK' K'
          refine wpAnyH_done (by kernel_rfl) ?_ _
          go_wp2_with fail
          go_roundw
          case rel => exact ⟨k + 1, _, _, by omega, by go_num, HNX.out _, hF5⟩
          case measure => simp [intOf]; omega
      ·
        go_simp
        refine (CS.out _).mono ?_
        rintro e q7 ⟨rfl, j7⟩
        show K' _ _
        have k7 := below_then kd j7
        have s7 := HSR.out _ k7
        refine hK'.out _ _ s7 (fun _ => ?_)
        clear hK' K'
        refine wpAnyH_ready (rs := [1, 5]) (by kernel_rfl) (by simp) ?_
        refine AllReadyH.cons rfl (fun K' hK' => ?_) (AllReadyH.cons rfl (fun K' hK' => ?_) AllReadyH.nil)
        ·
          have hc8 := HCL.out _ k7
          go_simp
          refine hK'.out _ _ s7 (fun _ => ?_)
          clear hK' K' hc8
          refine wpAnyH_ready (rs := [5]) (by kernel_rfl) (by simp) ?_
          refine AllReadyH.cons rfl (fun K' hK' => ?_) AllReadyH.nil
          go_simp
          refine (CL.out _ k7).mono ?_
          rintro e q9 ⟨vx, rfl, hox, j9⟩
          obtain ⟨ax, cx, hvx⟩ := owns_form hox
          subst hvx
          show K' _ _
          have k9 := below_then k7 j9
          have s9 := HSR.out _ k9
          refine hK'.out _ _ s9 (fun _ => ?_)
          clear hK' K'
          refine wpAnyH_ready (rs := [6]) (by kernel_rfl) (by simp) ?_
          refine AllReadyH.cons rfl (fun K' hK' => ?_) AllReadyH.nil
          go_simp
          have s10 := s9.alloc (.cells #[.slice ax ls.length cx] 32)
          have HCA10 := HCL.out _ (k9.alloc k9.size (.cells #[.slice ax ls.length cx] 32))
          refine hK'.out _ _ s10 (fun _ => ?_)
          clear hK' K'
          refine wpAnyH_ready (rs := [7]) (by kernel_rfl) (by simp) ?_
          refine AllReadyH.cons rfl (fun K' hK' => ?_) AllReadyH.nil
          refine step_app _ rfl (.tmp 16) (.tmp 21) 48 rfl w.heap.size 32 i0 (.slice none 0 0) 1 24 Tryz.underlying48 hi hz0 hz1 hz2 rfl (by decide) (.slice vsa K.length vsc) K.length (K.map (·.1)) (by simp [Act.eval]) ((HW.out _ k9).own.kr.alloc _) ⟨q9.heap.size, 0, none⟩ 1 1 [.slice ax ls.length cx] (by simp [Act.eval]) rfl ?c1x11 ?c2x11 ?c3x11 ?c4x11 ?c5x11 ?c6x11
          case c1x11 => exact lit_newS _ _ _
          case c2x11 => intro u hu; simp at hu; subst hu; rfl
          case c3x11 => exact n3.out
          case c4x11 => exact n4.out
          case c5x11 => exact HSZ.out _ _ k9
          case c6x11 =>
            intro v5 w5 hown5 hg5
            obtain ⟨a5, c5, hv5⟩ := owns_form hown5
            subst hv5
            obtain ⟨hS5, hcz, hfz, hS6, hF5⟩ := WI.add hp5 (HW.out _ k9) hox hown5 hg5
            show K' _ _
            refine hK'.out _ _ hS5 (fun _ => ?_)
            clear hK' K'
            refine takeG (some 23) (i := 8) (v := ?vw11x8) rfl rfl (by kernel_rfl) (by kernel_rfl) (by kernel_rfl) (fun _ _ _ h => h) (Or.inl ⟨by rfl, ?hw11x8⟩) hS5 ?rw11x8
            case hw11x8 => (intro w _; go_simp; try (with_reducible rfl))
            try simp only [Act.put, List.setIfInBounds_toArray]
            refine wpAnyH_ready (rs := [9]) (by kernel_rfl) (by simp) ?_
            refine AllReadyH.cons rfl (fun K' hK' => ?_) AllReadyH.nil
            go_simp
            refine hK'.out _ _ hS6 (fun _ => ?_)
            clear hK' K'
            refine wpAnyH_done (by kernel_rfl) ?_ _
            go_wp2_with fail
            go_roundw
            case rel => exact ⟨k + 1, _, _, by omega, by go_num, HNX.out _, hF5⟩
            case measure => simp [intOf]; omega
        ·
          go_simp
          refine (CL.out _ k7).mono ?_
          rintro e q13 ⟨vx, rfl, hox, j13⟩
          obtain ⟨ax, cx, hvx⟩ := owns_form hox
          subst hvx
          show K' _ _
          have k13 := below_then k7 j13
          have s13 := HSR.out _ k13
          refine hK'.out _ _ s13 (fun _ => ?_)
          clear hK' K'
          refine wpAnyH_ready (rs := [1, 6]) (by kernel_rfl) (by simp) ?_
          refine AllReadyH.cons rfl (fun K' hK' => ?_) (AllReadyH.cons rfl (fun K' hK' => ?_) AllReadyH.nil)
          ·
            have hc14 := HCL.out _ k13
            go_simp
            refine hK'.out _ _ s13 (fun _ => ?_)
            clear hK' K' hc14
            refine wpAnyH_ready (rs := [6]) (by kernel_rfl) (by simp) ?_
            refine AllReadyH.cons rfl (fun K' hK' => ?_) AllReadyH.nil
            go_simp
            have s15 := s13.alloc (.cells #[.slice ax ls.length cx] 32)
            have HCA15 := HCL.out _ (k13.alloc k13.size (.cells #[.slice ax ls.length cx] 32))
            refine hK'.out _ _ s15 (fun _ => ?_)
            clear hK' K'
            refine wpAnyH_ready (rs := [7]) (by kernel_rfl) (by simp) ?_
            refine AllReadyH.cons rfl (fun K' hK' => ?_) AllReadyH.nil
            refine step_app _ rfl (.tmp 16) (.tmp 21) 48 rfl w.heap.size 32 i0 (.slice none 0 0) 1 24 Tryz.underlying48 hi hz0 hz1 hz2 rfl (by decide) (.slice vsa K.length vsc) K.length (K.map (·.1)) (by simp [Act.eval]) ((HW.out _ k13).own.kr.alloc _) ⟨q13.heap.size, 0, none⟩ 1 1 [.slice ax ls.length cx] (by simp [Act.eval]) rfl ?c1x16 ?c2x16 ?c3x16 ?c4x16 ?c5x16 ?c6x16
            case c1x16 => exact lit_newS _ _ _
            case c2x16 => intro u hu; simp at hu; subst hu; rfl
            case c3x16 => exact n3.out
            case c4x16 => exact n4.out
            case c5x16 => exact HSZ.out _ _ k13
            case c6x16 =>
              intro v5 w5 hown5 hg5
              obtain ⟨a5, c5, hv5⟩ := owns_form hown5
              subst hv5
              obtain ⟨hS5, hcz, hfz, hS6, hF5⟩ := WI.add hp5 (HW.out _ k13) hox hown5 hg5
              show K' _ _
              refine hK'.out _ _ hS5 (fun _ => ?_)
              clear hK' K'
              refine takeG (some 23) (i := 8) (v := ?vw16x8) rfl rfl (by kernel_rfl) (by kernel_rfl) (by kernel_rfl) (fun _ _ _ h => h) (Or.inl ⟨by rfl, ?hw16x8⟩) hS5 ?rw16x8
              case hw16x8 => (intro w _; go_simp; try (with_reducible rfl))
              try simp only [Act.put, List.setIfInBounds_toArray]
              refine wpAnyH_ready (rs := [9]) (by kernel_rfl) (by simp) ?_
              refine AllReadyH.cons rfl (fun K' hK' => ?_) AllReadyH.nil
              go_simp
              refine hK'.out _ _ hS6 (fun _ => ?_)
              clear hK' K'
              refine wpAnyH_done (by kernel_rfl) ?_ _
              go_wp2_with fail
              go_roundw
              case rel => exact ⟨k + 1, _, _, by omega, by go_num, HNX.out _, hF5⟩
              case measure => simp [intOf]; omega
          ·
            go_simp
            have s18 := s13.alloc (.cells #[.slice ax ls.length cx] 32)
            have HCA18 := HCL.out _ (k13.alloc k13.size (.cells #[.slice ax ls.length cx] 32))
            refine hK'.out _ _ s18 (fun _ => ?_)
            clear hK' K'
            refine wpAnyH_ready (rs := [1]) (by kernel_rfl) (by simp) ?_
            refine AllReadyH.cons rfl (fun K' hK' => ?_) AllReadyH.nil
            have hc19 := HCA18
            go_simp
            refine hK'.out _ _ s18 (fun _ => ?_)
            clear hK' K' hc19
            refine wpAnyH_ready (rs := [7]) (by kernel_rfl) (by simp) ?_
            refine AllReadyH.cons rfl (fun K' hK' => ?_) AllReadyH.nil
            refine step_app _ rfl (.tmp 16) (.tmp 21) 48 rfl w.heap.size 32 i0 (.slice none 0 0) 1 24 Tryz.underlying48 hi hz0 hz1 hz2 rfl (by decide) (.slice vsa K.length vsc) K.length (K.map (·.1)) (by simp [Act.eval]) ((HW.out _ k13).own.kr.alloc _) ⟨q13.heap.size, 0, none⟩ 1 1 [.slice ax ls.length cx] (by simp [Act.eval]) rfl ?c1x20 ?c2x20 ?c3x20 ?c4x20 ?c5x20 ?c6x20
            case c1x20 => exact lit_newS _ _ _
            case c2x20 => intro u hu; simp at hu; subst hu; rfl
            case c3x20 => exact n3.out
            case c4x20 => exact n4.out
            case c5x20 => exact HSZ.out _ _ k13
            case c6x20 =>
              intro v5 w5 hown5 hg5
              obtain ⟨a5, c5, hv5⟩ := owns_form hown5
              subst hv5
              obtain ⟨hS5, hcz, hfz, hS6, hF5⟩ := WI.add hp5 (HW.out _ k13) hox hown5 hg5
              show K' _ _
              refine hK'.out _ _ hS5 (fun _ => ?_)
              clear hK' K'
              refine takeG (some 23) (i := 8) (v := ?vw20x8) rfl rfl (by kernel_rfl) (by kernel_rfl) (by kernel_rfl) (fun _ _ _ h => h) (Or.inl ⟨by rfl, ?hw20x8⟩) hS5 ?rw20x8
              case hw20x8 => (intro w _; go_simp; try (with_reducible rfl))
              try simp only [Act.put, List.setIfInBounds_toArray]
              refine wpAnyH_ready (rs := [9]) (by kernel_rfl) (by simp) ?_
              refine AllReadyH.cons rfl (fun K' hK' => ?_) AllReadyH.nil
              go_simp
              refine hK'.out _ _ hS6 (fun _ => ?_)
              clear hK' K'
              refine wpAnyH_done (by kernel_rfl) ?_ _
              go_wp2_with fail
              go_roundw
              case rel => exact ⟨k + 1, _, _, by omega, by go_num, HNX.out _, hF5⟩
              case measure => simp [intOf]; omega
    · have hkn : k = l.length := by omega
      have hnk : ¬ (k : Int) < (l.length : Int) := by omega
      rw [hkn] at hK
      have HL := Lib.hid hK
      clear hK
      have b1 := hW.box
      have b2 := hW.res
      obtain ⟨vsa, vsc, rfl⟩ := owns_form hW.own.kr
      have c0 : wr.cell? ⟨p5, 0, none⟩ = some (.slice oo l.length oc) := by unfold At at b1; simp [World.cell?, b1]
      have c1 : wr.cell? ⟨p5, 1, none⟩ = some (.slice vsa K.length vsc) := by unfold At at b1; simp [World.cell?, b1]
      have c2 : wr.cell? ⟨w.heap.size + 1, 0, none⟩ = some (.slice none 0 0) := by unfold At at b2; simp [World.cell?, b2]
      have c3 : wr.cell? ⟨w.heap.size + 1, 1, none⟩ = some (.slice none 0 0) := by unfold At at b2; simp [World.cell?, b2]
      have f2 := frozen_of_row wr (w.heap.size + 1) 0 _ _ b2
      have f3 := frozen_of_row wr (w.heap.size + 1) 1 _ _ b2
      have HW := Lib.hid hW
      clear hW b1 b2
      go_wp2_with fail
      obtain ⟨e1, e2, e3, e4⟩ := WI.done HW.out
      generalize (wr.setCell ⟨w.heap.size + 1, 0, none⟩ (.slice oo l.length oc)).setCell ⟨w.heap.size + 1, 1, none⟩ (.slice vsa K.length vsc) = w7 at *
      have d0 : w7.cell? ⟨w.heap.size + 1, 0, none⟩ = some (.slice oo l.length oc) := by unfold At at e1; simp [World.cell?, e1]
      have d1 : w7.cell? ⟨w.heap.size + 1, 1, none⟩ = some (.slice vsa K.length vsc) := by unfold At at e1; simp [World.cell?, e1]
      clear c0 c1 c2 c3 f2 f3
      refine bodyPost_ret (v := .agg #[.slice oo l.length oc, .slice vsa K.length vsc]) ?_ rfl ⟨⟨_, _, rfl, e2, K, e3, HL.out⟩, e4⟩
      simp [results, Tryz.results74, go_sem, d0, d1]
end Go.Proofs.YtfancjmhdbaoeaaGreatDoor

namespace Go.Proofs.YtfancjmhdbaoeaaGreatDoor
set_option maxRecDepth 100000
open Go.RowKit Go.Shelf

theorem info50 : (Tryz.prog.info? 50).map (·.size) = some 2 := by kernel_rfl
theorem run_load_wit {w : World} {g : Nat} {vo vs : Value} (h0 : w.cell? ⟨g, 0, none⟩ = some vo) (h1 : w.cell? ⟨g, 1, none⟩ = some vs) : (loadVar 50 ⟨g, 0, none⟩).run Tryz.prog w = .ok (.agg #[vo, vs]) w := by
  have hl : (loadCells ⟨g, 0, none⟩ [vo, vs].length).run Tryz.prog w = .ok [vo, vs].toArray w :=
    run_loadCells_list (P := Tryz.prog) w ⟨g, 0, none⟩ [vo, vs] (fun j v hv => by
      have hadd : (⟨g, 0, none⟩ : Addr).add j = ⟨g, j, none⟩ := by unfold Addr.add; split <;> simp_all
      rw [hadd]
      match j, hv with
      | 0, hv => rw [h0]; exact hv
      | 1, hv => rw [h1]; exact hv
      | j + 2, hv => simp at hv)
  cases hq : Tryz.prog.info? 50 with
  | none => have := info50; simp [hq] at this
  | some i =>
    have hs : i.size = 2 := by have := info50; simpa [hq] using this
    have hagg : (isAgg 50).run Tryz.prog w = .ok true w := by
      unfold isAgg
      rw [Sem.run_bind, run_underlying Tryz.underlying50 w]
      rfl
    simp only [List.length_cons, List.length_nil, Nat.zero_add, Nat.reduceAdd] at hl
    simp [loadVar, Sem.run_bind, hagg, sizeOf, typeInfo, hq, hs, hl]
theorem run_load_bool {w : World} {g : Nat} {v : Value} (h0 : w.cell? ⟨g, 0, none⟩ = some v) : (loadVar 4 ⟨g, 0, none⟩).run Tryz.prog w = .ok v w := by
  have hagg : (isAgg 4).run Tryz.prog w = .ok false w := by
    unfold isAgg
    rw [Sem.run_bind, run_underlying Tryz.underlying4 w]
    rfl
  simp [loadVar, Sem.run_bind, hagg, h0]
theorem results_dec {fn : Func} {p q u : Tmp} (h : fn.results = #[.cell p 50, .cell q 4, .cell u 4]) (tmps : Array Value) (w : World) (g1 g2 g3 : Nat) (vo vs b1 b2 : Value)
    (hp : tmps.getD p undef = .pointer (some ⟨g1, 0, none⟩)) (hq : tmps.getD q undef = .pointer (some ⟨g2, 0, none⟩)) (hu : tmps.getD u undef = .pointer (some ⟨g3, 0, none⟩))
    (h0 : w.cell? ⟨g1, 0, none⟩ = some vo) (h1 : w.cell? ⟨g1, 1, none⟩ = some vs) (h2 : w.cell? ⟨g2, 0, none⟩ = some b1) (h3 : w.cell? ⟨g3, 0, none⟩ = some b2) : (results fn tmps).run Tryz.prog w = .ok (.tuple #[.agg #[vo, vs], b1, b2]) w := by
  have hp' : tmps[p]?.getD undef = .pointer (some ⟨g1, 0, none⟩) := by simpa using hp
  have hq' : tmps[q]?.getD undef = .pointer (some ⟨g2, 0, none⟩) := by simpa using hq
  have hu' : tmps[u]?.getD undef = .pointer (some ⟨g3, 0, none⟩) := by simpa using hu
  simp [results, h, hp', hq', hu', asAddr, Sem.run_bind, run_load_wit h0 h1, run_load_bool h2, run_load_bool h3, Result.andThen]
/-- What Decide hands back: nothing; or the first order by which the level is kept, and what is seen at least. -/
def DecRes (h : List TxnV) (lv : Int) (v : Value) (w : World) : Prop :=
  if h.length ≤ 8 then
    match (ordersN h.length).find? (keptL h lv) with
    | none => v = .tuple #[.agg #[.slice none 0 0, .slice none 0 0], .bool false, .bool true]
    | some r => ∃ vo vs X, v = .tuple #[.agg #[vo, vs], .bool true, .bool true] ∧ LeastIs h (askN lv) (r.map Int.ofNat) X ∧ Ints w vo (r.map Int.ofNat) ∧ Lists w vs (seesL X (r.map Int.ofNat).length)
  else v = .tuple #[.agg #[.slice none 0 0, .slice none 0 0], .bool false, .bool false]
/-- What stands in the loop's own cells: of what was handed in, and of what is to be handed back. -/
structure DecI (s B : Nat) (lv : Int) (vo vs b1 b2 : Value) (w W : World) : Prop where
  c0 : W.cell? ⟨s, 0, none⟩ = some (.pointer (some ⟨B, 0, none⟩))
  c1 : W.cell? ⟨s + 1, 0, none⟩ = some (.int .i64 lv)
  c2 : W.cell? ⟨s + 1 + 1, 0, none⟩ = some vo
  d2 : W.cell? ⟨s + 1 + 1, 1, none⟩ = some vs
  c3 : W.cell? ⟨s + 1 + 1 + 1, 0, none⟩ = some b1
  c4 : W.cell? ⟨s + 1 + 1 + 1 + 1, 0, none⟩ = some b2
  f2 : W.frozen? ⟨s + 1 + 1, 0, none⟩ = false
  g2 : W.frozen? ⟨s + 1 + 1, 1, none⟩ = false
  f3 : W.frozen? ⟨s + 1 + 1 + 1, 0, none⟩ = false
  f4 : W.frozen? ⟨s + 1 + 1 + 1 + 1, 0, none⟩ = false
  bel : Below s w W
section
variable {s B D : Nat} {lv : Int} {vo vs b1 b2 : Value} {w W W' : World}
theorem DecI.below (q : DecI s B lv vo vs b1 b2 w W) (hb : Below D W W') (hD : s + 6 ≤ D) : DecI s B lv vo vs b1 b2 w W' :=
  ⟨(hb.cell (p := ⟨s, 0, none⟩) (by show s < D; omega)).trans q.c0, (hb.cell (p := ⟨s + 1, 0, none⟩) (by show s + 1 < D; omega)).trans q.c1, (hb.cell (p := ⟨s + 1 + 1, 0, none⟩) (by show s + 1 + 1 < D; omega)).trans q.c2, (hb.cell (p := ⟨s + 1 + 1, 1, none⟩) (by show s + 1 + 1 < D; omega)).trans q.d2,
    (hb.cell (p := ⟨s + 1 + 1 + 1, 0, none⟩) (by show s + 1 + 1 + 1 < D; omega)).trans q.c3, (hb.cell (p := ⟨s + 1 + 1 + 1 + 1, 0, none⟩) (by show s + 1 + 1 + 1 + 1 < D; omega)).trans q.c4,
    (hb.frozen (p := ⟨s + 1 + 1, 0, none⟩) (by show s + 1 + 1 < D; omega)).trans q.f2, (hb.frozen (p := ⟨s + 1 + 1, 1, none⟩) (by show s + 1 + 1 < D; omega)).trans q.g2,
    (hb.frozen (p := ⟨s + 1 + 1 + 1, 0, none⟩) (by show s + 1 + 1 + 1 < D; omega)).trans q.f3, (hb.frozen (p := ⟨s + 1 + 1 + 1 + 1, 0, none⟩) (by show s + 1 + 1 + 1 + 1 < D; omega)).trans q.f4, q.bel.trans (hb.mono (by omega))⟩
/-- All four are written. -/
theorem DecI.put (q : DecI s B lv vo vs b1 b2 w W) (uo us u1 u2 : Value) :
    DecI s B lv uo us u1 u2 w ((((W.setCell ⟨s + 1 + 1, 0, none⟩ uo).setCell ⟨s + 1 + 1, 1, none⟩ us).setCell ⟨s + 1 + 1 + 1, 0, none⟩ u1).setCell ⟨s + 1 + 1 + 1 + 1, 0, none⟩ u2) := by
  obtain ⟨c0, c1, c2, d2, c3, c4, f2, g2, f3, f4, bel⟩ := q
  refine ⟨?_, ?_, ?_, ?_, ?_, ?_, ?_, ?_, ?_, ?_, ?_⟩
  · simp [World.cell?_setCell_other, c0]
  · simp [World.cell?_setCell_other, c1]
  · rw [World.cell?_setCell_other _ _ _ _ (by simp), World.cell?_setCell_other _ _ _ _ (by simp), World.cell?_setCell_other _ _ _ _ (by simp)]
    exact World.cell?_setCell_same _ _ _ c2
  · rw [World.cell?_setCell_other _ _ _ _ (by simp), World.cell?_setCell_other _ _ _ _ (by simp)]
    exact World.cell?_setCell_same _ _ _ (by rw [World.cell?_setCell_other _ _ _ _ (by simp)]; exact d2)
  · rw [World.cell?_setCell_other _ _ _ _ (by simp)]
    exact World.cell?_setCell_same _ _ _ (by rw [World.cell?_setCell_other _ _ _ _ (by simp), World.cell?_setCell_other _ _ _ _ (by simp)]; exact c3)
  · exact World.cell?_setCell_same _ _ _ (by rw [World.cell?_setCell_other _ _ _ _ (by simp), World.cell?_setCell_other _ _ _ _ (by simp), World.cell?_setCell_other _ _ _ _ (by simp)]; exact c4)
  · simp only [World.frozen?_setCell]; exact f2
  · simp only [World.frozen?_setCell]; exact g2
  · simp only [World.frozen?_setCell]; exact f3
  · simp only [World.frozen?_setCell]; exact f4
  · exact (((bel.setCell (p := ⟨s + 1 + 1, 0, none⟩) (by show s ≤ s + 1 + 1; omega) _).setCell (p := ⟨s + 1 + 1, 1, none⟩) (by show s ≤ s + 1 + 1; omega) _).setCell (p := ⟨s + 1 + 1 + 1, 0, none⟩) (by show s ≤ s + 1 + 1 + 1; omega) _).setCell (p := ⟨s + 1 + 1 + 1 + 1, 0, none⟩) (by show s ≤ s + 1 + 1 + 1 + 1; omega) _
theorem keeps_four (W : World) (uo us u1 u2 : Value) (hD : s + 6 ≤ D) : KeepsHi D W ((((W.setCell ⟨s + 1 + 1, 0, none⟩ uo).setCell ⟨s + 1 + 1, 1, none⟩ us).setCell ⟨s + 1 + 1 + 1, 0, none⟩ u1).setCell ⟨s + 1 + 1 + 1 + 1, 0, none⟩ u2) :=
  (((KeepsHi.setCell W ⟨s + 1 + 1, 0, none⟩ uo (by show s + 1 + 1 < D; omega)).trans (KeepsHi.setCell _ ⟨s + 1 + 1, 1, none⟩ us (by show s + 1 + 1 < D; omega))).trans (KeepsHi.setCell _ ⟨s + 1 + 1 + 1, 0, none⟩ u1 (by show s + 1 + 1 + 1 < D; omega))).trans (KeepsHi.setCell _ ⟨s + 1 + 1 + 1 + 1, 0, none⟩ u2 (by show s + 1 + 1 + 1 + 1 < D; omega))
end
theorem six_boxes (w : World) (B : Nat) (lv n : Int) (t1 t2 t3 t4 t5 t6 : TypeId) : ∀ w6, w6 = (((((w.alloc (.cells #[.pointer (some ⟨B, 0, none⟩)] t1)).alloc (.cells #[.int .i64 lv] t2)).alloc (.cells #[.slice none 0 0, .slice none 0 0] t3)).alloc (.cells #[.bool false] t4)).alloc (.cells #[.bool false] t5)).alloc (.cells #[.int .i64 n] t6) →
    DecI w.heap.size B lv (.slice none 0 0) (.slice none 0 0) (.bool false) (.bool false) w w6 ∧ w6.cell? ⟨w.heap.size + 5, 0, none⟩ = some (.int .i64 n) ∧ w6.heap.size = w.heap.size + 6 := by
  obtain ⟨w1, e1⟩ : ∃ x, x = w.alloc (.cells #[.pointer (some ⟨B, 0, none⟩)] t1) := ⟨_, rfl⟩
  obtain ⟨w2, e2⟩ : ∃ x, x = w1.alloc (.cells #[.int .i64 lv] t2) := ⟨_, rfl⟩
  obtain ⟨w3, e3⟩ : ∃ x, x = w2.alloc (.cells #[.slice none 0 0, .slice none 0 0] t3) := ⟨_, rfl⟩
  obtain ⟨w4, e4⟩ : ∃ x, x = w3.alloc (.cells #[.bool false] t4) := ⟨_, rfl⟩
  obtain ⟨w5, e5⟩ : ∃ x, x = w4.alloc (.cells #[.bool false] t5) := ⟨_, rfl⟩
  rw [← e1, ← e2, ← e3, ← e4, ← e5]
  intro w6 e6
  have s1 : w1.heap.size = w.heap.size + 1 := by rw [e1]; simp
  have s2 : w2.heap.size = w.heap.size + 1 + 1 := by rw [e2]; simp [s1]
  have s3 : w3.heap.size = w.heap.size + 1 + 1 + 1 := by rw [e3]; simp [s2]
  have s4 : w4.heap.size = w.heap.size + 1 + 1 + 1 + 1 := by rw [e4]; simp [s3]
  have s5 : w5.heap.size = w.heap.size + 5 := by rw [e5]; simp [s4]
  have s6 : w6.heap.size = w.heap.size + 6 := by rw [e6]; simp [s5]
  have b1 : Below w.heap.size w w1 := by rw [e1]; exact (Below.refl _ _).alloc (Nat.le_refl _) _
  have b2 : Below w1.heap.size w1 w2 := by rw [e2]; exact (Below.refl _ _).alloc (Nat.le_refl _) _
  have b3 : Below w2.heap.size w2 w3 := by rw [e3]; exact (Below.refl _ _).alloc (Nat.le_refl _) _
  have b4 : Below w3.heap.size w3 w4 := by rw [e4]; exact (Below.refl _ _).alloc (Nat.le_refl _) _
  have b5 : Below w4.heap.size w4 w5 := by rw [e5]; exact (Below.refl _ _).alloc (Nat.le_refl _) _
  have b6 : Below w5.heap.size w5 w6 := by rw [e6]; exact (Below.refl _ _).alloc (Nat.le_refl _) _
  have x4 : Below w4.heap.size w4 w6 := b5.trans (b6.mono b5.size)
  have x3 : Below w3.heap.size w3 w6 := b4.trans (x4.mono b4.size)
  have x2 : Below w2.heap.size w2 w6 := b3.trans (x3.mono b3.size)
  have x1 : Below w1.heap.size w1 w6 := b2.trans (x2.mono b2.size)
  have h1 := heap_alloc_new w (.cells #[.pointer (some ⟨B, 0, none⟩)] t1)
  have h2 := heap_alloc_new w1 (.cells #[.int .i64 lv] t2)
  have h3 := heap_alloc_new w2 (.cells #[.slice none 0 0, .slice none 0 0] t3)
  have h4 := heap_alloc_new w3 (.cells #[.bool false] t4)
  have h5 := heap_alloc_new w4 (.cells #[.bool false] t5)
  have h6 := heap_alloc_new w5 (.cells #[.int .i64 n] t6)
  rw [← e1] at h1; rw [← e2] at h2; rw [← e3] at h3; rw [← e4] at h4; rw [← e5] at h5; rw [← e6] at h6
  have k1 := (x1.block w.heap.size (by omega)).trans h1
  have k2 := (x2.block w1.heap.size (by omega)).trans h2
  have k3 := (x3.block w2.heap.size (by omega)).trans h3
  have k4 := (x4.block w3.heap.size (by omega)).trans h4
  have k5 := (b6.block w4.heap.size (by omega)).trans h5
  rw [s1] at k2; rw [s2] at k3; rw [s3] at k4; rw [s4] at k5; rw [s5] at h6
  refine ⟨⟨?_, ?_, ?_, ?_, ?_, ?_, frozen_of_row _ _ _ _ _ k3, frozen_of_row _ _ _ _ _ k3, frozen_of_row _ _ _ _ _ k4, frozen_of_row _ _ _ _ _ k5, b1.trans (x1.mono b1.size)⟩, ?_, s6⟩
  · rw [cell_of_row _ _ _ _ _ _ k1]; rfl
  · rw [cell_of_row _ _ _ _ _ _ k2]; rfl
  · rw [cell_of_row _ _ _ _ _ _ k3]; rfl
  · rw [cell_of_row _ _ _ _ _ _ k3]; rfl
  · rw [cell_of_row _ _ _ _ _ _ k4]; rfl
  · rw [cell_of_row _ _ _ _ _ _ k5]; rfl
  · rw [cell_of_row _ _ _ _ _ _ h6]; rfl
end Go.Proofs.YtfancjmhdbaoeaaGreatDoor

namespace Go.Proofs.YtfancjmhdbaoeaaGreatDoor
set_option maxRecDepth 100000
open Go.RowKit Go.Shelf
attribute [local go_sem] Oper.semAt_some

theorem Lists.kept {W W' : World} {v : Value} {LL : List (List Int)} (h : Lists W v LL) (hb : Below W.heap.size W W') : Lists W' v LL := h.below hb
theorem find_none {α : Type} {p : α → Bool} {L : List α} (h : ∀ r ∈ L, p r = false) : L.find? p = none := by
  rw [List.find?_eq_none]; intro r hr; rw [h r hr]; simp
theorem find_first {α : Type} {p : α → Bool} {pre L : List α} {r : α} (hp : (pre ++ [r]) <+: L) (hn : ∀ x ∈ pre, p x = false) (hr : p r = true) : L.find? p = some r := by
  obtain ⟨t, rfl⟩ := hp
  rw [List.append_assoc, List.find?_append, find_none hn, Option.none_or]
  simp [hr]
theorem Lists.cells {W W' : World} {v : Value} {LL : List (List Int)} (h : Lists W v LL) (hk : ∀ a u, W.cell? a = some u → W'.cell? a = some u) : Lists W' v LL := by
  obtain ⟨sv, h1, h2⟩ := h
  exact ⟨sv, h1.cells hk, fun k hk' => by obtain ⟨u, a, b⟩ := h2 k hk'; exact ⟨u, a, b.cells hk⟩⟩
/-- What is owned from a block on stands while cells below it are written. -/
theorem OwnK.four {s b : Nat} {w : World} {v : Value} {K : List KRow} (h : OwnK b w v K) (hb : s + 6 ≤ b) (uo us u1 u2 : Value) : OwnK b ((((w.setCell ⟨s + 1 + 1, 0, none⟩ uo).setCell ⟨s + 1 + 1, 1, none⟩ us).setCell ⟨s + 1 + 1 + 1, 0, none⟩ u1).setCell ⟨s + 1 + 1 + 1 + 1, 0, none⟩ u2) v K :=
  have f : ∀ {n : Nat} {e : TypeId} {v : Value} {xs : List Value}, w.ownsRow b e 1 v n xs → ((((w.setCell ⟨s + 1 + 1, 0, none⟩ uo).setCell ⟨s + 1 + 1, 1, none⟩ us).setCell ⟨s + 1 + 1 + 1, 0, none⟩ u1).setCell ⟨s + 1 + 1 + 1 + 1, 0, none⟩ u2).ownsRow b e 1 v n xs := fun h =>
    ownsRow_setCell_below (ownsRow_setCell_below (ownsRow_setCell_below (ownsRow_setCell_below h (show s + 1 + 1 < b by omega) _) (show s + 1 + 1 < b by omega) _) (show s + 1 + 1 + 1 < b by omega) _) (show s + 1 + 1 + 1 + 1 < b by omega) _
  ⟨f h.kr, fun p hp => f (h.ke p hp)⟩
theorem own_four {s b n : Nat} {e : TypeId} {w : World} {v : Value} {xs : List Value} (h : w.ownsRow b e 1 v n xs) (hb : s + 6 ≤ b) (uo us u1 u2 : Value) : ((((w.setCell ⟨s + 1 + 1, 0, none⟩ uo).setCell ⟨s + 1 + 1, 1, none⟩ us).setCell ⟨s + 1 + 1 + 1, 0, none⟩ u1).setCell ⟨s + 1 + 1 + 1 + 1, 0, none⟩ u2).ownsRow b e 1 v n xs :=
  ownsRow_setCell_below (ownsRow_setCell_below (ownsRow_setCell_below (ownsRow_setCell_below h (show s + 1 + 1 < b by omega) _) (show s + 1 + 1 < b by omega) _) (show s + 1 + 1 + 1 < b by omega) _) (show s + 1 + 1 + 1 + 1 < b by omega) _
theorem dec_none {h : List TxnV} {lv : Int} {w : World} (h8 : h.length ≤ 8) (hf : (ordersN h.length).find? (keptL h lv) = none) : DecRes h lv (.tuple #[.agg #[.slice none 0 0, .slice none 0 0], .bool false, .bool true]) w := by
  unfold DecRes; rw [if_pos h8, hf]
theorem dec_many {h : List TxnV} {lv : Int} {w : World} (h8 : ¬ h.length ≤ 8) : DecRes h lv (.tuple #[.agg #[.slice none 0 0, .slice none 0 0], .bool false, .bool false]) w := by
  unfold DecRes; rw [if_neg h8]
theorem dec_some {h : List TxnV} {lv : Int} {w : World} {r : List Nat} {vo vs : Value} {X : Mat} (h8 : h.length ≤ 8) (hf : (ordersN h.length).find? (keptL h lv) = some r) (h1 : LeastIs h (askN lv) (r.map Int.ofNat) X) (h2 : Ints w vo (r.map Int.ofNat)) (h3 : Lists w vs (seesL X (r.map Int.ofNat).length)) :
    DecRes h lv (.tuple #[.agg #[vo, vs], .bool true, .bool true]) w := by
  unfold DecRes; rw [if_pos h8, hf]; exact ⟨vo, vs, X, rfl, h1, h2, h3⟩
/-- The cells of a decided one, while other blocks than cells are written. -/
theorem DecI.cells {s B : Nat} {lv : Int} {vo vs b1 b2 : Value} {w W W' : World} (q : DecI s B lv vo vs b1 b2 w W) (hb : Below (s + 6) W W') : DecI s B lv vo vs b1 b2 w W' := q.below hb (Nat.le_refl _)
/-- What a round leaves that has found the order. -/
structure DecX (h : List TxnV) (lv : Int) (s B : Nat) (w : World) (pre : List (List Nat)) (W : World) : Prop where
  ex : ∃ p r vo vs X, pre = p ++ [r] ∧ (∀ x ∈ p, keptL h lv x = false) ∧ keptL h lv r = true ∧ DecI s B lv vo vs (.bool true) (.bool true) w W ∧ LeastIs h (askN lv) (r.map Int.ofNat) X ∧ Ints W vo (r.map Int.ofNat) ∧ Lists W vs (seesL X (r.map Int.ofNat).length)
theorem DecX.put {h : List TxnV} {lv : Int} {s B : Nat} {w : World} {pre : List (List Nat)} {W : World} (q : DecX h lv s B w pre W) {k : Nat} {o o' : Obj} (hk : W.heap[k]? = some o') (ho : o'.isCells = false) (hs : s + 6 ≤ k) : DecX h lv s B w pre (W.putObj k o) := by
  obtain ⟨p, r, vo, vs, X, a1, a2, a3, a4, a5, a6, a7⟩ := q.ex
  have hc := put_cells (o := o) hk ho
  have hb : Below (s + 6) W (W.putObj k o) := (Below.refl _ W).grown (grownBy_putObj' W k o) (by have := (Array.getElem?_eq_some_iff.1 hk).1; omega) (fun j e => by cases e; omega)
  exact ⟨p, r, vo, vs, X, a1, a2, a3, a4.cells hb, a5, a6.cells hc, a7.cells hc⟩
set_option maxRecDepth 100000 in
set_option maxHeartbeats 8000000 in
theorem bdecide_any (lv : Int) (h : List TxnV) (B b : Nat) (w : World) (hO : OrdIs w B b h) (hc : checkI h = 0) (ht : Tab w) (hK : Kinds w) :
    Calls Tryz.prog 19 #[.pointer (some ⟨B, 0, none⟩), .int .i64 lv] w fun e w' => (∃ v, e = .returned v ∧ DecRes h lv v w') ∧ Below w.heap.size w w' := by
  have h64 := (check_zero hc).1
  have hg := ht.pos
  have n0 := hO.blk.cN
  have HC := Lib.hid hc
  have HB : Hid (∀ wx, Below w.heap.size w wx → (OrdIs wx B b h ∧ Tab wx ∧ Kinds wx) ∧ wx.cell? ⟨B, 0, none⟩ = w.cell? ⟨B, 0, none⟩) := Lib.hid (fun wx hb => ⟨⟨hO.below hb, ht.below hb hg, hK.below hb⟩, hb.cell (p := ⟨B, 0, none⟩) (block_lt n0)⟩)
  clear hO hc ht hK hg
  have hb5 : Below w.heap.size w (((((w.alloc (.cells #[.pointer (some ⟨B, 0, none⟩)] 28)).alloc (.cells #[.int .i64 lv] 40)).alloc (.cells #[.slice none 0 0, .slice none 0 0] 50)).alloc (.cells #[.bool false] 4)).alloc (.cells #[.bool false] 4)) := (((((Below.refl _ w).alloc (Nat.le_refl _) _).alloc (by simp) _).alloc (by simp; omega) _).alloc (by simp; omega) _).alloc (by simp; omega) _
  have n1 := (HB.out _ hb5).2.trans n0
  have HQ := Lib.hid (six_boxes w B lv (h.length : Int) 28 40 50 4 4 3 _ rfl)
  by_cases h8 : h.length ≤ 8
  · refine (callsIn_wide (n := 3)).1 ?_
    refine callsIn_of_wp_marks Tryz.func19 rfl trivial ?_ rfl
    simp only [Tryz.ntmps19, List.size_toArray, List.length_cons, List.length_nil, Nat.reduceAdd, Nat.reduceSub, Array.replicate_succ, Array.replicate_zero, List.push_toArray, List.append_toArray, List.nil_append, List.cons_append]
    have h8i : ¬ (8 : Int) < (h.length : Int) := by omega
    have hs3 : (((((w.alloc (.cells #[.pointer (some ⟨B, 0, none⟩)] 28)).alloc (.cells #[.int .i64 lv] 40)).alloc (.cells #[.slice none 0 0, .slice none 0 0] 50)).alloc (.cells #[.bool false] 4)).alloc (.cells #[.bool false] 4)).heap.size = w.heap.size + 5 := by simp
    have HM := Lib.hid (orders_any (h.length : Int) (((((w.alloc (.cells #[.pointer (some ⟨B, 0, none⟩)] 28)).alloc (.cells #[.int .i64 lv] 40)).alloc (.cells #[.slice none 0 0, .slice none 0 0] 50)).alloc (.cells #[.bool false] 4)).alloc (.cells #[.bool false] 4)))
    rw [hs3] at HM
    clear hb5 hs3
    gi_wp2_with (refine ⟨trivial, ?_⟩; gi_at_call 73; refine ((callsIn_wide (n := _)).2 HM.out).mono ?_; rintro e w' ⟨rfl, rfl⟩)
    clear HM n1
    generalize (((((w.alloc (.cells #[.pointer (some ⟨B, 0, none⟩)] 28)).alloc (.cells #[.int .i64 lv] 40)).alloc (.cells #[.slice none 0 0, .slice none 0 0] 50)).alloc (.cells #[.bool false] 4)).alloc (.cells #[.bool false] 4)).alloc (.cells #[.int .i64 (h.length : Int)] 3) = W4 at *
    obtain ⟨q4, c4, s4⟩ := HQ.out
    have hs : w.heap.size + 6 ≤ W4.heap.size := by omega
    refine range_rows (gf := 137) (lb := #[.pointer (some ⟨w.heap.size + 5, 0, none⟩)]) (L := ordersN h.length) rfl (by omega) rfl trivial (fun args w => by kernel_rfl)
      (orders_seq _ h.length (w.heap.size + 5) W4 (by omega) (by omega) c4) (Below.refl _ _) rfl
      (fun pre W => DecI w.heap.size B lv (.slice none 0 0) (.slice none 0 0) (.bool false) (.bool false) w W ∧ ∀ r ∈ pre, keptL h lv r = false)
      (fun pre W => DecX h lv w.heap.size B w pre W)
      (fun pre A B q hb => ⟨q.1.below hb hs, q.2⟩) (fun pre A r o q hl => q.put hl rfl (by omega)) ⟨q4, fun r hr => by cases hr⟩
      (fun v => { tmps := #[.pointer (some ⟨B, 0, none⟩), .int .i64 lv, .pointer (some ⟨w.heap.size, 0, none⟩), .pointer (some ⟨w.heap.size + 1, 0, none⟩), .pointer (some ⟨w.heap.size + 1 + 1, 0, none⟩), .pointer (some ⟨w.heap.size + 1 + 1 + 1, 0, none⟩), .pointer (some ⟨w.heap.size + 1 + 1 + 1 + 1, 0, none⟩), v, undef, undef, .pointer (some ⟨B, 0, none⟩), .pointer (some ⟨B, 0, none⟩), .pointer (some ⟨B, 0, none⟩), .int .i64 (h.length : Int), .bool false, undef, .pointer (some ⟨B, 0, none⟩), .pointer (some ⟨B, 0, none⟩), .pointer (some ⟨B, 0, none⟩), .int .i64 (h.length : Int), .func (.func 137) #[] #[.pointer (some ⟨w.heap.size + 5, 0, none⟩)], v, undef, undef, undef, undef, undef, undef, undef, undef, undef, undef, undef, undef], defers := [] }) ?assign ?body ?done ?stop
    case assign =>
      intro l v W K hK
      gi_wp2
      exact hK
    case body =>
      intro l pre v r W q hr hpre hsz
      obtain ⟨q, hno⟩ := q
      have hmem := mem_of_prefix hpre
      have q0 := q.c0
      have q1 := q.c1
      have HT : Hid (∀ wx, Below W.heap.size W wx → Tab wx) := Lib.hid (fun wx hb => (HB.out wx (q.bel.trans (hb.mono q.bel.size))).1.2.1)
      obtain ⟨⟨hO, ht, hK⟩, _⟩ := HB.out W q.bel
      have CI := Lib.hid (bin_kept lv v r h B b W hO HC.out ht hK hr.1 hmem)
      have HQ := Lib.hid q
      have HR := Lib.hid hr
      have HNO := Lib.hid hno
      have hl64 : (r.map Int.ofNat).length ≤ 64 := by
        have := (mem_exts hmem).2.2.1
        rw [List.length_map]; simp at this; omega
      clear q hr hno hpre hO ht hK hmem
      gi_wp2_with fail
      refine ⟨trivial, ?_⟩
      refine (CallsIn.inRound l ((callsIn_wide (n := _)).2 CI.out)).mono ?_
      rintro e w5 ⟨⟨X, hX, rfl⟩, hb5⟩
      have z5 := zero_block w5
      have hb6 : Below W.heap.size W ((w5.alloc (.cells #[.int .u64 0, .int .u64 0, .int .u64 0, .int .u64 0, .int .u64 0, .int .u64 0, .int .u64 0, .int .u64 0, .int .u64 0, .int .u64 0, .int .u64 0, .int .u64 0, .int .u64 0, .int .u64 0, .int .u64 0, .int .u64 0, .int .u64 0, .int .u64 0, .int .u64 0, .int .u64 0, .int .u64 0, .int .u64 0, .int .u64 0, .int .u64 0, .int .u64 0, .int .u64 0, .int .u64 0, .int .u64 0, .int .u64 0, .int .u64 0, .int .u64 0, .int .u64 0, .int .u64 0, .int .u64 0, .int .u64 0, .int .u64 0, .int .u64 0, .int .u64 0, .int .u64 0, .int .u64 0, .int .u64 0, .int .u64 0, .int .u64 0, .int .u64 0, .int .u64 0, .int .u64 0, .int .u64 0, .int .u64 0, .int .u64 0, .int .u64 0, .int .u64 0, .int .u64 0, .int .u64 0, .int .u64 0, .int .u64 0, .int .u64 0, .int .u64 0, .int .u64 0, .int .u64 0, .int .u64 0, .int .u64 0, .int .u64 0, .int .u64 0, .int .u64 0] 37)).setRow w5.heap.size (rowsA X)) := below_setRow (below_then hb5 (box_below w5 (.cells #[.int .u64 0, .int .u64 0, .int .u64 0, .int .u64 0, .int .u64 0, .int .u64 0, .int .u64 0, .int .u64 0, .int .u64 0, .int .u64 0, .int .u64 0, .int .u64 0, .int .u64 0, .int .u64 0, .int .u64 0, .int .u64 0, .int .u64 0, .int .u64 0, .int .u64 0, .int .u64 0, .int .u64 0, .int .u64 0, .int .u64 0, .int .u64 0, .int .u64 0, .int .u64 0, .int .u64 0, .int .u64 0, .int .u64 0, .int .u64 0, .int .u64 0, .int .u64 0, .int .u64 0, .int .u64 0, .int .u64 0, .int .u64 0, .int .u64 0, .int .u64 0, .int .u64 0, .int .u64 0, .int .u64 0, .int .u64 0, .int .u64 0, .int .u64 0, .int .u64 0, .int .u64 0, .int .u64 0, .int .u64 0, .int .u64 0, .int .u64 0, .int .u64 0, .int .u64 0, .int .u64 0, .int .u64 0, .int .u64 0, .int .u64 0, .int .u64 0, .int .u64 0, .int .u64 0, .int .u64 0, .int .u64 0, .int .u64 0, .int .u64 0, .int .u64 0] 37))) hb5.size (rowsA X)
      have HQ6 := Lib.hid (HQ.out.below hb6 (Nat.le_trans hs (by omega)))
      have HK6 : Hid (KeepsHi W4.heap.size W ((w5.alloc (.cells #[.int .u64 0, .int .u64 0, .int .u64 0, .int .u64 0, .int .u64 0, .int .u64 0, .int .u64 0, .int .u64 0, .int .u64 0, .int .u64 0, .int .u64 0, .int .u64 0, .int .u64 0, .int .u64 0, .int .u64 0, .int .u64 0, .int .u64 0, .int .u64 0, .int .u64 0, .int .u64 0, .int .u64 0, .int .u64 0, .int .u64 0, .int .u64 0, .int .u64 0, .int .u64 0, .int .u64 0, .int .u64 0, .int .u64 0, .int .u64 0, .int .u64 0, .int .u64 0, .int .u64 0, .int .u64 0, .int .u64 0, .int .u64 0, .int .u64 0, .int .u64 0, .int .u64 0, .int .u64 0, .int .u64 0, .int .u64 0, .int .u64 0, .int .u64 0, .int .u64 0, .int .u64 0, .int .u64 0, .int .u64 0, .int .u64 0, .int .u64 0, .int .u64 0, .int .u64 0, .int .u64 0, .int .u64 0, .int .u64 0, .int .u64 0, .int .u64 0, .int .u64 0, .int .u64 0, .int .u64 0, .int .u64 0, .int .u64 0, .int .u64 0, .int .u64 0] 37)).setRow w5.heap.size (rowsA X))) := Lib.hid (KeepsHi.of_below hb6)
      cases hk : keptL h lv r with
      | false =>
        have HKF := Lib.hid hk
        clear hb5 hb6 CI hk
        gi_wp2_with (with_reducible refine wpListIn_store_rel z5 X rfl _ _ rfl rfl rfl ?_)
        refine ⟨HK6.out, HQ6.out, fun x hx => ?_⟩
        rcases List.mem_append.1 hx with hx | hx
        · exact HNO.out x hx
        · rw [List.mem_singleton.1 hx]; exact HKF.out
      | true =>
        have HX := Lib.hid (hX hk)
        have HKT := Lib.hid hk
        have r7 : RelAt ((w5.alloc (.cells #[.int .u64 0, .int .u64 0, .int .u64 0, .int .u64 0, .int .u64 0, .int .u64 0, .int .u64 0, .int .u64 0, .int .u64 0, .int .u64 0, .int .u64 0, .int .u64 0, .int .u64 0, .int .u64 0, .int .u64 0, .int .u64 0, .int .u64 0, .int .u64 0, .int .u64 0, .int .u64 0, .int .u64 0, .int .u64 0, .int .u64 0, .int .u64 0, .int .u64 0, .int .u64 0, .int .u64 0, .int .u64 0, .int .u64 0, .int .u64 0, .int .u64 0, .int .u64 0, .int .u64 0, .int .u64 0, .int .u64 0, .int .u64 0, .int .u64 0, .int .u64 0, .int .u64 0, .int .u64 0, .int .u64 0, .int .u64 0, .int .u64 0, .int .u64 0, .int .u64 0, .int .u64 0, .int .u64 0, .int .u64 0, .int .u64 0, .int .u64 0, .int .u64 0, .int .u64 0, .int .u64 0, .int .u64 0, .int .u64 0, .int .u64 0, .int .u64 0, .int .u64 0, .int .u64 0, .int .u64 0, .int .u64 0, .int .u64 0, .int .u64 0, .int .u64 0] 37)).setRow w5.heap.size (rowsA X)) w5.heap.size 37 X := z5.setRow X
        have CW := Lib.hid (awitness_own v (r.map Int.ofNat) X ((w5.alloc (.cells #[.int .u64 0, .int .u64 0, .int .u64 0, .int .u64 0, .int .u64 0, .int .u64 0, .int .u64 0, .int .u64 0, .int .u64 0, .int .u64 0, .int .u64 0, .int .u64 0, .int .u64 0, .int .u64 0, .int .u64 0, .int .u64 0, .int .u64 0, .int .u64 0, .int .u64 0, .int .u64 0, .int .u64 0, .int .u64 0, .int .u64 0, .int .u64 0, .int .u64 0, .int .u64 0, .int .u64 0, .int .u64 0, .int .u64 0, .int .u64 0, .int .u64 0, .int .u64 0, .int .u64 0, .int .u64 0, .int .u64 0, .int .u64 0, .int .u64 0, .int .u64 0, .int .u64 0, .int .u64 0, .int .u64 0, .int .u64 0, .int .u64 0, .int .u64 0, .int .u64 0, .int .u64 0, .int .u64 0, .int .u64 0, .int .u64 0, .int .u64 0, .int .u64 0, .int .u64 0, .int .u64 0, .int .u64 0, .int .u64 0, .int .u64 0, .int .u64 0, .int .u64 0, .int .u64 0, .int .u64 0, .int .u64 0, .int .u64 0, .int .u64 0, .int .u64 0] 37)).setRow w5.heap.size (rowsA X)) (HT.out _ hb6) (HR.out.1.below hb6) hl64)
        have hsz7 : w.heap.size + 6 ≤ (((w5.alloc (.cells #[.int .u64 0, .int .u64 0, .int .u64 0, .int .u64 0, .int .u64 0, .int .u64 0, .int .u64 0, .int .u64 0, .int .u64 0, .int .u64 0, .int .u64 0, .int .u64 0, .int .u64 0, .int .u64 0, .int .u64 0, .int .u64 0, .int .u64 0, .int .u64 0, .int .u64 0, .int .u64 0, .int .u64 0, .int .u64 0, .int .u64 0, .int .u64 0, .int .u64 0, .int .u64 0, .int .u64 0, .int .u64 0, .int .u64 0, .int .u64 0, .int .u64 0, .int .u64 0, .int .u64 0, .int .u64 0, .int .u64 0, .int .u64 0, .int .u64 0, .int .u64 0, .int .u64 0, .int .u64 0, .int .u64 0, .int .u64 0, .int .u64 0, .int .u64 0, .int .u64 0, .int .u64 0, .int .u64 0, .int .u64 0, .int .u64 0, .int .u64 0, .int .u64 0, .int .u64 0, .int .u64 0, .int .u64 0, .int .u64 0, .int .u64 0, .int .u64 0, .int .u64 0, .int .u64 0, .int .u64 0, .int .u64 0, .int .u64 0, .int .u64 0, .int .u64 0] 37)).setRow w5.heap.size (rowsA X))).heap.size := Nat.le_trans (by omega) hb6.size
        clear hb5 hb6 CI hk hX
        gi_wp2_with (first
          | (with_reducible refine wpListIn_store_rel z5 X rfl _ _ rfl rfl rfl ?_)
          | (with_reducible refine wpListIn_load_rel r7 rfl _ rfl rfl ?_))
        refine ⟨trivial, ?_⟩
        refine (CallsIn.inRound l ((callsIn_wide (n := _)).2 CW.out)).mono ?_
        rintro e w8 ⟨⟨vo, vs, K, rfl, ho8, hk8, hK8⟩, hb8⟩
        obtain ⟨oo, oc, rfl⟩ := owns_form ho8
        obtain ⟨so, sc, rfl⟩ := owns_form hk8.kr
        have q8 := HQ6.out.below hb8 hsz7
        have HP := Lib.hid (q8.put (.slice oo (r.map Int.ofNat).length oc) (.slice so K.length sc) (.bool true) (.bool true))
        have HK8 : Hid (KeepsHi W4.heap.size W w8) := Lib.hid (HK6.out.trans (KeepsHi.of_below hb8))
        have HKK := Lib.hid (keeps_four (s := w.heap.size) (D := W4.heap.size) w8 (.slice oo (r.map Int.ofNat).length oc) (.slice so K.length sc) (.bool true) (.bool true) hs)
        have HO8 := Lib.hid (own_four ho8 hsz7 (.slice oo (r.map Int.ofNat).length oc) (.slice so K.length sc) (.bool true) (.bool true))
        have HL8 := Lib.hid (hk8.four hsz7 (.slice oo (r.map Int.ofNat).length oc) (.slice so K.length sc) (.bool true) (.bool true))
        have c2 := q8.c2
        have d2 := q8.d2
        have c3 := q8.c3
        have c4 := q8.c4
        have f2 := q8.f2
        have g2 := q8.g2
        have f3 := q8.f3
        have f4 := q8.f4
        have HKM := Lib.hid hK8
        clear q8 ho8 hk8 hK8 hb8 z5 r7
        rw [List.length_map] at HP HKK HO8 HL8
        gi_wp2
        exact ⟨HK8.out.trans HKK.out, ⟨⟨pre, r, _, _, X, rfl, HNO.out, HKT.out, HP.out, HX.out, Ints.of_owns HO8.out, by rw [← HKM.out]; exact HL8.out.lists⟩⟩⟩
    case done =>
      intro W q hK
      obtain ⟨q, hno⟩ := q
      have HD := Lib.hid (fun w => dec_none (w := w) h8 (find_none hno))
      have hDW := (Array.getElem?_eq_some_iff.1 hK).1
      have HKK := Lib.hid (keeps_four (s := w.heap.size) (D := W4.heap.size) W (.slice none 0 0) (.slice none 0 0) (.bool false) (.bool true) hs)
      have HP := Lib.hid (q.put (.slice none 0 0) (.slice none 0 0) (.bool false) (.bool true))
      have c2 := q.c2
      have d2 := q.d2
      have c3 := q.c3
      have c4 := q.c4
      have f2 := q.f2
      have g2 := q.g2
      have f3 := q.f3
      have f4 := q.f4
      clear q hno
      gi_wp2
      have hK4 := (HKK.out.same W4.heap.size (Nat.le_refl _) hDW).trans hK
      have HP2 := HP.out.below (D := W4.heap.size) ((Below.refl _ _).grown (grownBy_putObj' _ W4.heap.size (.deferred none)) (by have := HKK.out.size; omega) (fun j e => by cases e; exact Nat.le_refl _)) hs
      refine ⟨by simp, .inl ⟨_, _, rfl, run_takeDeferred hK4, ?_⟩⟩
      exact ⟨_, results_dec rfl _ _ _ _ _ _ _ _ _ rfl rfl rfl HP2.c2 HP2.d2 HP2.c3 HP2.c4, ⟨_, rfl, HD.out _⟩, HP2.bel⟩
    case stop =>
      intro pre W hpre q hK
      obtain ⟨p, r, vo, vs, X, rfl, a2, a3, a4, a5, a6, a7⟩ := (q.put (o := .deferred none) hK rfl hs).ex
      gi_wp2
      refine ⟨by simp, .inl ⟨_, _, rfl, run_takeDeferred hK, ?_⟩⟩
      exact ⟨_, results_dec rfl _ _ _ _ _ _ _ _ _ rfl rfl rfl a4.c2 a4.d2 a4.c3 a4.c4, ⟨_, rfl, dec_some h8 (find_first hpre a2 a3) a5 a6 a7⟩, a4.bel⟩
  · have h8i : (8 : Int) < (h.length : Int) := by omega
    have HD := Lib.hid (fun w => dec_many (h := h) (lv := lv) (w := w) h8)
    clear h8
    go_enter Tryz.func19, Tryz.ntmps19
    obtain ⟨q6, _, _⟩ := HQ.out
    have b56 := box_below (((((w.alloc (.cells #[.pointer (some ⟨B, 0, none⟩)] 28)).alloc (.cells #[.int .i64 lv] 40)).alloc (.cells #[.slice none 0 0, .slice none 0 0] 50)).alloc (.cells #[.bool false] 4)).alloc (.cells #[.bool false] 4)) (.cells #[.int .i64 (h.length : Int)] 3)
    have hs5 : (((((w.alloc (.cells #[.pointer (some ⟨B, 0, none⟩)] 28)).alloc (.cells #[.int .i64 lv] 40)).alloc (.cells #[.slice none 0 0, .slice none 0 0] 50)).alloc (.cells #[.bool false] 4)).alloc (.cells #[.bool false] 4)).heap.size = w.heap.size + 5 := by simp
    have c2 := (b56.cell (p := ⟨w.heap.size + 1 + 1, 0, none⟩) (by rw [hs5]; show w.heap.size + 1 + 1 < _; omega)).symm.trans q6.c2
    have d2 := (b56.cell (p := ⟨w.heap.size + 1 + 1, 1, none⟩) (by rw [hs5]; show w.heap.size + 1 + 1 < _; omega)).symm.trans q6.d2
    have c3 := (b56.cell (p := ⟨w.heap.size + 1 + 1 + 1, 0, none⟩) (by rw [hs5]; show w.heap.size + 1 + 1 + 1 < _; omega)).symm.trans q6.c3
    have c4 := (b56.cell (p := ⟨w.heap.size + 1 + 1 + 1 + 1, 0, none⟩) (by rw [hs5]; show w.heap.size + 1 + 1 + 1 + 1 < _; omega)).symm.trans q6.c4
    have H2 := Lib.hid c2
    have H3 := Lib.hid d2
    have H4 := Lib.hid c3
    have H5 := Lib.hid c4
    clear c2 d2 c3 c4 q6 b56 hs5
    go_wp2_with fail
    exact bodyPost_ret (results_dec rfl _ _ _ _ _ _ _ _ _ rfl rfl rfl H2.out H3.out H4.out H5.out) rfl ⟨⟨_, rfl, HD.out _⟩, hb5⟩
end Go.Proofs.YtfancjmhdbaoeaaGreatDoor
