/- Walks and plain facts that the proof of the statement CatalogueParts uses, joined: LesA LesB AxhA PlaD PlaG PlaJ PlaK PlaL PlaM MemG MemB MemE FueA FueB FueC FueF PlaE MemA MemC BruB SeaA SeaE OrdAJ MemD MemF SeaF AxhD AxhF AxhG AxhL BruA BruC BruD PlaQ BruE SeaG SeaB SeaH SeaI OrdL PlaN SeaJ VecB SeaK LesC OrdAB AxhB AxhC. Conditions: each theorem's own. -/
import Derived.Deep.AppendLies
import Derived.Deep.OwnRows
import Derived.Laws.CopyOwn
import Derived.Maps.OwnSet
import Derived.DeepKeys4
import Derived.Deep.QuietTactic
import Derived.BigQuiet
import Derived.OwnWalk
import Derived.Laws.BytesArg
import Derived.OneCell
import Derived.Lib.BufferWrite
import Derived.Deep.CutRange
import Derived.RangeFuncNested
import Derived.RangeFuncCalls
import Derived.RangeFuncLeaves
import Derived.RangeFuncBound
import Derived.Shelf.Abstract
import Derived.OwnWalkIn
import Derived.TacticsInMore
import Derived.LoopNIn
import Derived.LoopIn
import Derived.ArgAppend
import Derived.Deep.RegionHeld
import Derived.Deep.MidRow
import Derived.Deep.RegionHeld3
import Derived.Test.YtmcicfdnmfbimaaDoorPCatalogueParts0
import Derived.Test.YtmcicfdnmfbimaaDoorPCatalogueParts1
namespace Go.Proofs.YtmcicfdnmfbimaaDoor
set_option maxHeartbeats 32000000
set_option maxRecDepth 100000
open Lib (hid)
section
open Go.RowKit
def ahR (l : List Int) (i k : Int) : Bool := decide (placeI l i < placeI l k)
theorem rahead_any (va : Value) (l : List Int) (i k : Int) (w : World) (hl : Ints w va l) :
  Calls Tryd.prog 80 #[va, .int .i64 i, .int .i64 k] w fun e w' => e = .returned (.bool (ahR l i k)) ∧ w = w' := by
 have C := hid (fun j => rplace_any va l j w hl)
 have HR : Hid (ahR l i k = decide (placeI l i < placeI l k)) := hid rfl
 obtain ⟨ao, cap, rfl, hal⟩ := hl.form
 have CI := hid (C.out i)
 have CK := hid (C.out k)
 generalize ahR l i k = z at *
 generalize placeI l i = x at *
 generalize placeI l k = y at *
 clear hl C
 go_enter Tryd.func80, Tryd.ntmps80
 go_wp2_with fail
 refine (CI.out).mono ?_
 rintro e w1 ⟨rfl, rfl⟩
 go_wp2_with fail
 refine (CK.out).mono ?_
 rintro e w1 ⟨rfl, rfl⟩
 go_wp2_with fail
 go_ret
 exact ⟨ret_b HR.out.symm, rfl⟩
def mustR (h : List TxnV) (x : Nat) (l : List Int) (i k : Nat) : Bool := ((froR h i k || (hasT x 1 && sesP h i k)) || (hasT x 32 && timP h i k)) || (ahR l (i : Int) (k : Int) && (hasT x 16 || (hasT x 8 && rivR h i k)))
theorem rmust_any (va vr : Value) (h : List TxnV) (x : Nat) (hx : x < 64) (l : List Int) (i k : Nat) (hi : i < h.length) (hk : k < h.length) (hne : i ≠ k) (w : World) (hT : Txns w va h) (hl : Ints w vr l) :
  Calls Tryd.prog 67 #[va, .int .i64 x, vr, .int .i64 i, .int .i64 k] w fun e w' => e = .returned (.bool (mustR h x l i k)) ∧ Below w.heap.size w w' := by
 have CF := hid (rfrom8_any va h i k hk w hT)
 have CS := hid (fun wx (hx : Below w.heap.size w wx) => rsession_any va h i k wx (hT.below hx) hi hk)
 have CT := hid (fun wx (hx : Below w.heap.size w wx) => rtime_any va h i k wx (hT.below hx) hi hk)
 have CR := hid (fun wx (hx : Below w.heap.size w wx) => rrivals_any va h i k hi hk hne wx (hT.below hx))
 have CA := hid (fun wx (hx : Below w.heap.size w wx) => rahead_any vr l (i : Int) (k : Int) wx (hl.below hx))
 have C1 := hid (fun wx => rl_has x 1 hx (by omega) (by omega) wx)
 have C32 := hid (fun wx => rl_has x 32 hx (by omega) (by omega) wx)
 have C16 := hid (fun wx => rl_has x 16 hx (by omega) (by omega) wx)
 have C8 := hid (fun wx => rl_has x 8 hx (by omega) (by omega) wx)
 have HR : Hid (mustR h x l i k = (((froR h i k || (hasT x 1 && sesP h i k)) || (hasT x 32 && timP h i k)) || (ahR l (i : Int) (k : Int) && (hasT x 16 || (hasT x 8 && rivR h i k))))) := hid rfl
 rw [show sesP h i k = (decide (i < k) && decide (h[i].s = h[k].s)) by unfold sesP; rw [sAt_eq hi, sAt_eq hk], show timP h i k = decide (h[i].c < h[k].b) by unfold timP; rw [cAt_eq hi, bAt_eq hk]] at HR
 obtain ⟨ao, cap, rfl, hal⟩ := hT.form
 obtain ⟨ro, rcap, rfl, hrl⟩ := hl.form
 clear hT hl
 generalize mustR h x l i k = z at *
 generalize froR h i k = p1 at *
 generalize (decide (i < k) && decide (h[i].s = h[k].s)) = p2 at *
 generalize decide (h[i].c < h[k].b) = p3 at *
 generalize rivR h i k = p4 at *
 generalize ahR l (i : Int) (k : Int) = p5 at *
 generalize hasT x 1 = b1 at *
 generalize hasT x 32 = b2 at *
 generalize hasT x 16 = b3 at *
 generalize hasT x 8 = b4 at *
 go_enter Tryd.func67, Tryd.ntmps67
 go_wp2_with fail
 refine (CF.out).mono ?_
 rintro e w1 ⟨rfl, hb⟩
 cases p1 with
 | true =>
  go_wp2_with fail
  go_ret
  exact ⟨ret_b (by rw [HR.out]; rfl), hb⟩
 | false =>
  go_wp2_with fail
  refine (C1.out _).mono ?_
  rintro e w2 ⟨rfl, rfl⟩
  cases b1 with
  | true =>
   go_wp2_with fail
   refine (CS.out _ hb).mono ?_
   rintro e w2 ⟨rfl, hn⟩
   have hb := below_then hb hn
   clear hn
   cases p2 with
   | true =>
    go_wp2_with fail
    go_ret
    exact ⟨ret_b (by rw [HR.out]; rfl), hb⟩
   | false =>
    go_wp2_with fail
    refine (C32.out _).mono ?_
    rintro e w2 ⟨rfl, rfl⟩
    cases b2 with
    | true =>
     go_wp2_with fail
     refine (CT.out _ hb).mono ?_
     rintro e w2 ⟨rfl, hn⟩
     have hb := below_then hb hn
     clear hn
     cases p3 with
     | true =>
      go_wp2_with fail
      go_ret
      exact ⟨ret_b (by rw [HR.out]; rfl), hb⟩
     | false =>
      go_wp2_with fail
      refine (CA.out _ hb).mono ?_
      rintro e w2 ⟨rfl, rfl⟩
      cases p5 with
      | true =>
       go_wp2_with fail
       refine (C16.out _).mono ?_
       rintro e w2 ⟨rfl, rfl⟩
       cases b3 with
       | true =>
        go_wp2_with fail
        go_ret
        exact ⟨ret_b (by rw [HR.out]; rfl), hb⟩
       | false =>
        go_wp2_with fail
        refine (C8.out _).mono ?_
        rintro e w2 ⟨rfl, rfl⟩
        cases b4 with
        | true =>
         go_wp2_with fail
         refine (CR.out _ hb).mono ?_
         rintro e w2 ⟨rfl, hn⟩
         have hb := below_then hb hn
         clear hn
         cases p4 with
         | true =>
          go_wp2_with fail
          go_ret
          exact ⟨ret_b (by rw [HR.out]; rfl), hb⟩
         | false =>
          go_wp2_with fail
          go_ret
          exact ⟨ret_b (by rw [HR.out]; rfl), hb⟩
        | false =>
         go_wp2_with fail
         go_ret
         exact ⟨ret_b (by rw [HR.out]; rfl), hb⟩
      | false =>
       go_wp2_with fail
       go_ret
       exact ⟨ret_b (by rw [HR.out]; rfl), hb⟩
    | false =>
     go_wp2_with fail
     refine (CA.out _ hb).mono ?_
     rintro e w2 ⟨rfl, rfl⟩
     cases p5 with
     | true =>
      go_wp2_with fail
      refine (C16.out _).mono ?_
      rintro e w2 ⟨rfl, rfl⟩
      cases b3 with
      | true =>
       go_wp2_with fail
       go_ret
       exact ⟨ret_b (by rw [HR.out]; rfl), hb⟩
      | false =>
       go_wp2_with fail
       refine (C8.out _).mono ?_
       rintro e w2 ⟨rfl, rfl⟩
       cases b4 with
       | true =>
        go_wp2_with fail
        refine (CR.out _ hb).mono ?_
        rintro e w2 ⟨rfl, hn⟩
        have hb := below_then hb hn
        clear hn
        cases p4 with
        | true =>
         go_wp2_with fail
         go_ret
         exact ⟨ret_b (by rw [HR.out]; rfl), hb⟩
        | false =>
         go_wp2_with fail
         go_ret
         exact ⟨ret_b (by rw [HR.out]; rfl), hb⟩
       | false =>
        go_wp2_with fail
        go_ret
        exact ⟨ret_b (by rw [HR.out]; rfl), hb⟩
     | false =>
      go_wp2_with fail
      go_ret
      exact ⟨ret_b (by rw [HR.out]; rfl), hb⟩
  | false =>
   go_wp2_with fail
   refine (C32.out _).mono ?_
   rintro e w2 ⟨rfl, rfl⟩
   cases b2 with
   | true =>
    go_wp2_with fail
    refine (CT.out _ hb).mono ?_
    rintro e w2 ⟨rfl, hn⟩
    have hb := below_then hb hn
    clear hn
    cases p3 with
    | true =>
     go_wp2_with fail
     go_ret
     exact ⟨ret_b (by rw [HR.out]; rfl), hb⟩
    | false =>
     go_wp2_with fail
     refine (CA.out _ hb).mono ?_
     rintro e w2 ⟨rfl, rfl⟩
     cases p5 with
     | true =>
      go_wp2_with fail
      refine (C16.out _).mono ?_
      rintro e w2 ⟨rfl, rfl⟩
      cases b3 with
      | true =>
       go_wp2_with fail
       go_ret
       exact ⟨ret_b (by rw [HR.out]; rfl), hb⟩
      | false =>
       go_wp2_with fail
       refine (C8.out _).mono ?_
       rintro e w2 ⟨rfl, rfl⟩
       cases b4 with
       | true =>
        go_wp2_with fail
        refine (CR.out _ hb).mono ?_
        rintro e w2 ⟨rfl, hn⟩
        have hb := below_then hb hn
        clear hn
        cases p4 with
        | true =>
         go_wp2_with fail
         go_ret
         exact ⟨ret_b (by rw [HR.out]; rfl), hb⟩
        | false =>
         go_wp2_with fail
         go_ret
         exact ⟨ret_b (by rw [HR.out]; rfl), hb⟩
       | false =>
        go_wp2_with fail
        go_ret
        exact ⟨ret_b (by rw [HR.out]; rfl), hb⟩
     | false =>
      go_wp2_with fail
      go_ret
      exact ⟨ret_b (by rw [HR.out]; rfl), hb⟩
   | false =>
    go_wp2_with fail
    refine (CA.out _ hb).mono ?_
    rintro e w2 ⟨rfl, rfl⟩
    cases p5 with
    | true =>
     go_wp2_with fail
     refine (C16.out _).mono ?_
     rintro e w2 ⟨rfl, rfl⟩
     cases b3 with
     | true =>
      go_wp2_with fail
      go_ret
      exact ⟨ret_b (by rw [HR.out]; rfl), hb⟩
     | false =>
      go_wp2_with fail
      refine (C8.out _).mono ?_
      rintro e w2 ⟨rfl, rfl⟩
      cases b4 with
      | true =>
       go_wp2_with fail
       refine (CR.out _ hb).mono ?_
       rintro e w2 ⟨rfl, hn⟩
       have hb := below_then hb hn
       clear hn
       cases p4 with
       | true =>
        go_wp2_with fail
        go_ret
        exact ⟨ret_b (by rw [HR.out]; rfl), hb⟩
       | false =>
        go_wp2_with fail
        go_ret
        exact ⟨ret_b (by rw [HR.out]; rfl), hb⟩
      | false =>
       go_wp2_with fail
       go_ret
       exact ⟨ret_b (by rw [HR.out]; rfl), hb⟩
    | false =>
     go_wp2_with fail
     go_ret
     exact ⟨ret_b (by rw [HR.out]; rfl), hb⟩
def folJ (m : List Pr) (x : Nat) (l : List Int) (i k j : Int) : Bool := hasP m j k && ((hasT x 2 && hasP m i j) || (hasT x 4 && ahR l i j))
def folR (m : List Pr) (x : Nat) (l : List Int) (i k : Int) (n : Nat) : Bool := (List.range n).any fun j => folJ m x l i k (j : Int)
theorem rfollows_any (vm vr : Value) (m : List Pr) (n x : Nat) (hx : x < 64) (hn : n ≤ 1000) (l : List Int) (i k : Int) (w : World) (hm : Prs w vm m) (hl : Ints w vr l) :
  Calls Tryd.prog 70 #[vm, .int .i64 n, .int .i64 x, vr, .int .i64 i, .int .i64 k] w fun e w' => e = .returned (.bool (folR m x l i k n)) ∧ w = w' := by
 have CH := hid (fun a b => phas_any vm m a b w hm)
 have CA := hid (fun j => rahead_any vr l i j w hl)
 have C2 := hid (rl_has x 2 hx (by omega) (by omega) w)
 have C4 := hid (rl_has x 4 hx (by omega) (by omega) w)
 have HJ := hid (fun j : Int => show folJ m x l i k j = (hasP m j k && ((hasT x 2 && hasP m i j) || (hasT x 4 && ahR l i j))) from rfl)
 have HR : Hid (folR m x l i k n = (List.range n).any fun j => folJ m x l i k (j : Int)) := hid rfl
 obtain ⟨ao, cap, rfl, hal⟩ := hm.form
 obtain ⟨ro, rcap, rfl, hrl⟩ := hl.form
 clear hm hl
 generalize folR m x l i k n = z at *
 generalize folJ m x l i k = F at *
 generalize hasT x 2 = b1 at *
 generalize hasT x 4 = b2 at *
 go_enter Tryd.func70, Tryd.ntmps70
 go_wp2_with fail
 go_loopw [13] (fun v wr => ∃ j : Nat, j ≤ n ∧ v = .int .i64 j ∧ Hid (((List.range j).any fun j => F (j : Int)) = false) ∧ w = wr) (fun v _ => n - (intOf v).toNat)
 case atStart => exact ⟨0, by omega, rfl, hid rfl, rfl⟩
 case round =>
  obtain ⟨j, hj, rfl, HP, rfl⟩ := hrel
  by_cases hlt : j < n
  ·have hji : (j : Int) < (n : Int) := by omega
   have HS := hid (show ((List.range (j + 1)).any fun j => F (j : Int)) = F (j : Int) by rw [List.range_succ, List.any_append, HP.out]; simp)
   have HY := hid (show F (j : Int) = true → z = true from fun h => by rw [HR.out]; exact List.any_eq_true.2 ⟨j, List.mem_range.2 hlt, h⟩)
   have HQ := hid (HJ.out (j : Int))
   have D1 := hid (CH.out (j : Int) k)
   have D2 := hid (CH.out i (j : Int))
   have D3 := hid (CA.out (j : Int))
   generalize hasP m (j : Int) k = p1 at *
   generalize hasP m i (j : Int) = p2 at *
   generalize ahR l i (j : Int) = p3 at *
   generalize F (j : Int) = q at *
   clear CH CA HJ HP HR
   go_wp2_with fail
   refine (D1.out).mono ?_
   rintro e w1 ⟨rfl, rfl⟩
   cases p1 with
   | true =>
    go_wp2_with fail
    refine (C2.out).mono ?_
    rintro e w1 ⟨rfl, rfl⟩
    cases b1 with
    | true =>
     go_wp2_with fail
     refine (D2.out).mono ?_
     rintro e w1 ⟨rfl, rfl⟩
     cases p2 with
     | true =>
      have HT : Hid (true = z) := hid (HY.out (by rw [HQ.out]; rfl)).symm
      clear HS HQ HY D1 D2 D3
      go_wp2_with fail
      go_ret
      exact ⟨ret_b HT.out, rfl⟩
     | false =>
      go_wp2_with fail
      refine (C4.out).mono ?_
      rintro e w1 ⟨rfl, rfl⟩
      cases b2 with
      | true =>
       go_wp2_with fail
       refine (D3.out).mono ?_
       rintro e w1 ⟨rfl, rfl⟩
       cases p3 with
       | true =>
        have HT : Hid (true = z) := hid (HY.out (by rw [HQ.out]; rfl)).symm
        clear HS HQ HY D1 D2 D3
        go_wp2_with fail
        go_ret
        exact ⟨ret_b HT.out, rfl⟩
       | false =>
        have HN : Hid (((List.range (j + 1)).any fun j => F (j : Int)) = false) := hid (by rw [HS.out, HQ.out]; rfl)
        clear HS HQ HY D1 D2 D3
        go_wp2_with fail
        go_roundw
        case rel => exact ⟨j + 1, by omega, by go_num, HN, by first | rfl | trivial⟩
        case measure => simp [intOf]; omega
      | false =>
       have HN : Hid (((List.range (j + 1)).any fun j => F (j : Int)) = false) := hid (by rw [HS.out, HQ.out]; rfl)
       clear HS HQ HY D1 D2 D3
       go_wp2_with fail
       go_roundw
       case rel => exact ⟨j + 1, by omega, by go_num, HN, by first | rfl | trivial⟩
       case measure => simp [intOf]; omega
    | false =>
     go_wp2_with fail
     refine (C4.out).mono ?_
     rintro e w1 ⟨rfl, rfl⟩
     cases b2 with
     | true =>
      go_wp2_with fail
      refine (D3.out).mono ?_
      rintro e w1 ⟨rfl, rfl⟩
      cases p3 with
      | true =>
       have HT : Hid (true = z) := hid (HY.out (by rw [HQ.out]; rfl)).symm
       clear HS HQ HY D1 D2 D3
       go_wp2_with fail
       go_ret
       exact ⟨ret_b HT.out, rfl⟩
      | false =>
       have HN : Hid (((List.range (j + 1)).any fun j => F (j : Int)) = false) := hid (by rw [HS.out, HQ.out]; rfl)
       clear HS HQ HY D1 D2 D3
       go_wp2_with fail
       go_roundw
       case rel => exact ⟨j + 1, by omega, by go_num, HN, by first | rfl | trivial⟩
       case measure => simp [intOf]; omega
     | false =>
      have HN : Hid (((List.range (j + 1)).any fun j => F (j : Int)) = false) := hid (by rw [HS.out, HQ.out]; rfl)
      clear HS HQ HY D1 D2 D3
      go_wp2_with fail
      go_roundw
      case rel => exact ⟨j + 1, by omega, by go_num, HN, by first | rfl | trivial⟩
      case measure => simp [intOf]; omega
   | false =>
    have HN : Hid (((List.range (j + 1)).any fun j => F (j : Int)) = false) := hid (by rw [HS.out, HQ.out]; rfl)
    clear HS HQ HY D1 D2 D3
    go_wp2_with fail
    go_roundw
    case rel => exact ⟨j + 1, by omega, by go_num, HN, by first | rfl | trivial⟩
    case measure => simp [intOf]; omega
  ·have hj2 : j = n := by omega
   subst hj2
   have HV : Hid (false = z) := hid (by rw [HR.out]; exact HP.out.symm)
   clear HP HR
   go_wp2_with fail
   go_ret
   exact ⟨ret_b HV.out, rfl⟩
end

section
open Go.RowKit
def gridP (n : Nat) : List Pr := (List.range n).flatMap fun i => (List.range n).map fun k => (((i : Nat) : Int), ((k : Nat) : Int))
theorem gridP_len (n : Nat) : (gridP n).length = n * n := by
 unfold gridP
 rw [List.length_flatMap]
 have : ((List.range n).map fun i => ((List.range n).map fun k => ((((i : Nat) : Int), ((k : Nat) : Int)) : Pr)).length) = (List.range n).map fun _ => n := by simp
 rw [this, List.map_const']
 have hr : ∀ n k : Nat, (List.replicate n k).sum = n * k := by
  intro n k; induction n with
  | zero => simp
  | succ n ih => rw [List.replicate_succ, List.sum_cons, ih, Nat.succ_mul]; omega
 rw [hr, List.length_range]
theorem mem_gridP {n : Nat} {p : Pr} : p ∈ gridP n ↔ ∃ i k : Nat, i < n ∧ k < n ∧ p = ((i : Int), (k : Int)) := by
 unfold gridP
 rw [List.mem_flatMap]
 constructor
 ·rintro ⟨i, hi, h⟩
  obtain ⟨k, hk, e⟩ := List.mem_map.1 h
  exact ⟨i, k, List.mem_range.1 hi, List.mem_range.1 hk, e.symm⟩
 ·rintro ⟨i, k, hi, hk, rfl⟩
  exact ⟨i, List.mem_range.2 hi, List.mem_map.2 ⟨k, List.mem_range.2 hk, rfl⟩⟩
def InM (n : Nat) (M : Nat → Nat → Prop) (m : List Pr) : Prop := m.Nodup ∧ ∀ p ∈ m, ∃ i k : Nat, i < n ∧ k < n ∧ p = ((i : Int), (k : Int)) ∧ M i k
theorem InM.len {n : Nat} {M : Nat → Nat → Prop} {m : List Pr} (h : InM n M m) : m.length ≤ n * n := by
 rw [← gridP_len]
 refine nodup_le m (gridP n) h.1 fun p hp => ?_
 obtain ⟨i, k, hi, hk, e, _⟩ := h.2 p hp
 exact mem_gridP.2 ⟨i, k, hi, hk, e⟩
theorem InM.put {n : Nat} {M : Nat → Nat → Prop} {m : List Pr} (h : InM n M m) {i k : Nat} (hi : i < n) (hk : k < n) (hM : M i k) : InM n M (putP m (i : Int) (k : Int)) := by
 refine ⟨putP_nodup h.1, fun p hp => ?_⟩
 rcases mem_putP.1 hp with hp | rfl
 ·exact h.2 p hp
 ·exact ⟨i, k, hi, hk, rfl, hM⟩
def staR (h : List TxnV) (x : Nat) (l : List Int) (n : Nat) : Mat := fun i k => decide (i < n) && decide (k < n) && decide (i ≠ k) && mustR h x l i k
def ahdR (l : List Int) (n : Nat) : Mat := fun i k => decide (i < n) && decide (k < n) && ahR l (i : Int) (k : Int)
def LeaR (h : List TxnV) (x : Nat) (l : List Int) (n i k : Nat) : Prop := Must (staR h x l n) (ahdR l n) (hasT x 2) (hasT x 4) i k
theorem staR_iff {h : List TxnV} {x : Nat} {l : List Int} {n i k : Nat} : staR h x l n i k = true ↔ i < n ∧ k < n ∧ i ≠ k ∧ mustR h x l i k = true := by
 unfold staR; simp [and_assoc]
theorem ahdR_iff {l : List Int} {n i k : Nat} : ahdR l n i k = true ↔ i < n ∧ k < n ∧ ahR l (i : Int) (k : Int) = true := by
 unfold ahdR; simp [and_assoc]
theorem leaR_lt {h : List TxnV} {x : Nat} {l : List Int} {n i k : Nat} (hm : LeaR h x l n i k) : i < n ∧ k < n := by
 induction hm with
 | base hs => have := staR_iff.1 hs; exact ⟨this.1, this.2.1⟩
 | trans _ _ _ _ ih1 ih2 => exact ⟨ih1.1, ih2.2⟩
 | pre _ _ ha _ ih => exact ⟨(ahdR_iff.1 ha).1, ih.2⟩
def DoneTo (n : Nat) (P : Nat → Nat → Prop) (i0 k0 : Nat) : Prop := ∀ i k : Nat, i < n → k < n → (i < i0 ∨ (i = i0 ∧ k < k0)) → P i k
theorem DoneTo.row {n : Nat} {P : Nat → Nat → Prop} {i0 : Nat} (h : DoneTo n P i0 n) : DoneTo n P (i0 + 1) 0 := fun i k hi hk hlt => h i k hi hk (by omega)
theorem DoneTo.next {n : Nat} {P : Nat → Nat → Prop} {i0 k0 : Nat} (h : DoneTo n P i0 k0) (hp : P i0 k0) : DoneTo n P i0 (k0 + 1) := fun i k hi hk hlt => by
 by_cases e : i = i0 ∧ k = k0
 ·rw [e.1, e.2]; exact hp
 ·exact h i k hi hk (by omega)
theorem DoneTo.none {n : Nat} {P : Nat → Nat → Prop} : DoneTo n P 0 0 := fun i k _ _ h => by omega
theorem DoneTo.mono {n : Nat} {P Q : Nat → Nat → Prop} {i0 k0 : Nat} (h : DoneTo n P i0 k0) (hp : ∀ i k, P i k → Q i k) : DoneTo n Q i0 k0 := fun i k hi hk hlt => hp i k (h i k hi hk hlt)
theorem DoneTo.all {n : Nat} {P : Nat → Nat → Prop} {k0 : Nat} (h : DoneTo n P n k0) (i k : Nat) (hi : i < n) (hk : k < n) : P i k := h i k hi hk (.inl hi)
def FirP (h : List TxnV) (x : Nat) (l : List Int) (n : Nat) (m : List Pr) (i k : Nat) : Prop := staR h x l n i k = true → ((i : Int), (k : Int)) ∈ m
def ClsP (x : Nat) (l : List Int) (n : Nat) (m : List Pr) (i k : Nat) : Prop := hasP m (i : Int) (k : Int) = true ∨ folR m x l (i : Int) (k : Int) n = false
theorem folR_iff {m : List Pr} {x : Nat} {l : List Int} {i k : Int} {n : Nat} : folR m x l i k n = true ↔ ∃ j : Nat, j < n ∧ ((j : Int), k) ∈ m ∧ ((hasT x 2 = true ∧ (i, (j : Int)) ∈ m) ∨ (hasT x 4 = true ∧ ahR l i (j : Int) = true)) := by
 unfold folR folJ
 rw [List.any_eq_true]
 constructor
 ·rintro ⟨j, hj, h⟩
  rw [Bool.and_eq_true, Bool.or_eq_true, Bool.and_eq_true, Bool.and_eq_true, hasP_iff, hasP_iff] at h
  exact ⟨j, List.mem_range.1 hj, h.1, h.2⟩
 ·rintro ⟨j, hj, h1, h2⟩
  refine ⟨j, List.mem_range.2 hj, ?_⟩
  rw [Bool.and_eq_true, Bool.or_eq_true, Bool.and_eq_true, Bool.and_eq_true, hasP_iff, hasP_iff]
  exact ⟨h1, h2⟩
theorem fol_lea {h : List TxnV} {x : Nat} {l : List Int} {n : Nat} {m : List Pr} (hn : n ≤ 64) (hm : InM n (LeaR h x l n) m) {i k : Nat} (hi : i < n) (hf : folR m x l (i : Int) (k : Int) n = true) : LeaR h x l n i k := by
 obtain ⟨j, hj, h1, h2⟩ := folR_iff.1 hf
 obtain ⟨a, b, ha, hb, e, hab⟩ := hm.2 _ h1
 have e1 := congrArg Prod.fst e
 have e2 := congrArg Prod.snd e
 simp at e1 e2
 obtain rfl : j = a := by omega
 obtain rfl : k = b := by omega
 rcases h2 with ⟨h2, h3⟩ | ⟨h2, h3⟩
 ·obtain ⟨a, c, _, _, e, hac⟩ := hm.2 _ h3
  have e1 := congrArg Prod.fst e
  have e2 := congrArg Prod.snd e
  simp at e1 e2
  obtain rfl : i = a := by omega
  obtain rfl : j = c := by omega
  exact .trans h2 (by omega) hac hab
 ·exact .pre h2 (by omega) (ahdR_iff.2 ⟨hi, hj, h3⟩) hab
def LeaL (h : List TxnV) (x : Nat) (l : List Int) (n : Nat) (m : List Pr) : Prop := m.Nodup ∧ ∀ a b : Int, (a, b) ∈ m ↔ ∃ i k : Nat, a = (i : Int) ∧ b = (k : Int) ∧ LeaR h x l n i k
theorem lea_done {h : List TxnV} {x : Nat} {l : List Int} {n : Nat} {m : List Pr} (hm : InM n (LeaR h x l n) m) (hf : ∀ i k : Nat, i < n → k < n → FirP h x l n m i k) (hc : ∀ i k : Nat, i < n → k < n → ClsP x l n m i k) : LeaL h x l n m := by
 refine ⟨hm.1, fun a b => ⟨fun hp => ?_, ?_⟩⟩
 ·obtain ⟨i, k, _, _, e, hM⟩ := hm.2 _ hp
  exact ⟨i, k, congrArg Prod.fst e, congrArg Prod.snd e, hM⟩
 ·rintro ⟨i, k, rfl, rfl, hM⟩
  have step : ∀ i k : Nat, i < n → k < n → folR m x l (i : Int) (k : Int) n = true → ((i : Int), (k : Int)) ∈ m := fun i k hi hk hfo => by
   rcases hc i k hi hk with h | h
   ·exact hasP_iff.1 h
   ·rw [h] at hfo; cases hfo
  unfold LeaR at hM
  induction hM with
  | base hs => have := staR_iff.1 hs; exact hf _ _ this.1 this.2.1 hs
  | @trans i j k ht _ h1 h2 ih1 ih2 =>
   have l1 := leaR_lt (h := h) (x := x) (l := l) h1
   have l2 := leaR_lt (h := h) (x := x) (l := l) h2
   exact step i k l1.1 l2.2 (folR_iff.2 ⟨j, l1.2, ih2, .inl ⟨ht, ih1⟩⟩)
  | @pre i j k ht _ ha h2 ih =>
   have l1 := ahdR_iff.1 ha
   have l2 := leaR_lt (h := h) (x := x) (l := l) h2
   exact step i k l1.1 l2.2 (folR_iff.2 ⟨j, l1.2.1, ih, .inr ⟨ht, l1.2.2⟩⟩)
theorem FirP.put {h : List TxnV} {x : Nat} {l : List Int} {n : Nat} {m : List Pr} {a b : Int} {i k : Nat} (hf : FirP h x l n m i k) : FirP h x l n (putP m a b) i k := fun hs => mem_putP.2 (.inl (hf hs))
def flagOf : Value → Nat
 | .bool true => 1
 | _ => 0
theorem rof11_any (va vr : Value) (h : List TxnV) (x : Nat) (hx : x < 64) (l : List Int) (w : World) (hn : h.length ≤ 64) (hT : Txns w va h) (hl : Ints w vr l) :
  Calls Tryd.prog 59 #[va, .int .i64 x, vr] w fun e w' => ∃ v m, e = .returned v ∧ Prs w' v m ∧ LeaL h x l h.length m ∧ Below w.heap.size w w' := by
 have CM := hid (fun (i k : Nat) (hi : i < h.length) (hk : k < h.length) (hne : i ≠ k) wx (hb : Below w.heap.size w wx) => rmust_any va vr h x hx l i k hi hk hne wx (hT.below hb) (hl.below hb))
 have CF := hid (fun (vm : Value) (m : List Pr) (i k : Int) wx (hb : Below w.heap.size w wx) (hm : Prs wx vm m) => rfollows_any vm vr m h.length x hx (by omega) l i k wx hm (hl.below hb))
 have b0 := box_below w (.cells #[] 111)
 have hm0 : Prs (w.alloc (.cells #[] 111)) (.slice (some ⟨w.heap.size, 0, none⟩) 0 0) [] := Prs.of_owns (base := 0) (World.ownsRow_lit (size := 2) _ _ _ (Nat.zero_le _) (by simp) (by simp))
 have HSQ : Hid (h.length * h.length ≤ 4096) := hid (by have := Nat.mul_le_mul hn hn; omega)
 obtain ⟨ao, cap, rfl, hal⟩ := hT.form
 obtain ⟨ro, rcap, rfl, hrl⟩ := hl.form
 have HN := hid hn
 clear hT hl hn
 go_enter Tryd.func59, Tryd.ntmps59
 go_wp2_with fail
 generalize w.alloc (.cells #[] 111) = w0 at *
 go_loopw [7, 8] (fun v iv wr => ∃ (i : Nat) (m : List Pr), i ≤ h.length ∧ iv = .int .i64 i ∧ Prs wr v m ∧ Hid (InM h.length (LeaR h x l h.length) m) ∧ Hid (DoneTo h.length (FirP h x l h.length m) i 0) ∧ Below w.heap.size w wr) (fun _ iv _ => h.length - (intOf iv).toNat)
 case atStart => exact ⟨0, [], by omega, rfl, hm0, hid ⟨List.nodup_nil, fun p hp => by cases hp⟩, hid DoneTo.none, b0⟩
 case round =>
  clear hm0 b0
  obtain ⟨i, m, hi, rfl, hm, HI, HD, hb⟩ := hrel
  by_cases hlt : i < h.length
  ·have hii : (i : Int) < (h.length : Int) := by omega
   obtain ⟨mo, mcap, rfl, hml⟩ := hm.form
   clear CF
   go_wp2_with fail
   go_loopw [7, 9] (fun v kv wx => ∃ (k : Nat) (m : List Pr), k ≤ h.length ∧ kv = .int .i64 k ∧ Prs wx v m ∧ Hid (InM h.length (LeaR h x l h.length) m) ∧ Hid (DoneTo h.length (FirP h x l h.length m) i k) ∧ Below w.heap.size w wx) (fun _ kv _ => h.length - (intOf kv).toNat)
   case atStart => exact ⟨0, m, by omega, rfl, hm, HI, HD, hb⟩
   case round =>
    clear hm HI HD hb hml
    obtain ⟨k, m, hk, rfl, hm, HI, HD, hb⟩ := hrel
    obtain ⟨mo, mcap, rfl, hml⟩ := hm.form
    by_cases hlk : k < h.length
    ·have hki : (k : Int) < (h.length : Int) := by omega
     by_cases e : i = k
     ·subst e
      have HD2 := hid (HD.out.next (fun hs => absurd rfl (staR_iff.1 hs).2.2.1))
      clear HD CM
      go_wp2_with fail
      go_roundw
      case rel => exact ⟨i + 1, m, by omega, by go_num, hm, HI, HD2, hb⟩
      case measure => simp [intOf]; omega
     ·have hne : ¬ (i : Int) = (k : Int) := by omega
      have hnb : ((i : Int) == (k : Int)) = false := beq_eq_false_iff_ne.2 hne
      have CQ := hid (CM.out i k hlt hlk e _ hb)
      have HE := hid e
      cases hmu : mustR h x l i k with
      | false =>
       rw [hmu] at CQ
       have HD2 := hid (HD.out.next (fun hs => by have := (staR_iff.1 hs).2.2.2; rw [hmu] at this; cases this))
       clear HD CM hmu e
       go_wp2_with fail
       refine (CQ.out).mono ?_
       rintro e w5 ⟨rfl, h5⟩
       have hm5 := hm.below h5
       have hb5 := below_then hb h5
       clear hm hb h5
       go_wp2_with fail
       go_roundw
       case rel => exact ⟨k + 1, m, by omega, by go_num, hm5, HI, HD2, hb5⟩
       case measure => simp [intOf]; omega
      | true =>
       rw [hmu] at CQ
       have HD2 : Hid (DoneTo h.length (FirP h x l h.length (putP m (i : Int) (k : Int))) i (k + 1)) := hid ((HD.out.mono (fun _ _ hf => hf.put)).next (fun _ => mem_putP.2 (.inr rfl)))
       have HI2 := hid (HI.out.put hlt hlk (.base (staR_iff.2 ⟨hlt, hlk, e, hmu⟩)))
       have hlen : m.length ≤ 1000000000 := by have := HI.out.len; have := HSQ.out; omega
       clear HD HI CM hmu e
       go_wp2_with fail
       refine (CQ.out).mono ?_
       rintro e w5 ⟨rfl, h5⟩
       have hm5 := hm.below h5
       have hb5 := below_then hb h5
       clear hm hb h5
       go_wp2_with fail
       refine (put_any _ m (i : Int) (k : Int) _ hm5 hlen).mono ?_
       rintro e w6 ⟨v6, rfl, hm6, h6⟩
       have hb6 := below_then hb5 h6
       clear hm5 hb5 h6 hml hlen
       obtain ⟨m2, hm2⟩ : ∃ m2, m2 = putP m (i : Int) (k : Int) := ⟨_, rfl⟩
       rw [← hm2] at hm6 HI2 HD2
       clear hm2
       go_wp2_with fail
       go_roundw
       case rel => exact ⟨k + 1, m2, by omega, by go_num, hm6, HI2, HD2, hb6⟩
       case measure => simp [intOf]; omega
    ·have hkn : k = h.length := by omega
     have HD2 : Hid (DoneTo h.length (FirP h x l h.length m) (i + 1) 0) := hid (by have := HD.out; rw [hkn] at this; exact this.row)
     have hnk : ¬ (k : Int) < (h.length : Int) := by omega
     clear HD hkn CM
     go_wp2_with fail
     go_roundw
     case rel => exact ⟨i + 1, m, by omega, by go_num, hm, HI, HD2, hb⟩
     case measure => simp [intOf]; omega
  ·have hin : i = h.length := by omega
   have HF : Hid (∀ a b : Nat, a < h.length → b < h.length → FirP h x l h.length m a b) := hid (by have := HD.out; rw [hin] at this; exact fun a b ha hb => this.all a b ha hb)
   have hni : ¬ (i : Int) < (h.length : Int) := by omega
   obtain ⟨mo, mcap, rfl, hml⟩ := hm.form
   clear HD CM hin hlt hi
   go_wp2_with fail
   go_loopw [7, 10] (fun v qv wr => ∃ (m : List Pr) (q : Bool), qv = .bool q ∧ Prs wr v m ∧ Hid (InM h.length (LeaR h x l h.length) m) ∧ Hid (∀ a b : Nat, a < h.length → b < h.length → FirP h x l h.length m a b) ∧ Hid (q = false → ∀ a b : Nat, a < h.length → b < h.length → ClsP x l h.length m a b) ∧ Below w.heap.size w wr) (fun v qv _ => 2 * (5000 - lenOf v) + flagOf qv)
   case atStart => exact ⟨m, true, rfl, hm, HI, HF, hid (fun h => by cases h), hb⟩
   case round =>
    clear hm HI HF hb hml
    obtain ⟨m, q, rfl, hm, HI, HF, HC, hb⟩ := hrel
    obtain ⟨mo, mcap, rfl, hml⟩ := hm.form
    have hl0 : m.length ≤ 4096 := by have := HI.out.len; have := HSQ.out; omega
    cases q with
    | false =>
     have HL := hid (lea_done HI.out HF.out (HC.out rfl))
     clear HI HF HC
     go_wp2_with fail
     go_ret
     exact ⟨_, m, rfl, hm, HL.out, hb⟩
    | true =>
     clear HC
     go_wp2_with fail
     obtain ⟨n0, hn0⟩ : ∃ n0, n0 = m.length := ⟨_, rfl⟩
     go_loopw [7, 10, 11] (fun v qv iv wr => ∃ (i : Nat) (m : List Pr) (q : Bool), i ≤ h.length ∧ iv = .int .i64 i ∧ qv = .bool q ∧ Prs wr v m ∧ Hid (InM h.length (LeaR h x l h.length) m) ∧ Hid (∀ a b : Nat, a < h.length → b < h.length → FirP h x l h.length m a b) ∧ Hid (q = false → DoneTo h.length (ClsP x l h.length m) i 0) ∧ Hid (n0 + flagOf (.bool q) ≤ m.length) ∧ Below w.heap.size w wr) (fun _ _ iv _ => h.length - (intOf iv).toNat)
     case atStart => exact ⟨0, m, false, by omega, rfl, rfl, hm, HI, HF, hid (fun _ => DoneTo.none), hid (by simp [flagOf]; omega), hb⟩
     case round =>
      clear hm HI HF hb hml
      obtain ⟨i, m1, q, hi, rfl, rfl, hm, HI, HF, HC, HG, hb⟩ := hrel
      obtain ⟨mo1, mcap1, rfl, hml⟩ := hm.form
      by_cases hlt : i < h.length
      ·have hii : (i : Int) < (h.length : Int) := by omega
       go_wp2_with fail
       go_loopw [7, 10, 12] (fun v qv kv wx => ∃ (k : Nat) (m : List Pr) (q : Bool), k ≤ h.length ∧ kv = .int .i64 k ∧ qv = .bool q ∧ Prs wx v m ∧ Hid (InM h.length (LeaR h x l h.length) m) ∧ Hid (∀ a b : Nat, a < h.length → b < h.length → FirP h x l h.length m a b) ∧ Hid (q = false → DoneTo h.length (ClsP x l h.length m) i k) ∧ Hid (n0 + flagOf (.bool q) ≤ m.length) ∧ Below w.heap.size w wx) (fun _ _ kv _ => h.length - (intOf kv).toNat)
       case atStart => exact ⟨0, m1, q, by omega, rfl, rfl, hm, HI, HF, HC, HG, hb⟩
       case round =>
        clear hm HI HF hb hml HC HG
        obtain ⟨k, m2, q, hk, rfl, rfl, hm, HI, HF, HC, HG, hb⟩ := hrel
        obtain ⟨mo2, mcap2, rfl, hml⟩ := hm.form
        by_cases hlk : k < h.length
        ·have hki : (k : Int) < (h.length : Int) := by omega
         have CH := hid (phas_any _ m2 (i : Int) (k : Int) _ hm)
         have CQ := hid (CF.out _ m2 (i : Int) (k : Int) _ hb hm)
         cases hh : hasP m2 (i : Int) (k : Int) with
         | true =>
          have HC2 : Hid (q = false → DoneTo h.length (ClsP x l h.length m2) i (k + 1)) := hid (fun hq => (HC.out hq).next (.inl hh))
          rw [hh] at CH
          clear CQ HC hh CF
          go_wp2_with fail
          refine (CH.out).mono ?_
          rintro e w5 ⟨rfl, rfl⟩
          go_wp2_with fail
          go_roundw
          case rel => exact ⟨k + 1, m2, q, by omega, by go_num, rfl, hm, HI, HF, HC2, HG, hb⟩
          case measure => simp [intOf]; omega
         | false =>
          rw [hh] at CH
          cases hfo : folR m2 x l (i : Int) (k : Int) h.length with
          | false =>
           have HC2 : Hid (q = false → DoneTo h.length (ClsP x l h.length m2) i (k + 1)) := hid (fun hq => (HC.out hq).next (.inr hfo))
           rw [hfo] at CQ
           clear HC hh CF hfo
           go_wp2_with fail
           refine (CH.out).mono ?_
           rintro e w5 ⟨rfl, rfl⟩
           go_wp2_with fail
           refine (CQ.out).mono ?_
           rintro e w5 ⟨rfl, rfl⟩
           go_wp2_with fail
           go_roundw
           case rel => exact ⟨k + 1, m2, q, by omega, by go_num, rfl, hm, HI, HF, HC2, HG, hb⟩
           case measure => simp [intOf]; omega
          | true =>
           have HI2 := hid (HI.out.put hlt hlk (fol_lea HN.out HI.out hlt hfo))
           have HF2 : Hid (∀ a b : Nat, a < h.length → b < h.length → FirP h x l h.length (putP m2 (i : Int) (k : Int)) a b) := hid (fun a b ha hb => (HF.out a b ha hb).put)
           have HG2 : Hid (n0 + flagOf (.bool true) ≤ (putP m2 (i : Int) (k : Int)).length) := hid (by
            have := HG.out
            unfold putP
            rw [hh, if_neg (by decide), List.length_append]
            simp only [flagOf, List.length_cons, List.length_nil]
            omega)
           have hlen : m2.length ≤ 1000000000 := by have := HI.out.len; have := HSQ.out; omega
           rw [hfo] at CQ
           clear HC hh CF hfo HI HF HG
           go_wp2_with fail
           refine (CH.out).mono ?_
           rintro e w5 ⟨rfl, rfl⟩
           go_wp2_with fail
           refine (CQ.out).mono ?_
           rintro e w5 ⟨rfl, rfl⟩
           go_wp2_with fail
           refine (put_any _ m2 (i : Int) (k : Int) _ hm hlen).mono ?_
           rintro e w6 ⟨v6, rfl, hm6, h6⟩
           have hb6 := below_then hb h6
           clear hm hb h6 hml hlen CH CQ
           obtain ⟨m3, hm3⟩ : ∃ m3, m3 = putP m2 (i : Int) (k : Int) := ⟨_, rfl⟩
           rw [← hm3] at hm6 HI2 HF2 HG2
           clear hm3
           go_wp2_with fail
           go_roundw
           case rel => exact ⟨k + 1, m3, true, by omega, by go_num, rfl, hm6, HI2, HF2, hid (fun h => by cases h), HG2, hb6⟩
           case measure => simp [intOf]; omega
        ·have hkn : k = h.length := by omega
         have HC2 : Hid (q = false → DoneTo h.length (ClsP x l h.length m2) (i + 1) 0) := hid (fun hq => by have := HC.out hq; rw [hkn] at this; exact this.row)
         have hnk : ¬ (k : Int) < (h.length : Int) := by omega
         clear HC hkn CF
         go_wp2_with fail
         go_roundw
         case rel => exact ⟨i + 1, m2, q, by omega, by go_num, rfl, hm, HI, HF, HC2, HG, hb⟩
         case measure => simp [intOf]; omega
      ·have hin : i = h.length := by omega
       have HC2 : Hid (q = false → ∀ a b : Nat, a < h.length → b < h.length → ClsP x l h.length m1 a b) := hid (fun hq => by have := HC.out hq; rw [hin] at this; exact fun a b ha hb => this.all a b ha hb)
       have hni : ¬ (i : Int) < (h.length : Int) := by omega
       have hlm : m1.length ≤ 4096 := by have := HI.out.len; have := HSQ.out; omega
       have HME : Hid (2 * (5000 - m1.length) + flagOf (.bool q) < 2 * (5000 - m.length) + flagOf (.bool true)) := hid (by
        have := HG.out
        rw [hn0] at this
        cases q <;> simp only [flagOf] at * <;> omega)
       clear HC hin CF
       go_wp2_with fail
       go_roundw
       case rel => exact ⟨m1, q, rfl, hm, HI, HF, HC2, hb⟩
       case measure => exact HME.out
end

section
open Go.RowKit
def FullRow (n : Nat) (l : List Int) : Prop := l.Nodup ∧ ∀ a : Int, a ∈ l ↔ 0 ≤ a ∧ a < (n : Int)
theorem full_nodup : ∀ (n : Nat) (l : List Int), l.length = n → rowTo l n = true → l.Nodup
 | 0, l, hl, _ => by
  cases l with
  | nil => exact List.nodup_nil
  | cons a l => simp at hl
 | n + 1, l, hl, hr => by
  rw [rowTo_succ, Bool.and_eq_true, decide_eq_true_eq] at hr
  obtain ⟨h1, h2⟩ := hr
  have hle : (l.erase (n : Int)).length = n := by rw [List.length_erase_of_mem h2, hl]; rfl
  have hr2 : rowTo (l.erase (n : Int)) n = true := by
   unfold rowTo at h1 ⊢
   rw [List.all_eq_true] at h1 ⊢
   intro i hi
   have hin := List.mem_range.1 hi
   have h3 := h1 i hi
   rw [decide_eq_true_eq] at h3 ⊢
   exact (List.mem_erase_of_ne (by omega)).2 h3
  have ih := full_nodup n (l.erase (n : Int)) hle hr2
  have hlt := count_full n (l.erase (n : Int)) hle hr2
  have hp := List.perm_cons_erase h2
  rw [hp.nodup_iff, List.nodup_cons]
  exact ⟨fun hm => by have := hlt _ hm; omega, ih⟩
theorem full_of_row {n : Nat} {l : List Int} (h : rowRef12 n l = true) : FullRow n l := by
 unfold rowRef12 at h
 rw [Bool.and_eq_true, decide_eq_true_eq] at h
 obtain ⟨h1, h2⟩ := h
 refine ⟨full_nodup n l (by omega) h1, fun a => ⟨fun ha => count_full n l (by omega) h1 a ha, fun ha => ?_⟩⟩
 unfold rowTo at h1
 have := List.all_eq_true.1 h1 a.toNat (List.mem_range.2 (by omega))
 rw [decide_eq_true_eq] at this
 have e : ((a.toNat : Nat) : Int) = a := by omega
 rw [e] at this
 exact this
theorem full_of_perm {n : Nat} {L : List Nat} (h : L.Perm (List.range n)) : FullRow n (L.map Int.ofNat) := by
 refine ⟨nodup_ofNat (h.nodup_iff.2 List.nodup_range), fun a => ?_⟩
 rw [List.mem_map]
 constructor
 ·rintro ⟨k, hk, rfl⟩
  have := List.mem_range.1 (h.mem_iff.1 hk)
  have e : Int.ofNat k = (k : Int) := rfl
  rw [e]; omega
 ·intro ha
  exact ⟨a.toNat, h.mem_iff.2 (List.mem_range.2 (by omega)), by have : Int.ofNat a.toNat = ((a.toNat : Nat) : Int) := rfl; rw [this]; omega⟩
theorem placeF_at : ∀ (l : List Int) (k0 k : Nat) (hk : k < l.length), l.Nodup → placeF l l[k] k0 = ((k0 + k : Nat) : Int)
 | [], _, k, hk, _ => by simp at hk
 | a :: l, k0, 0, _, _ => by unfold placeF; rw [if_pos (by rfl)]; rfl
 | a :: l, k0, k + 1, hk, hn => by
  rw [List.nodup_cons] at hn
  have hk2 : k < l.length := by simpa using hk
  have hne : ¬ a = (a :: l)[k + 1] := fun e => hn.1 (by rw [e]; exact List.getElem_mem hk2)
  unfold placeF
  rw [if_neg hne]
  have := placeF_at l (k0 + 1) k hk2 hn.2
  rw [show k0 + (k + 1) = k0 + 1 + k by omega]
  exact this
theorem placeI_at {l : List Int} (hn : l.Nodup) {k : Nat} (hk : k < l.length) : placeI l l[k] = (k : Int) := by
 unfold placeI
 rw [placeF_at l 0 k hk hn, Nat.zero_add]
theorem placeI_nn {l : List Int} {a : Int} : 0 ≤ placeI l a ↔ a ∈ l := by
 have h := placeF_neg a l 0
 have h2 : placeI l a < 0 ↔ a ∉ l := h
 constructor
 ·intro h3
  exact Decidable.byContradiction fun h4 => by have := h2.2 h4; omega
 ·intro h3
  exact Decidable.byContradiction fun h4 => h2.1 (by omega) h3
theorem ahR_iff {l : List Int} (hn : l.Nodup) {a b : Int} (ha : a ∈ l) (hb : b ∈ l) : ahR l a b = true ↔ Ahead l a b := by
 obtain ⟨i, hi, rfl⟩ := List.mem_iff_getElem.1 ha
 obtain ⟨j, hj, rfl⟩ := List.mem_iff_getElem.1 hb
 unfold ahR
 rw [placeI_at hn hi, placeI_at hn hj, decide_eq_true_eq, ahead_at]
 constructor
 ·intro hij
  refine ⟨i, hi, by rw [List.getD_eq_getElem?_getD, List.getElem?_eq_getElem hi]; rfl, ?_⟩
  refine List.mem_iff_getElem.2 ⟨j - (i + 1), by rw [List.length_drop]; omega, ?_⟩
  rw [List.getElem_drop]
  congr 1
  omega
 ·rintro ⟨p, hp, h1, h2⟩
  rw [List.getD_eq_getElem?_getD, List.getElem?_eq_getElem hp, Option.getD_some] at h1
  obtain ⟨q, hq, h3⟩ := List.mem_iff_getElem.1 h2
  rw [List.length_drop] at hq
  rw [List.getElem_drop] at h3
  have e1 : p = i := (List.getElem_inj hn).1 h1
  have e2 : p + 1 + q = j := (List.getElem_inj hn).1 h3
  omega
theorem chain_mem {l : List Int} {i j : Nat} (h : chainR l i j = true) : (i : Int) ∈ l ∧ (j : Int) ∈ l := (( chainR_iff i j l).1 h).mem
theorem chain_ahd {n : Nat} {l : List Int} (hf : FullRow n l) (i j : Nat) : chainR l i j = true ↔ ahdR l n i j = true := by
 rw [ahdR_iff]
 constructor
 ·intro h
  obtain ⟨h1, h2⟩ := chain_mem h
  have h3 := (hf.2 _).1 h1
  have h4 := (hf.2 _).1 h2
  exact ⟨by omega, by omega, (ahR_iff hf.1 h1 h2).2 ((chainR_iff i j l).1 h)⟩
 ·rintro ⟨h1, h2, h3⟩
  have m1 : (i : Int) ∈ l := (hf.2 _).2 (by omega)
  have m2 : (j : Int) ∈ l := (hf.2 _).2 (by omega)
  exact (chainR_iff i j l).2 ((ahR_iff hf.1 m1 m2).1 h3)
theorem chain_irr {n : Nat} {l : List Int} (hf : FullRow n l) (i : Nat) : chainR l i i = false := by
 cases h : chainR l i i with
 | false => rfl
 | true => exact absurd ((chainR_iff i i l).1 h) (ahead_irr hf.1 _)
theorem hasT_bits : ∀ k : Fin 64, hasT k.val 1 = k.val.testBit 0 ∧ hasT k.val 2 = k.val.testBit 1 ∧ hasT k.val 4 = k.val.testBit 2 ∧ hasT k.val 8 = k.val.testBit 3 ∧ hasT k.val 16 = k.val.testBit 4 ∧ hasT k.val 32 = k.val.testBit 5 := by decide +kernel
theorem hasP_rep {V : Mat} {m : List Pr} (h : Rep V m) {i j : Nat} (hi : i < 64) (hj : j < 64) : hasP m (i : Int) (j : Int) = V i j := by
 rw [Bool.eq_iff_iff, hasP_iff, ← hasR_rep h, hasR_nat V i j hi hj]
theorem wrt_bit {h : List TxnV} (hc : checkI h = 0) {j : Nat} (hj : j < h.length) (y : Int) : (wrtN h y).testBit j = wrsR h j y := by
 have h64 := (check_zero hc).1
 unfold wrtN
 rw [testBit_mkS, decide_eq_true (show j < 64 by omega), decide_eq_true hj, Bool.true_and, Bool.true_and, Bool.eq_iff_iff, decide_eq_true_eq, keysOf_iff hc hj]
def lstR (h : List TxnV) (m : List Pr) (i key : Int) (l : List Int) : Int := l.foldl (fun out a => if (hasP m a i && wrsR h a.toNat key) = true then a else out) (-1)
theorem lstR_snoc (h : List TxnV) (m : List Pr) (i key : Int) (l : List Int) (a : Int) : lstR h m i key (l ++ [a]) = if (hasP m a i && wrsR h a.toNat key) = true then a else lstR h m i key l := by
 unfold lstR; rw [List.foldl_append]; rfl
theorem lstR_take (h : List TxnV) (m : List Pr) (i key : Int) (l : List Int) (k : Nat) (hk : k < l.length) : lstR h m i key (l.take (k + 1)) = if (hasP m l[k] i && wrsR h l[k].toNat key) = true then l[k] else lstR h m i key (l.take k) := by
 rw [List.take_succ_eq_append_getElem hk, lstR_snoc]
theorem lstR_same {h : List TxnV} {V : Mat} {m : List Pr} (hc : checkI h = 0) (hR : Rep V m) {i : Nat} (hi : i < 64) (y : Int) : ∀ r : List Int, (∀ a ∈ r, 0 ≤ a ∧ a < (h.length : Int)) → lstR h m (i : Int) y r.reverse = lastI r.reverse (seeTo V (i : Int) 64 &&& wrtN h y)
 | [], _ => rfl
 | a :: r, ha => by
  have h64 := (check_zero hc).1
  have ih := lstR_same hc hR hi y r (fun b hb => ha b (List.mem_cons_of_mem _ hb))
  have h1 := ha a List.mem_cons_self
  obtain ⟨j, rfl⟩ := Int.eq_ofNat_of_zero_le h1.1
  have hj : j < h.length := by omega
  rw [List.reverse_cons, lastI_snoc, lstR_snoc, ih, hasB_nat (show j < 64 by omega), seen_bit hi (show j < 64 by omega), hasP_rep hR (show j < 64 by omega) hi, wrt_bit hc hj, Int.toNat_natCast]
def pairOkR (l : List Int) (p : Pr) : Bool := decide (0 ≤ placeI l p.1) && (decide (0 ≤ placeI l p.2) && decide (placeI l p.1 < placeI l p.2))
def rdOkR (h : List TxnV) (l : List Int) (m : List Pr) (i : Nat) (r : Int × Int) : Bool := decide (lstR h m (i : Int) r.1 l = r.2)
def rightR (h : List TxnV) (l : List Int) (m : List Pr) : Bool := rowRef12 h.length l && (m.all (pairOkR l) && (List.range h.length).all fun i => (rdR h (i : Int) (refReads (opsAt h i))).all (rdOkR h l m i))
theorem all_congr {α : Type} {p q : α → Bool} : ∀ (l : List α), (∀ a ∈ l, p a = q a) → l.all p = l.all q
 | [], _ => rfl
 | a :: l, h => by rw [List.all_cons, List.all_cons, h a List.mem_cons_self, all_congr l (fun b hb => h b (List.mem_cons_of_mem _ hb))]
theorem right_same {h : List TxnV} {V : Mat} {m : List Pr} (hc : checkI h = 0) (hR : Rep V m) (l : List Int) : rightM h l V = rightR h l m := by
 have h64 := (check_zero hc).1
 unfold rightM rightR
 rw [row_same h.length h64 l]
 cases hrow : rowRef12 h.length l with
 | false => rfl
 | true =>
  have hf := full_of_row hrow
  rw [Bool.true_and, Bool.true_and]
  have e1 : inM V (chainR l) = m.all (pairOkR l) := by
   rw [Bool.eq_iff_iff, inM_iff, List.all_eq_true]
   constructor
   ·rintro H ⟨a, b⟩ hp
    obtain ⟨i, j, hi, hj, rfl, rfl, hv⟩ := (hR.2 _ _).1 hp
    have hch := H i j hi hj hv
    obtain ⟨m1, m2⟩ := chain_mem hch
    have h3 := (ahR_iff hf.1 m1 m2).2 ((chainR_iff i j l).1 hch)
    unfold ahR at h3
    unfold pairOkR
    simp only
    rw [decide_eq_true (placeI_nn.2 m1), decide_eq_true (placeI_nn.2 m2), h3]; rfl
   ·intro H i j hi hj hv
    have := H _ ((hR.2 _ _).2 ⟨i, j, hi, hj, rfl, rfl, hv⟩)
    unfold pairOkR at this
    simp only [Bool.and_eq_true, decide_eq_true_eq] at this
    have m1 := placeI_nn.1 this.1
    have m2 := placeI_nn.1 this.2.1
    exact (chainR_iff i j l).2 ((ahR_iff hf.1 m1 m2).1 (by unfold ahR; exact decide_eq_true this.2.2))
  rw [e1]
  congr 1
  unfold rightTo
  refine all_congr _ fun i hi => ?_
  have hin := List.mem_range.1 hi
  rw [reads_same hc hin, opsAt_eq hin]
  refine all_congr _ fun r _ => ?_
  unfold readOk rdOkR
  have := lstR_same hc hR (show i < 64 by omega) r.1 l.reverse (fun a ha => (hf.2 a).1 (List.mem_reverse.1 ha))
  rw [List.reverse_reverse] at this
  rw [this]
theorem rivM_at {h : List TxnV} {l : List Int} {i k : Nat} (hi : i < h.length) (hk : k < h.length) (hne : i ≠ k) : rivM h (chainR l) i k = (chainR l i k && rivR h i k) := by
 unfold rivM rivB
 rw [decide_eq_true hi, decide_eq_true hk, decide_eq_true hne, Bool.true_and, Bool.true_and, Bool.true_and]
theorem lea_must {h : List TxnV} {x y : Nat} {l : List Int} (hc : checkI h = 0) (hf : FullRow h.length l) (hx : x < 64) (hy : y < 9223372036854775808) (hb : ∀ b, b < 6 → y.testBit b = x.testBit b) {i j : Nat} (hi : i < 64) (hj : j < 64) :
  Must (startM h (y : Int) (chainR l)) (chainR l) (trB y) (pfB y) i j ↔ LeaR h x l h.length i j := by
 have h64 := (check_zero hc).1
 obtain ⟨t1, t2, t4, t8, t16, t32⟩ := hasT_bits ⟨x, hx⟩
 simp only at t1 t2 t4 t8 t16 t32
 have ah : ∀ i j : Nat, i < h.length → j < h.length → (ahR l (i : Int) (j : Int) = true ↔ chainR l i j = true) := fun i j hi hj => by
  rw [chain_ahd hf, ahdR_iff]; exact ⟨fun h => ⟨hi, hj, h⟩, fun h => h.2.2⟩
 have hch : ∀ i j, chainR l i j = true → i < h.length ∧ j < h.length ∧ i ≠ j := fun i j hc2 => by
  obtain ⟨m1, m2⟩ := chain_mem hc2
  have h3 := (hf.2 _).1 m1
  have h4 := (hf.2 _).1 m2
  refine ⟨by omega, by omega, ?_⟩
  rintro rfl
  rw [chain_irr hf] at hc2; cases hc2
 constructor
 ·intro hm
  refine must_in (V := fun i j => LeaR h x l h.length i j) ?_ ?_ ?_ hm hi hj
  ·intro i j hi hj hs
   refine .base (staR_iff.2 ?_)
   rw [startM_iff h y hy, baseM_iff h y hy, hb 0 (by omega), hb 5 (by omega), hb 3 (by omega), hb 4 (by omega), ← t1, ← t32, ← t8, ← t16] at hs
   unfold mustR
   simp only [Bool.or_eq_true, Bool.and_eq_true]
   rcases hs with (hs | ⟨h1, h2⟩ | ⟨h1, h2⟩) | ⟨h1, h2⟩ | ⟨h1, h2⟩
   ·obtain ⟨a1, a2, a3⟩ := (prsTo_iff (froP h) h.length i j hi hj h.length).1 hs
    rw [fro_same hc i a2] at a3
    refine ⟨a1, a2, ?_, .inl (.inl (.inl a3))⟩
    rintro rfl
    rw [froR_irr] at a3; cases a3
   ·obtain ⟨a1, a2, a3⟩ := (prsTo_iff (sesP h) h.length i j hi hj h.length).1 h2
    refine ⟨a1, a2, ?_, .inl (.inl (.inr ⟨h1, a3⟩))⟩
    unfold sesP at a3
    rw [Bool.and_eq_true, decide_eq_true_eq] at a3
    omega
   ·obtain ⟨a1, a2, a3⟩ := (prsTo_iff (timP h) h.length i j hi hj h.length).1 h2
    refine ⟨a1, a2, ?_, .inl (.inr ⟨h1, a3⟩)⟩
    rintro rfl
    unfold timP at a3
    rw [decide_eq_true_eq, cAt_eq a1, bAt_eq a1] at a3
    have := bc_of hc a1
    omega
   ·have hA := rivM_in h _ i j h2
    obtain ⟨a1, a2, a3⟩ := hch i j hA
    rw [rivM_at a1 a2 a3, Bool.and_eq_true] at h2
    exact ⟨a1, a2, a3, .inr ⟨(ah i j a1 a2).2 hA, .inr ⟨h1, h2.2⟩⟩⟩
   ·obtain ⟨a1, a2, a3⟩ := hch i j h2
    exact ⟨a1, a2, a3, .inr ⟨(ah i j a1 a2).2 h2, .inl h1⟩⟩
  ·intro ht i q j _ hq _ h1 h2
   exact .trans (by rw [t2, ← hb 1 (by omega), ← trB_bit y hy]; exact ht) hq h1 h2
  ·intro ht i q j _ hq _ h1 h2
   exact .pre (by rw [t4, ← hb 2 (by omega), ← pfB_bit y hy]; exact ht) hq ((chain_ahd hf i q).1 h1) h2
 ·intro hm
  unfold LeaR at hm
  induction hm with
  | base hs =>
   obtain ⟨a1, a2, a3, a4⟩ := staR_iff.1 hs
   refine .base ?_
   rw [startM_iff h y hy, baseM_iff h y hy, hb 0 (by omega), hb 5 (by omega), hb 3 (by omega), hb 4 (by omega), ← t1, ← t32, ← t8, ← t16]
   unfold mustR at a4
   simp only [Bool.or_eq_true, Bool.and_eq_true] at a4
   rcases a4 with ((a4 | ⟨h1, h2⟩) | ⟨h1, h2⟩) | ⟨h1, h2⟩
   ·exact .inl (.inl ((prsTo_iff (froP h) h.length _ _ hi hj h.length).2 ⟨a1, a2, by rw [fro_same hc _ a2]; exact a4⟩))
   ·exact .inl (.inr (.inl ⟨h1, (prsTo_iff (sesP h) h.length _ _ hi hj h.length).2 ⟨a1, a2, h2⟩⟩))
   ·exact .inl (.inr (.inr ⟨h1, (prsTo_iff (timP h) h.length _ _ hi hj h.length).2 ⟨a1, a2, h2⟩⟩))
   ·have hA := (ah _ _ a1 a2).1 h1
    rcases h2 with h2 | ⟨h2, h3⟩
    ·exact .inr (.inr ⟨h2, hA⟩)
    ·exact .inr (.inl ⟨h2, by rw [rivM_at a1 a2 a3, hA, h3]; rfl⟩)
  | @trans i q j ht hq _ _ ih1 ih2 => exact .trans (by rw [trB_bit y hy, hb 1 (by omega), ← t2]; exact ht) hq (ih1 hi hq) (ih2 hq hj)
  | @pre i q j ht hq ha _ ih => exact .pre (by rw [pfB_bit y hy, hb 2 (by omega), ← t4]; exact ht) hq ((chain_ahd hf i q).2 ha) (ih hq hj)
theorem lea_rep {h : List TxnV} {x y : Nat} {l : List Int} {m : List Pr} {R : Mat} (hc : checkI h = 0) (hf : FullRow h.length l) (hx : x < 64) (hy : y < 9223372036854775808) (hb : ∀ b, b < 6 → y.testBit b = x.testBit b) (hL : LeaL h x l h.length m) (hR : LeastIs h y l R) : Rep R m := by
 have h64 := (check_zero hc).1
 refine ⟨hL.1, fun a b => ?_⟩
 rw [hL.2]
 constructor
 ·rintro ⟨i, k, rfl, rfl, hM⟩
  have := leaR_lt hM
  exact ⟨i, k, by omega, by omega, rfl, rfl, (hR i k (by omega) (by omega)).2 ((lea_must hc hf hx hy hb (by omega) (by omega)).2 hM)⟩
 ·rintro ⟨i, k, hi, hk, rfl, rfl, hr⟩
  exact ⟨i, k, rfl, rfl, (lea_must hc hf hx hy hb hi hk).1 ((hR i k hi hk).1 hr)⟩
end

section
open Go.RowKit
theorem rivR_symm (h : List TxnV) (i k : Nat) : rivR h i k = rivR h k i := by
 unfold rivR
 congr 1
 funext n
 rw [Bool.and_comm]
theorem rivB_symm (h : List TxnV) (i k : Nat) : rivB h i k = rivB h k i := by
 unfold rivB
 rw [rivR_symm h i k, Bool.eq_iff_iff]
 simp only [Bool.and_eq_true, decide_eq_true_eq]
 exact ⟨fun ⟨a, b, c, d⟩ => ⟨b, a, fun e => c e.symm, d⟩, fun ⟨a, b, c, d⟩ => ⟨b, a, fun e => c e.symm, d⟩⟩
theorem baseN_bit {h : List TxnV} {C i j : Nat} (hi : i < 64) : (baseN h C i).testBit j = true ↔ j < 64 ∧ baseM h (C : Int) j i = true := by
 unfold baseN
 rw [seeTo_bit _ _ _ _ (Nat.le_refl 64), Bool.and_eq_true, decide_eq_true_eq]
 exact ⟨fun ⟨a, b⟩ => ⟨a, by rwa [hasR_nat _ _ _ a hi] at b⟩, fun ⟨a, b⟩ => ⟨a, by rw [hasR_nat _ _ _ a hi]; exact b⟩⟩
theorem rivN_bit {h : List TxnV} {i j : Nat} : (rivN h i).testBit j = true ↔ j < 64 ∧ rivB h i j = true := by
 unfold rivN
 rw [testBit_mkS, Bool.and_eq_true, decide_eq_true_eq]
theorem baseM_lt {h : List TxnV} {C j k : Nat} (hC : C < 9223372036854775808) (hj : j < 64) (hk : k < 64) (hb : baseM h (C : Int) j k = true) : j < h.length ∧ k < h.length := by
 rw [baseM_iff h C hC] at hb
 rcases hb with hb | ⟨_, hb⟩ | ⟨_, hb⟩
 ·exact ⟨((prsTo_iff _ _ j k hj hk _).1 hb).1, ((prsTo_iff _ _ j k hj hk _).1 hb).2.1⟩
 ·exact ⟨((prsTo_iff _ _ j k hj hk _).1 hb).1, ((prsTo_iff _ _ j k hj hk _).1 hb).2.1⟩
 ·exact ⟨((prsTo_iff _ _ j k hj hk _).1 hb).1, ((prsTo_iff _ _ j k hj hk _).1 hb).2.1⟩
def seesR (h : List TxnV) (C : Nat) (r : List Nat) : Mat := fun j k => (plSee h C r k).testBit j
section
variable {h : List TxnV} {C : Nat}
theorem RowG.drop : ∀ {p r : List Nat}, RowG h C (p ++ r) → RowG h C r
 | [], _, g => g
 | _ :: p, _, g => RowG.drop (p := p) g.tail
theorem aheadL_drop : ∀ {p r : List Nat}, (p ++ r).Nodup → ∀ {k : Nat}, k ∈ r → aheadL (p ++ r) k = aheadL r k
 | [], _, _, _, _ => rfl
 | i :: p, r, hn, k, hk => by
  obtain ⟨hi, hn'⟩ := List.nodup_cons.1 (show (i :: (p ++ r)).Nodup from hn)
  show aheadL (i :: (p ++ r)) k = _
  rw [aheadL_tail (fun e => hi (by rw [← e]; exact List.mem_append_right _ hk)), aheadL_drop hn' hk]
theorem sees_sound {r : List Nat} (g : RowG h C r) (hC : C < 9223372036854775808) : ∀ (r' p : List Nat), p ++ r' = r → ∀ j k, (plSee h C r' k).testBit j = true → Must (startM h (C : Int) (chainR (r.reverse.map Int.ofNat))) (chainR (r.reverse.map Int.ofNat)) (trB C) (pfB C) j k
 | [], _, _, j, k, hj => by unfold plSee at hj; simp at hj
 | i :: r', p, he, j, k, hj => by
  have ih := sees_sound g hC r' (p ++ [i]) (by rw [List.append_assoc]; exact he)
  by_cases e : k = i
  ·subst e
   have g2 : RowG h C (k :: r') := RowG.drop (p := p) (by rw [he]; exact g)
   have hk64 := g2.lt k (List.mem_cons_self ..)
   have hA : ∀ m, m ∈ k :: r' → aheadL r m = aheadL (k :: r') m := fun m hm => by
    rw [← he]; exact aheadL_drop (by rw [he]; exact g.nd) hm
   have hkn := (List.nodup_cons.1 g2.nd).1
   have hpl : ∀ j, (plS r').testBit j = true → chainR (r.reverse.map Int.ofNat) j k = true := fun j hj => by
    rw [ahead_chain g.nd g.lt, hA k (List.mem_cons_self ..), aheadL, if_pos rfl]; exact hj
   rw [plSee, if_pos rfl] at hj
   refine wld4_least (Y := fun j => Must (startM h (C : Int) (chainR (r.reverse.map Int.ofNat))) (chainR (r.reverse.map Int.ofNat)) (trB C) (pfB C) j k) ?_ ?_ ?_ ?_ ?_ hj
   ·intro j hj
    exact .base ((startM_iff h C hC _ j k).2 (.inl ((baseN_bit hk64).1 hj).2))
   ·intro hc j hj
    exact .base ((startM_iff h C hC _ j k).2 (.inr (.inr ⟨hc, hpl j hj⟩)))
   ·intro hc j hr hj
    refine .base ((startM_iff h C hC _ j k).2 (.inr (.inl ⟨hc, ?_⟩)))
    unfold rivM
    rw [hpl j hj, rivB_symm, (rivN_bit.1 hr).2]; rfl
   ·intro hc m j hm hY hj
    exact .trans (by rw [trB_bit C hC]; exact hc) hm (ih j m hj) hY
   ·intro hc m j hm hY hj
    refine .pre (by rw [pfB_bit C hC]; exact hc) hm ?_ hY
    have hm' : m ∈ r' := by
     by_cases q : m ∈ r'
     ·exact q
     ·rw [aheadL_out q] at hj; simp at hj
    have hne : m ≠ k := fun e => hkn (by rw [← e]; exact hm')
    rw [ahead_chain g.nd g.lt, hA m (List.mem_cons_of_mem _ hm'), aheadL_tail hne]; exact hj
  ·rw [plSee_tail e] at hj
   exact ih j k hj
theorem sees_least {r : List Nat} (g : RowG h C r) (hC : C < 9223372036854775808) (hall : ∀ k, k < h.length → k ∈ r) : LeastIs h C (r.reverse.map Int.ofNat) (seesR h C r) := by
 intro j k hj hk
 refine ⟨fun hs => sees_sound g hC r [] rfl j k hs, fun hm => ?_⟩
 obtain ⟨c1, c2⟩ := sees_closed g
 refine must_in (V := fun j k => (plSee h C r k).testBit j = true) ?_ ?_ ?_ hm hj hk
 ·intro j k hj hk hs
  rw [startM_iff h C hC] at hs
  rcases hs with hs | ⟨hc, hs⟩ | ⟨hc, hs⟩
  ·have hkr := hall k (baseM_lt hC hj hk hs).2
   rw [sees_fix g k hkr]
   exact wld4_base ((baseN_bit hk).2 ⟨hj, hs⟩)
  ·unfold rivM at hs
   rw [Bool.and_eq_true, ahead_chain g.nd g.lt] at hs
   have hkr : k ∈ r := by
    by_cases q : k ∈ r
    ·exact q
    ·rw [aheadL_out q] at hs; simp at hs
   rw [sees_fix g k hkr]
   exact wld4_riv hc (rivN_bit.2 ⟨hj, by rw [rivB_symm]; exact hs.2⟩) hs.1
  ·rw [ahead_chain g.nd g.lt] at hs
   have hkr : k ∈ r := by
    by_cases q : k ∈ r
    ·exact q
    ·rw [aheadL_out q] at hs; simp at hs
   rw [sees_fix g k hkr]
   exact wld4_all hc hs
 ·intro ht i m j _ _ _ h1 h2
  rw [trB_bit C hC] at ht
  exact c1 ht j m i h2 h1
 ·intro hp i m j _ _ _ h1 h2
  rw [pfB_bit C hC] at hp
  rw [ahead_chain g.nd g.lt] at h1
  exact c2 hp j m i h2 h1
end
theorem read_from {h : List TxnV} (hc : checkI h = 0) {k : Nat} (hk : k < h.length) {x : Int × Int} (hx : x ∈ readsOf h k) : x.2 = -1 ∨ ∃ n : Nat, n < h.length ∧ x.2 = (n : Int) ∧ n ≠ k ∧ (wrtN h x.1).testBit n = true := by
 rw [reads_same hc hk] at hx
 unfold rdR at hx
 obtain ⟨o, ho, rfl⟩ := List.mem_map.1 hx
 obtain ⟨ho1, ho2⟩ := List.mem_filter.1 ho
 obtain ⟨h1, h2⟩ := refReads_in ho1
 rcases reads_F (may_of hc) hk h1 h2 with ⟨h0, hn⟩ | ⟨h0, u, hu, hku, hw⟩
 ·left; unfold fromR; rw [if_pos h0]
 ·right
  obtain ⟨p, hp, hpv, hpk⟩ := real_wr h h.length (Nat.le_refl _) o.val u hu
  obtain ⟨t, ht, hpt, hpw⟩ := wrs_mem.1 hp
  obtain ⟨n, hn, rfl⟩ := List.getElem_of_mem ht
  have h3 := may_wr (may_of hc) hn hpt hpw
  rw [hpv, hu] at h3
  have h4 := Option.some.inj h3
  have hui : u.i = (n : Int) := by rw [h4]
  have hfr : fromR h o = (n : Int) := by unfold fromR; rw [if_neg h0, hw, hui]
  refine ⟨n, hn, hfr, ?_, ?_⟩
  ·rintro rfl
   rw [hfr] at ho2
   simp at ho2
  ·have h64 := (check_zero hc).1
   show (wrtN h o.key).testBit n = true
   unfold wrtN
   rw [testBit_mkS, decide_eq_true (show n < 64 by omega), decide_eq_true hn, Bool.true_and, Bool.true_and, decide_eq_true_eq, opsAt_eq hn]
   unfold keysOf
   rw [← hku, ← hpk]
   obtain ⟨a, b⟩ := (check_zero hc).2.2.2 _ (List.getElem_mem hn) p hpt
   obtain ⟨q, hq⟩ := Option.isSome_iff_exists.1 (lastW_some h[n].l hpw h[n].l.length (Nat.le_refl _) (by rw [List.take_length]; exact hpt))
   rw [List.take_length] at hq
   refine List.mem_map.2 ⟨q, upTo_mem.2 ⟨p.key.toNat, by omega, ?_⟩, (lastW_key hq).1⟩
   unfold wrK
   rw [Int.toNat_of_nonneg a]; exact hq
theorem from_base {h : List TxnV} {C : Nat} (hC : C < 9223372036854775808) (h64 : h.length ≤ 64) {k n : Nat} (hk : k < h.length) (hn : n < h.length) {x : Int × Int} (hx : x ∈ readsOf h k) (he : x.2 = (n : Int)) : (baseN h C k).testBit n = true := by
 rw [baseN_bit (by omega)]
 refine ⟨by omega, (baseM_iff h C hC n k).2 (.inl ?_)⟩
 refine (prsTo_iff (froP h) h.length n k (by omega) (by omega) h.length).2 ⟨hn, hk, ?_⟩
 unfold froP
 rw [List.any_eq_true]
 exact ⟨x, hx, by rw [he]; simp⟩
theorem readsP_congr {h : List TxnV} {aF aG : Nat → Nat} {s k : Nat} (hc : ∀ x ∈ readsOf h k, 0 ≤ x.2 → aF x.2.toNat = aG x.2.toNat) : readsP h aF s k = readsP h aG s k := by
 unfold readsP
 refine all_congr _ fun x hx => ?_
 unfold readP readW
 by_cases h0 : 0 ≤ x.2
 ·rw [if_pos h0, if_pos h0, hc x hx h0]
 ·rw [if_neg h0, if_neg h0]
def goodR (h : List TxnV) (C : Nat) (r : List Nat) : Prop := ∀ k ∈ r, (∀ j, (baseN h C k).testBit j = true → (aheadL r k).testBit j = true) ∧ readsP h (aheadL r) (plSee h C r k) k = true
section
variable {h : List TxnV} {C : Nat}
theorem reads_tail (hc : checkI h = 0) (hC : C < 9223372036854775808) {i k : Nat} {r : List Nat} (hi : i ∉ r) (hlt : ∀ a ∈ r, a < h.length) (hk : k < h.length) (hb : ∀ j, (baseN h C k).testBit j = true → (plS r).testBit j = true) (s : Nat) :
  readsP h (aheadL (i :: r)) s k = readsP h (aheadL r) s k := by
 have h64 := (check_zero hc).1
 refine readsP_congr fun x hx h0 => ?_
 rcases read_from hc hk hx with e | ⟨n, hn, e, _, _⟩
 ·omega
 ·have := plS_mem (fun a ha => by have := hlt a ha; omega) (hb n (from_base hC h64 hk hn hx e))
  rw [e, Int.toNat_natCast]
  exact aheadL_tail (fun q => hi (by rw [← q]; exact this))
theorem inB_bits {s t : Nat} (hs : IsSet s) : inB s t = true ↔ ∀ j, s.testBit j = true → t.testBit j = true := by
 rw [inB_iff hs]
 exact ⟨fun q j hj => q j (by by_cases e : j < 64; exact e; rw [hs.high (by omega)] at hj; cases hj) hj, fun q j _ hj => q j hj⟩
theorem good_cons (hc : checkI h = 0) (hC : C < 9223372036854775808) {i : Nat} {r : List Nat} (hi : i ∉ r) (hin : i < h.length) (hlt : ∀ a ∈ r, a < h.length) : goodR h C (i :: r) ↔ goodR h C r ∧ tryP h C r i = true := by
 have h64 := (check_zero hc).1
 have hlt64 : ∀ a ∈ r, a < 64 := fun a ha => by have := hlt a ha; omega
 have key : ∀ k ∈ r, k ≠ i := fun k hk e => hi (by rw [← e]; exact hk)
 constructor
 ·intro g
  constructor
  ·intro k hk
   obtain ⟨g1, g2⟩ := g k (List.mem_cons_of_mem _ hk)
   rw [aheadL_tail (key k hk)] at g1
   refine ⟨g1, ?_⟩
   rw [plSee_tail (key k hk), reads_tail hc hC hi hlt (hlt k hk) (fun j hj => ahead_in hlt64 (g1 j hj))] at g2
   exact g2
  ·obtain ⟨g1, g2⟩ := g i (List.mem_cons_self ..)
   rw [aheadL, if_pos rfl] at g1
   rw [plSee, if_pos rfl, reads_tail hc hC hi hlt hin g1] at g2
   unfold tryP nextN
   rw [decide_eq_true hin, decide_eq_false hi, (inB_bits (baseN_set h C i)).2 g1, g2]; rfl
 ·rintro ⟨g, ht⟩
  unfold tryP at ht
  simp only [Bool.and_eq_true] at ht
  obtain ⟨_, _, g1, g2⟩ := ht
  have g1 := (inB_bits (baseN_set h C i)).1 g1
  intro k hk
  by_cases e : k = i
  ·subst e
   rw [aheadL, if_pos rfl]
   refine ⟨g1, ?_⟩
   rw [plSee, if_pos rfl, reads_tail hc hC hi hlt hin g1]
   exact g2
  ·have hkr : k ∈ r := by rcases List.mem_cons.1 hk with q | q; exact (e q).elim; exact q
   obtain ⟨q1, q2⟩ := g k hkr
   rw [aheadL_tail e]
   refine ⟨q1, ?_⟩
   rw [plSee_tail e, reads_tail hc hC hi hlt (hlt k hkr) (fun j hj => ahead_in hlt64 (q1 j hj))]
   exact q2
def allT (h : List TxnV) (C : Nat) : List Nat → List Nat → Bool
 | _, [] => true
 | r, i :: l => tryP h C r i && allT h C (i :: r) l
theorem good_drop (hc : checkI h = 0) (hC : C < 9223372036854775808) : ∀ {p r : List Nat}, (p ++ r).Nodup → (∀ a ∈ p ++ r, a < h.length) → goodR h C (p ++ r) → goodR h C r
 | [], _, _, _, g => g
 | i :: p, r, hn, hlt, g => by
  obtain ⟨hi, hn'⟩ := List.nodup_cons.1 (show (i :: (p ++ r)).Nodup from hn)
  have hlt' : ∀ a ∈ p ++ r, a < h.length := fun a ha => hlt a (List.mem_cons_of_mem _ ha)
  exact good_drop hc hC hn' hlt' ((good_cons hc hC hi (hlt i (List.mem_cons_self ..)) hlt').1 g).1
theorem allT_iff (hc : checkI h = 0) (hC : C < 9223372036854775808) : ∀ (l r : List Nat), (l.reverse ++ r).Nodup → (∀ a ∈ l.reverse ++ r, a < h.length) → goodR h C r → (allT h C r l = true ↔ goodR h C (l.reverse ++ r))
 | [], r, _, _, g => ⟨fun _ => g, fun _ => rfl⟩
 | i :: l, r, hn, hlt, g => by
  have e : (i :: l).reverse ++ r = l.reverse ++ (i :: r) := by simp
  rw [e] at hn hlt ⊢
  have hn2 : (i :: r).Nodup := (List.nodup_append.1 hn).2.1
  have hi := (List.nodup_cons.1 hn2).1
  have hin := hlt i (List.mem_append_right _ (List.mem_cons_self ..))
  have hltr : ∀ a ∈ r, a < h.length := fun a ha => hlt a (List.mem_append_right _ (List.mem_cons_of_mem _ ha))
  unfold allT
  rw [Bool.and_eq_true]
  constructor
  ·rintro ⟨ht, ha⟩
   exact (allT_iff hc hC l (i :: r) hn hlt ((good_cons hc hC hi hin hltr).2 ⟨g, ht⟩)).1 ha
  ·intro g2
   have g3 := good_drop hc hC hn hlt g2
   exact ⟨((good_cons hc hC hi hin hltr).1 g3).2, (allT_iff hc hC l (i :: r) hn hlt g3).2 g2⟩
theorem last_is {f : Nat} {S : Nat} (hS : S.testBit f = true) : ∀ {r : List Nat}, r.Nodup → (∀ k ∈ r, k < 64) → f ∈ r → (∀ j, S.testBit j = true → j ∈ r) → (lastI (r.reverse.map Int.ofNat) S = (f : Int) ↔ ∀ j, S.testBit j = true → j = f ∨ (aheadL r f).testBit j = true) := by
 intro r
 induction r with
 | nil => intro _ _ hf _; cases hf
 | cons i r ih =>
  intro hnd hlt hf hin
  obtain ⟨hi, hnd'⟩ := List.nodup_cons.1 hnd
  have hi64 := hlt i (List.mem_cons_self ..)
  have hlt' : ∀ a ∈ r, a < 64 := fun a ha => hlt a (List.mem_cons_of_mem _ ha)
  rw [List.reverse_cons, List.map_append, List.map_cons, List.map_nil, lastI_snoc, show Int.ofNat i = (i : Int) from rfl, hasB_nat hi64]
  by_cases hs : S.testBit i = true
  ·rw [if_pos hs]
   by_cases e : f = i
   ·subst e
    refine ⟨fun _ j hj => ?_, fun _ => rfl⟩
    rw [aheadL, if_pos rfl, plS_bit j r hlt', decide_eq_true_eq]
    exact List.mem_cons.1 (hin j hj)
   ·constructor
    ·intro q; exact (e (Int.ofNat.inj q).symm).elim
    ·intro q
     rcases q i hs with q | q
     ·exact (e q.symm).elim
     ·rw [aheadL_tail e] at q
      exact (hi (aheadL_mem hlt' q)).elim
  ·rw [if_neg hs]
   have e : f ≠ i := fun e => hs (by rw [← e]; exact hS)
   have hfr : f ∈ r := by rcases List.mem_cons.1 hf with q | q; exact (e q).elim; exact q
   rw [ih hnd' hlt' hfr (fun j hj => by
    rcases List.mem_cons.1 (hin j hj) with q | q
    ·exact (hs (by rw [← q]; exact hj)).elim
    ·exact q), aheadL_tail e]
theorem last_none {S : Nat} : ∀ {r : List Nat}, (∀ k ∈ r, k < 64) → (∀ j, S.testBit j = true → j ∈ r) → (lastI (r.reverse.map Int.ofNat) S = -1 ↔ S = 0) := by
 intro r
 induction r with
 | nil =>
  intro _ hin
  refine ⟨fun _ => ?_, fun _ => rfl⟩
  apply Nat.eq_of_testBit_eq
  intro j
  cases e : S.testBit j with
  | false => simp
  | true => cases hin j e
 | cons i r ih =>
  intro hlt hin
  have hi64 := hlt i (List.mem_cons_self ..)
  have hlt' : ∀ a ∈ r, a < 64 := fun a ha => hlt a (List.mem_cons_of_mem _ ha)
  rw [List.reverse_cons, List.map_append, List.map_cons, List.map_nil, lastI_snoc, show Int.ofNat i = (i : Int) from rfl, hasB_nat hi64]
  by_cases hs : S.testBit i = true
  ·rw [if_pos hs]
   constructor
   ·intro q; exact absurd q (by omega)
   ·intro q; rw [q] at hs; simp at hs
  ·rw [if_neg hs]
   exact ih hlt' (fun j hj => by
    rcases List.mem_cons.1 (hin j hj) with q | q
    ·exact (hs (by rw [← q]; exact hj)).elim
    ·exact q)
theorem read_last (hc : checkI h = 0) {r : List Nat} (hnd : r.Nodup) (hlt : ∀ k ∈ r, k < 64) {k s : Nat} (hk : k < h.length) (hs : ∀ j, s.testBit j = true → j ∈ r) {x : Int × Int} (hx : x ∈ readsOf h k) (hfs : ∀ n : Nat, x.2 = (n : Int) → s.testBit n = true) :
  decide (lastI (r.reverse.map Int.ofNat) (s &&& wrtN h x.1) = x.2) = readP h (aheadL r) s x := by
 have h64 := (check_zero hc).1
 unfold readP readW
 rw [decide_eq_decide]
 have hsW : ∀ j, (s &&& wrtN h x.1).testBit j = true → j ∈ r := fun j hj => by rw [Nat.testBit_and, Bool.and_eq_true] at hj; exact hs j hj.1
 rcases read_from hc hk hx with e | ⟨n, hn, e, hne, hw⟩
 ·rw [e, if_neg (by omega)]
  exact last_none hlt hsW
 ·have hsn := hfs n e
  rw [e, if_pos (by omega), Int.toNat_natCast, last_is (by rw [Nat.testBit_and, hsn, hw]; rfl) hnd hlt (hs n hsn) hsW]
  generalize s &&& wrtN h x.1 = T at *
  constructor
  ·intro q
   unfold lackN
   apply Nat.eq_of_testBit_eq
   intro j
   rw [Nat.testBit_xor, Nat.testBit_and, testBit_withS, Int.toNat_natCast, Nat.zero_testBit]
   cases hj : T.testBit j with
   | false => simp
   | true =>
    rcases q j hj with q | q
    ·subst q
     have : decide (0 ≤ (j : Int) ∧ (j : Int) < 64) = true := by simp; omega
     rw [this]; simp
    ·rw [q]; simp
  ·intro q j hj
   have := congrArg (fun z => z.testBit j) q
   simp only [lackN] at this
   rw [Nat.testBit_xor, Nat.testBit_and, testBit_withS, Int.toNat_natCast, Nat.zero_testBit, hj] at this
   cases ha : (aheadL r n).testBit j with
   | true => exact .inr rfl
   | false =>
    rw [ha] at this
    have h2 : (decide (0 ≤ (n : Int) ∧ (n : Int) < 64) && decide (n = j)) = true := by simpa using this
    rw [Bool.and_eq_true, decide_eq_true_eq, decide_eq_true_eq] at h2
    exact .inl h2.2.symm
end
end

section
open Go.RowKit
theorem row_perm {n : Nat} (hn : n ≤ 64) {L : List Nat} (h : L.Perm (List.range n)) : rowOkA (n : Int) (L.map Int.ofNat) = true := by
 have hl : (L.map Int.ofNat).length = n := by rw [List.length_map, h.length_eq, List.length_range]
 unfold rowOkA
 rw [hl, decide_eq_true rfl, Bool.true_and, decide_eq_true_eq, setL_eq]
 refine set_ext (isSet_ofL _) ?_ fun i hi => ?_
 ·unfold belowS IsSet
  split
  ·omega
  ·split
   ·omega
   ·have := Nat.pow_lt_pow_right (a := 2) (by omega) (show (n : Int).toNat < 64 by omega)
    omega
 ·rw [testBit_ofL, decide_eq_true hi, Bool.true_and]
  have e1 : hasL (L.map Int.ofNat) (i : Int) = decide (i < n) := by
   unfold hasL
   rw [Bool.eq_iff_iff, List.any_eq_true, decide_eq_true_eq]
   constructor
   ·rintro ⟨a, ha, e⟩
    obtain ⟨k, hk, rfl⟩ := List.mem_map.1 ha
    have := List.mem_range.1 (h.mem_iff.1 hk)
    rw [beq_iff_eq] at e
    have : k = i := Int.ofNat.inj e
    omega
   ·intro hin
    exact ⟨(i : Int), List.mem_map.2 ⟨i, h.mem_iff.2 (List.mem_range.2 hin), rfl⟩, by simp⟩
  rw [e1]
  unfold belowS
  by_cases h0 : (n : Int) ≤ 0
  ·rw [if_pos h0, Nat.zero_testBit]
   exact decide_eq_false (by omega)
  ·rw [if_neg h0]
   by_cases h64 : 64 ≤ (n : Int)
   ·rw [if_pos h64]
    have : n = 64 := by omega
    subst this
    rw [show (18446744073709551615 : Nat) = 2 ^ 64 - 1 from rfl, Nat.testBit_two_pow_sub_one]
   ·rw [if_neg h64, Int.toNat_natCast, Nat.testBit_two_pow_sub_one]
theorem least_kept {h : List TxnV} {x : Nat} {l : List Int} {R : Mat} (hlt : x < 64) (hR : LeastIs h x l R) : lackN x (keptN h l R) = 0 := by
 have hx : x < 9223372036854775808 := by omega
 rw [lack_iff]
 intro k hb
 have hk6 : k < 6 := by
  apply Decidable.byContradiction
  intro hge
  have hp : (64 : Nat) ≤ 2 ^ k := by
   have := Nat.pow_le_pow_right (n := 2) (by omega) (show 6 ≤ k by omega)
   omega
  rw [Nat.testBit_lt_two_pow (by omega)] at hb
  cases hb
 rw [kept_bit h l R hk6, inM_iff]
 intro i j hi hj hm
 have h7 : k = 0 ∨ k = 1 ∨ k = 2 ∨ k = 3 ∨ k = 4 ∨ k = 5 := by omega
 rcases h7 with rfl | rfl | rfl | rfl | rfl | rfl
 ·exact least_base hx hR hi hj (.inr (.inl ⟨hb, hm⟩))
 ·obtain ⟨q, hq, a1, a2⟩ := (thenR_iff R R i j).1 hm
  exact (hR i j hi hj).2 (.trans (by rw [trB_bit _ hx]; exact hb) hq ((hR i q hi hq).1 a1) ((hR q j hq hj).1 a2))
 ·obtain ⟨q, hq, a1, a2⟩ := (thenR_iff _ R i j).1 hm
  exact (hR i j hi hj).2 (.pre (by rw [pfB_bit _ hx]; exact hb) hq a1 ((hR q j hq hj).1 a2))
 ·exact least_base hx hR hi hj (.inr (.inr (.inr (.inl ⟨hb, hm⟩))))
 ·exact least_base hx hR hi hj (.inr (.inr (.inr (.inr ⟨hb, hm⟩))))
 ·exact least_base hx hR hi hj (.inr (.inr (.inl ⟨hb, hm⟩)))
section
variable {h : List TxnV} {C : Nat}
theorem good_row (hc : checkI h = 0) {r : List Nat} (hnd : r.Nodup) (hlt : ∀ k ∈ r, k < h.length) (g : goodR h C r) : RowG h C r :=
 ⟨hnd, fun k hk => by have := hlt k hk; have := (check_zero hc).1; omega, fun k hk => (g k hk).1⟩
theorem sees_col {r : List Nat} {k : Nat} (hk : k < 64) : seeTo (seesR h C r) (k : Int) 64 = plSee h C r k := by
 refine set_ext (seeTo_set _ _ _) (plSee_set h C r k) fun j hj => ?_
 rw [seeTo_bit _ _ _ _ (Nat.le_refl 64), decide_eq_true hj, Bool.true_and, hasR_nat _ _ _ hj hk]; rfl
theorem seeTo_congr {R S : Mat} (h : ∀ i j, i < 64 → j < 64 → R i j = S i j) {k : Nat} (hk : k < 64) : seeTo R (k : Int) 64 = seeTo S (k : Int) 64 := by
 refine set_ext (seeTo_set _ _ _) (seeTo_set _ _ _) fun j hj => ?_
 rw [seeTo_bit _ _ _ _ (Nat.le_refl 64), seeTo_bit _ _ _ _ (Nat.le_refl 64), hasR_nat _ _ _ hj hk, hasR_nat _ _ _ hj hk, h j k hj hk]
theorem good_right (hc : checkI h = 0) {r : List Nat} (g : RowG h C r) (hC : C < 9223372036854775808) (hlt : ∀ k ∈ r, k < h.length) {k : Nat} (hk : k ∈ r) :
  (readsOf h k).all (readOk h (r.reverse.map Int.ofNat) (seesR h C r) k) = readsP h (aheadL r) (plSee h C r k) k := by
 unfold readsP
 have hkn := hlt k hk
 have h64 := (check_zero hc).1
 refine all_congr _ fun x hx => ?_
 unfold readOk
 rw [sees_col (by omega)]
 refine read_last hc g.nd g.lt hkn (fun j hj => aheadL_mem g.lt (sees_ahead g.lt g.nd g.base hj)) hx fun n e => ?_
 rw [sees_fix g k hk]
 refine wld4_base ?_
 rcases read_from hc hkn hx with q | ⟨m, hm, q, _, _⟩
 ·rw [e] at q; omega
 ·have : n = m := by rw [e] at q; exact Int.ofNat.inj q
  subst this
  exact from_base hC h64 hkn hm hx q
theorem good_holds (hc : checkI h = 0) {lv : Int} (hlv : isLv lv = true) {r : List Nat} (hp : r.reverse.Perm (List.range h.length)) {R : Mat} (hR : LeastIs h (askN lv) (r.reverse.map Int.ofNat) R) :
  (holdsB h lv (r.reverse.map Int.ofNat) R = true ↔ soundTo h h.length = true ∧ goodR h (clI ((askN lv : Nat) : Int)) r) ∧
  (holdsB h lv (r.reverse.map Int.ofNat) R = true → ∀ j k, j < 64 → k < 64 → R j k = (plSee h (clI ((askN lv : Nat) : Int)) r k).testBit j) := by
 have h64 := (check_zero hc).1
 have hnd : r.Nodup := by
  have := (List.Perm.nodup_iff hp).2 List.nodup_range
  exact (List.reverse_perm r).nodup_iff.1 this
 have hmem : ∀ k, k ∈ r ↔ k < h.length := fun k => by rw [← List.mem_reverse, hp.mem_iff, List.mem_range]
 have hlt : ∀ k ∈ r, k < h.length := fun k hk => (hmem k).1 hk
 have hlt64 : ∀ k ∈ r, k < 64 := fun k hk => by have := hlt k hk; omega
 have hx := askN_lt lv
 have hx' : askN lv < 9223372036854775808 := by omega
 have hy : clI ((askN lv : Nat) : Int) < 9223372036854775808 := by have := clI_lt ((askN lv : Nat) : Int); omega
 obtain ⟨b0, b1, b2, b3, b4, b5⟩ := clI_bits (askN lv)
 generalize hCe : clI ((askN lv : Nat) : Int) = C at *
 have hNL : (r.reverse.map Int.ofNat).Nodup := nodup_ofNat ((List.reverse_perm r).nodup_iff.2 hnd)
 have hrow : rowOkA (h.length : Int) (r.reverse.map Int.ofNat) = true := row_perm h64 hp
 -- of a good row
 have K : RowG h C r → inM R (chainR (r.reverse.map Int.ofNat)) = true → ∀ j k, j < 64 → k < 64 → R j k = (plSee h C r k).testBit j := by
  intro g hin
  have hS : LeastIs h (clI ((askN lv : Nat) : Int)) (r.reverse.map Int.ofNat) (seesR h C r) := by rw [hCe]; exact sees_least g hy (fun k hk => (hmem k).2 hk)
  exact rowsA_inj (least_closed hc hNL hx' hR hS hin)
 have G : holdsB h lv (r.reverse.map Int.ofNat) R = true → RowG h C r := by
  intro hh
  unfold holdsB at hh
  simp only [Bool.and_eq_true] at hh
  obtain ⟨_, _, hr, _⟩ := hh
  unfold rightM at hr
  simp only [Bool.and_eq_true] at hr
  have hin := (inM_iff _ _).1 hr.2.1
  refine ⟨hnd, hlt64, fun k hk j hj => ?_⟩
  have hk64 := hlt64 k hk
  obtain ⟨hj64, hb⟩ := (baseN_bit hk64).1 hj
  rw [← ahead_chain hnd hlt64]
  refine hin j k hj64 hk64 ?_
  rw [baseM_iff h C hy] at hb
  rcases hb with hb | ⟨c0, hb⟩ | ⟨c5, hb⟩
  ·exact least_base hx' hR hj64 hk64 (.inl hb)
  ·rw [b0, Bool.or_eq_true] at c0
   rcases c0 with c0 | c0
   ·exact least_base hx' hR hj64 hk64 (.inr (.inl ⟨c0, hb⟩))
   ·exact least_base hx' hR hj64 hk64 (.inr (.inr (.inl ⟨c0, (inM_iff _ _).1 (ses_in_tim hc) j k hj64 hk64 hb⟩)))
  ·rw [b5] at c5
   exact least_base hx' hR hj64 hk64 (.inr (.inr (.inl ⟨c5, hb⟩)))
 have RT : RowG h C r → (∀ j k, j < 64 → k < 64 → R j k = (plSee h C r k).testBit j) → (rightTo h (r.reverse.map Int.ofNat) R h.length = true ↔ ∀ k ∈ r, readsP h (aheadL r) (plSee h C r k) k = true) := by
  intro g e
  have e2 : ∀ k ∈ r, (readsOf h k).all (readOk h (r.reverse.map Int.ofNat) R k) = readsP h (aheadL r) (plSee h C r k) k := by
   intro k hk
   rw [← good_right hc g hy hlt hk]
   refine all_congr _ fun x _ => ?_
   unfold readOk
   rw [seeTo_congr (R := R) (S := seesR h C r) e (hlt64 k hk)]
  unfold rightTo
  rw [List.all_eq_true]
  constructor
  ·intro q k hk
   rw [← e2 k hk]
   exact q k (List.mem_range.2 (hlt k hk))
  ·intro q k hk
   have hk := (hmem k).2 (List.mem_range.1 hk)
   rw [e2 k hk]
   exact q k hk
 have HH : holdsB h lv (r.reverse.map Int.ofNat) R = true → inM R (chainR (r.reverse.map Int.ofNat)) = true := by
  intro hh
  unfold holdsB rightM at hh
  simp only [Bool.and_eq_true] at hh
  exact hh.2.2.1.2.1
 refine ⟨⟨fun hh => ?_, fun ⟨hs, hg⟩ => ?_⟩, fun hh => K (G hh) (HH hh)⟩
 ·have g := G hh
  have e := K g (HH hh)
  have hh2 := hh
  unfold holdsB rightM at hh2
  simp only [Bool.and_eq_true] at hh2
  refine ⟨hh2.2.1, fun k hk => ⟨g.base k hk, (RT g e).1 hh2.2.2.1.2.2 k hk⟩⟩
 ·have g := good_row hc hnd hlt hg
  have hS := sees_least g hy (fun k hk => (hmem k).2 hk)
  have hin : inM R (chainR (r.reverse.map Int.ofNat)) = true := by
   refine inM_trans (least_mono (y := C) hx' hy (fun k hk => ?_) hR hS) ?_
   ·have hk6 : k < 6 := by
     apply Decidable.byContradiction
     intro hge
     have hp : (64 : Nat) ≤ 2 ^ k := by
      have := Nat.pow_le_pow_right (n := 2) (by omega) (show 6 ≤ k by omega)
      omega
     rw [Nat.testBit_lt_two_pow (by omega)] at hk
     cases hk
    have h7 : k = 0 ∨ k = 1 ∨ k = 2 ∨ k = 3 ∨ k = 4 ∨ k = 5 := by omega
    rcases h7 with rfl | rfl | rfl | rfl | rfl | rfl
    ·rw [b0, hk]; rfl
    ·rw [b1, hk]; rfl
    ·rw [b2, hk]; rfl
    ·rw [b3, hk]; rfl
    ·rw [b4, hk]
    ·rw [b5, hk]
   ·rw [inM_iff]
    intro j k _ _ hs
    rw [ahead_chain hnd hlt64]
    exact sees_ahead g.lt g.nd g.base hs
  have e := K g hin
  unfold holdsB rightM
  rw [hlv, hs, hrow, hin, (RT g e).2 fun k hk => (hg k hk).2, least_kept hx hR]; rfl
end
end

section
open Go.RowKit
def wAllN (h : List TxnV) : Nat := mkS fun j => decide (j < h.length) && !(keysOf (opsAt h j)).isEmpty
theorem wAll_bit {h : List TxnV} {j : Nat} : (wAllN h).testBit j = true ↔ j < 64 ∧ j < h.length ∧ keysOf (opsAt h j) ≠ [] := by
 unfold wAllN
 rw [testBit_mkS]
 simp
theorem wrt_all {h : List TxnV} {y : Int} {j : Nat} (hj : (wrtN h y).testBit j = true) : (wAllN h).testBit j = true := by
 unfold wrtN at hj
 rw [testBit_mkS] at hj
 simp only [Bool.and_eq_true, decide_eq_true_eq] at hj
 exact wAll_bit.2 ⟨hj.1, hj.2.1, fun e => by rw [e] at hj; cases hj.2.2⟩
theorem riv_all {h : List TxnV} (hc : checkI h = 0) {i k : Nat} (hr : (rivN h i).testBit k = true) : (wAllN h).testBit i = true ∧ (wAllN h).testBit k = true := by
 have h64 := (check_zero hc).1
 obtain ⟨hk, hr⟩ := rivN_bit.1 hr
 unfold rivB rivR at hr
 simp only [Bool.and_eq_true, decide_eq_true_eq, List.any_eq_true, List.mem_range] at hr
 obtain ⟨hi, hk2, _, n, _, h1, h2⟩ := hr
 have a1 := (keysOf_iff hc hi (n : Int)).2 h1
 have a2 := (keysOf_iff hc hk2 (n : Int)).2 h2
 exact ⟨wAll_bit.2 ⟨by omega, hi, fun e => by rw [e] at a1; cases a1⟩, wAll_bit.2 ⟨hk, hk2, fun e => by rw [e] at a2; cases a2⟩⟩
structure Sim (h : List TxnV) (C : Nat) (r s : List Nat) : Prop where
 mem : ∀ j, j ∈ r ↔ j ∈ s
 wr : ∀ k j, (wAllN h).testBit k = true → (wAllN h).testBit j = true → ((aheadL r k).testBit j = true ↔ (aheadL s k).testBit j = true)
 pf : C.testBit 2 = true → C.testBit 4 = false → ∀ k j, (wAllN h).testBit j = true → ((aheadL r k).testBit j = true ↔ (aheadL s k).testBit j = true)
section
variable {h : List TxnV} {C : Nat} {r s : List Nat}
theorem Sim.all (q : Sim h C r s) (hr : ∀ k ∈ r, k < 64) : plS r = plS s := by
 apply Nat.eq_of_testBit_eq
 intro j
 rw [plS_bit j r hr, plS_bit j s (fun k hk => hr k ((q.mem k).2 hk)), Bool.eq_iff_iff, decide_eq_true_eq, decide_eq_true_eq]
 exact q.mem j
theorem Sim.cons (q : Sim h C r s) (hr : ∀ k ∈ r, k < 64) (i : Nat) : Sim h C (i :: r) (i :: s) := by
 have e := q.all hr
 refine ⟨fun j => by rw [List.mem_cons, List.mem_cons, q.mem], fun k j a b => ?_, fun a b k j c => ?_⟩
 ·unfold aheadL; split
  ·rw [e]
  ·exact q.wr k j a b
 ·unfold aheadL; split
  ·rw [e]
  ·exact q.pf a b k j c
theorem wld2_bit {b pl rv j : Nat} (h4 : C.testBit 4 = false) : (wld2 b pl rv C).testBit j = true ↔ b.testBit j = true ∨ (C.testBit 3 = true ∧ rv.testBit j = true ∧ pl.testBit j = true) := by
 have e1 : wld1 b pl C = b := by unfold wld1; rw [h4]; rfl
 unfold wld2
 rw [e1]
 cases C.testBit 3 with
 | false => simp
 | true => simp [Nat.testBit_or, Nat.testBit_and]
theorem RowG.hin (g : RowG h C r) : ∀ k j, (plSee h C r k).testBit j = true → (aheadL r k).testBit j = true := fun _ _ hj => sees_ahead g.lt g.nd g.base hj
theorem Sim.sees (hc : checkI h = 0) (q : Sim h C r s) (g : RowG h C r) (g' : RowG h C s) (h4 : C.testBit 4 = false) (h2 : C.testBit 2 = false) : ∀ (t p : List Nat), p ++ t = r → ∀ k ∈ t, plSee h C r k = plSee h C s k
 | [], _, _, _, hk => by cases hk
 | i :: t, p, e, k, hk => by
  have ih := Sim.sees hc q g g' h4 h2 t (p ++ [i]) (by rw [List.append_assoc]; exact e)
  rcases List.mem_cons.1 hk with rfl | hk
  ·have hkr : k ∈ r := by rw [← e]; simp
   have hks := (q.mem k).1 hkr
   have hnd : (p ++ k :: t).Nodup := by rw [e]; exact g.nd
   have hat : aheadL r k = plS t := by
    rw [← e, aheadL_drop hnd (List.mem_cons_self ..)]; unfold aheadL; rw [if_pos rfl]
   have ht64 : ∀ a ∈ t, a < 64 := fun a ha => g.lt a (by rw [← e]; simp [ha])
   rw [sees_fix g k hkr, sees_fix g' k hks]
   have e2 : wld2 (baseN h C k) (aheadL r k) (rivN h k) C = wld2 (baseN h C k) (aheadL s k) (rivN h k) C := by
    apply Nat.eq_of_testBit_eq
    intro j
    rw [Bool.eq_iff_iff, wld2_bit h4, wld2_bit h4]
    refine or_congr Iff.rfl (and_congr_right fun _ => and_congr_right fun hr => ?_)
    obtain ⟨a, b⟩ := riv_all hc hr
    exact q.wr k j a b
   have e3 : wld3 (baseN h C k) (aheadL r k) (rivN h k) C (plSee h C r) = wld3 (baseN h C k) (aheadL s k) (rivN h k) C (plSee h C s) := by
    unfold wld3
    rw [← e2, joinN_congr (F := plSee h C r) (G := plSee h C s) fun m _ hm => ih m ?_]
    have := wld2_in (g.base k hkr) hm
    rw [hat] at this
    exact plS_mem ht64 this
   unfold wld4
   rw [if_neg (by rw [h2]; simp), if_neg (by rw [h2]; simp)]
   exact e3
  ·exact ih k hk
theorem nextN_in (g : RowG h C r) {i : Nat} (hb : ∀ j, (baseN h C i).testBit j = true → (plS r).testBit j = true) {j : Nat} (hj : (nextN h C r i).testBit j = true) : (plS r).testBit j = true :=
 wld4_in hb (fun k j _ hj => ahead_in g.lt (g.hin k j hj)) (fun _ _ _ hj => ahead_in g.lt hj) hj
theorem next_prefix (g : RowG h C r) (h2 : C.testBit 2 = true) (i j : Nat) : (nextN h C r i).testBit j = true ↔
  (wld2 (baseN h C i) (plS r) (rivN h i) C).testBit j = true ∨ ∃ m, (wld2 (baseN h C i) (plS r) (rivN h i) C).testBit m = true ∧ m < 64 ∧ (aheadL r m).testBit j = true := by
 unfold nextN
 constructor
 ·intro hj
  have h3 : ∀ x, (wld3 (baseN h C i) (plS r) (rivN h i) C (plSee h C r)).testBit x = true → (wld2 (baseN h C i) (plS r) (rivN h i) C).testBit x = true ∨ ∃ m, (wld2 (baseN h C i) (plS r) (rivN h i) C).testBit m = true ∧ m < 64 ∧ (aheadL r m).testBit x = true := by
   intro x hx
   unfold wld3 at hx
   split at hx
   ·rw [Nat.testBit_or, Bool.or_eq_true, joinN_iff] at hx
    rcases hx with hx | ⟨m, hm, a, b⟩
    ·exact .inl hx
    ·exact .inr ⟨m, a, hm, g.hin m x b⟩
   ·exact .inl hx
  unfold wld4 at hj
  rw [if_pos h2, Nat.testBit_or, Bool.or_eq_true, joinN_iff] at hj
  rcases hj with hj | ⟨m, hm, a, b⟩
  ·exact h3 j hj
  ·rcases h3 m a with q | ⟨m2, q, hm2, q2⟩
   ·exact .inr ⟨m, q, hm, b⟩
   ·exact .inr ⟨m2, q, hm2, aheadL_trans g.nd g.lt q2 b⟩
 ·rintro (hj | ⟨m, a, hm, b⟩)
  ·exact wld4_up (wld3_up hj)
  ·unfold wld4
   rw [if_pos h2, Nat.testBit_or, Bool.or_eq_true, joinN_iff]
   exact .inr ⟨m, hm, wld3_up a, b⟩
theorem Sim.next (hc : checkI h = 0) (q : Sim h C r s) (g : RowG h C r) (g' : RowG h C s) {i : Nat} (hb : ∀ j, (baseN h C i).testBit j = true → (plS r).testBit j = true) {j : Nat} (hj : (wAllN h).testBit j = true) :
  (nextN h C r i).testBit j = true ↔ (nextN h C s i).testBit j = true := by
 have e := q.all g.lt
 cases h4 : C.testBit 4 with
 | true => exact ⟨fun a => wld4_all h4 (by rw [← e]; exact nextN_in g hb a), fun a => wld4_all h4 (by rw [e]; exact nextN_in g' (by rw [← e]; exact hb) a)⟩
 | false =>
  cases h2 : C.testBit 2 with
  | true =>
   rw [next_prefix g h2, next_prefix g' h2, ← e]
   exact or_congr Iff.rfl ⟨fun ⟨m, a, b, c⟩ => ⟨m, a, b, (q.pf h2 h4 m j hj).1 c⟩, fun ⟨m, a, b, c⟩ => ⟨m, a, b, (q.pf h2 h4 m j hj).2 c⟩⟩
  | false =>
   have hs := Sim.sees hc q g g' h4 h2 r [] rfl
   have e3 : wld3 (baseN h C i) (plS r) (rivN h i) C (plSee h C r) = wld3 (baseN h C i) (plS r) (rivN h i) C (plSee h C s) := by
    unfold wld3
    rw [joinN_congr (F := plSee h C r) (G := plSee h C s) fun m _ hm => hs m (plS_mem g.lt (wld2_in hb hm))]
   unfold nextN wld4
   rw [h2, ← e, e3]
   simp only [Bool.false_eq_true, if_false]
theorem lack_bits (a b : Nat) : decide (lackN a b = 0) = true ↔ ∀ k, a.testBit k = true → b.testBit k = true := by rw [decide_eq_true_eq, lack_iff]
theorem Sim.try (hc : checkI h = 0) (q : Sim h C r s) (g : RowG h C r) (g' : RowG h C s) (i : Nat) : tryP h C r i = tryP h C s i := by
 have e := q.all g.lt
 have h64 := (check_zero hc).1
 unfold tryP
 by_cases hi : i < h.length
 ·rw [decide_eq_true hi, Bool.true_and, Bool.true_and, show decide (i ∈ r) = decide (i ∈ s) by simp only [q.mem i], ← e]
  congr 1
  cases hbb : inB (baseN h C i) (plS r) with
  | false => rfl
  | true =>
   have hb := (inB_bits (baseN_set h C i)).1 hbb
   rw [Bool.true_and, Bool.true_and]
   unfold readsP
   refine all_congr _ fun x hx => ?_
   have hrf := read_from hc hi hx
   unfold readP readW
   by_cases h0 : 0 ≤ x.2
   ·rw [if_pos h0, if_pos h0, Bool.eq_iff_iff, lack_bits, lack_bits]
    rcases hrf with hrf | ⟨n, hn, hx2, hni, hw⟩
    ·omega
    have hWn := wrt_all hw
    rw [hx2, Int.toNat_natCast]
    have side : ∀ (a b : List Nat), (∀ k, (wAllN h).testBit k = true → ((nextN h C a i).testBit k = true → (nextN h C b i).testBit k = true)) → (∀ k, (wAllN h).testBit k = true → ((aheadL b n).testBit k = true → (aheadL a n).testBit k = true)) →
      (∀ k, (nextN h C b i &&& wrtN h x.1).testBit k = true → (withS (aheadL b n) (n : Int)).testBit k = true) → (∀ k, (nextN h C a i &&& wrtN h x.1).testBit k = true → (withS (aheadL a n) (n : Int)).testBit k = true) := by
     intro a b hab hba hB k hk
     rw [Nat.testBit_and, Bool.and_eq_true] at hk
     have hW := wrt_all hk.2
     have := hB k (by rw [Nat.testBit_and, Bool.and_eq_true]; exact ⟨hab k hW hk.1, hk.2⟩)
     rw [testBit_withS] at this ⊢
     simp only [Bool.or_eq_true] at this ⊢
     exact this.imp (hba k hW) id
    exact ⟨side s r (fun k hk a => (q.next hc g g' hb hk).2 a) (fun k hk a => (q.wr n k hWn hk).1 a), side r s (fun k hk a => (q.next hc g g' hb hk).1 a) (fun k hk a => (q.wr n k hWn hk).2 a)⟩
   ·rw [if_neg h0, if_neg h0, Bool.eq_iff_iff, decide_eq_true_eq, decide_eq_true_eq]
    have side : ∀ (a b : List Nat), (∀ k, (wAllN h).testBit k = true → ((nextN h C a i).testBit k = true → (nextN h C b i).testBit k = true)) → nextN h C b i &&& wrtN h x.1 = 0 → nextN h C a i &&& wrtN h x.1 = 0 := by
     intro a b hab hB
     apply Nat.eq_of_testBit_eq
     intro k
     rw [Nat.zero_testBit, Nat.testBit_and]
     cases hw : (wrtN h x.1).testBit k with
     | false => rw [Bool.and_false]
     | true =>
      cases hn : (nextN h C a i).testBit k with
      | false => rfl
      | true =>
       have : (nextN h C b i &&& wrtN h x.1).testBit k = true := by rw [Nat.testBit_and, hab k (wrt_all hw) hn, hw]; rfl
       rw [hB, Nat.zero_testBit] at this; cases this
    exact ⟨side s r (fun k hk a => (q.next hc g g' hb hk).2 a), side r s (fun k hk a => (q.next hc g g' hb hk).1 a)⟩
 ·rw [decide_eq_false hi]; rfl
end
end

section
open Go.RowKit
def wrOf (h : List TxnV) (r : List Nat) : List Nat := r.filter fun i => (wAllN h).testBit i
def aheadC (h : List TxnV) : List Nat → Nat → Nat
 | [], _ => 0
 | i :: r, k => if k = i then (wrOf h r).length else aheadC h r k
def reachB (C : Nat) : Bool := C.testBit 2 && !C.testBit 4
def keyL (h : List TxnV) (C : Nat) (r : List Nat) : List Nat := (wrOf h r).reverse ++ if reachB C then (lst (lackN (plS r) (wAllN h))).map (aheadC h r) else []
def byteB (l : List Nat) : ByteArray := ⟨(l.map fun n => UInt8.ofNat n).toArray⟩
def keyB (h : List TxnV) (C : Nat) (r : List Nat) : ByteArray := byteB (keyL h C r)
theorem byteB_inj : ∀ {l m : List Nat}, (∀ n ∈ l, n < 256) → (∀ n ∈ m, n < 256) → byteB l = byteB m → l = m := by
 intro l m hl hm e
 have e2 : (l.map fun n => UInt8.ofNat n) = m.map fun n => UInt8.ofNat n := by
  unfold byteB at e
  injection e with e
  injection e
 clear e
 induction l generalizing m with
 | nil => cases m with
  | nil => rfl
  | cons b m => cases e2
 | cons a l ih =>
  cases m with
  | nil => cases e2
  | cons b m =>
   rw [List.map_cons, List.map_cons] at e2
   injection e2 with h1 h2
   have ha := hl a (List.mem_cons_self ..)
   have hb := hm b (List.mem_cons_self ..)
   have h3 := congrArg UInt8.toNat h1
   rw [UInt8.toNat_ofNat', UInt8.toNat_ofNat', Nat.mod_eq_of_lt ha, Nat.mod_eq_of_lt hb] at h3
   rw [h3, ih (fun n hn => hl n (List.mem_cons_of_mem _ hn)) (fun n hn => hm n (List.mem_cons_of_mem _ hn)) h2]
section
variable {h : List TxnV} {C : Nat} {r s : List Nat}
theorem wrOf_cons (i : Nat) (r : List Nat) : wrOf h (i :: r) = if (wAllN h).testBit i then i :: wrOf h r else wrOf h r := by
 unfold wrOf; rw [List.filter_cons]
theorem mem_wrOf {j : Nat} : j ∈ wrOf h r ↔ j ∈ r ∧ (wAllN h).testBit j = true := by unfold wrOf; rw [List.mem_filter]
theorem wrOf_le : (wrOf h r).length ≤ r.length := List.length_filter_le _ _
theorem aheadC_le : ∀ (r : List Nat) (k : Nat), aheadC h r k ≤ r.length
 | [], _ => by unfold aheadC; omega
 | i :: r, k => by
  unfold aheadC
  have h1 := wrOf_le (h := h) (r := r)
  have h2 := aheadC_le r k
  split <;> (simp only [List.length_cons]; omega)
theorem ahead_wr : ∀ (r : List Nat), (∀ k ∈ r, k < 64) → ∀ (k j : Nat), (wAllN h).testBit k = true → (wAllN h).testBit j = true → ((aheadL r k).testBit j = true ↔ (aheadL (wrOf h r) k).testBit j = true)
 | [], _, k, j, _, _ => by unfold wrOf; rfl
 | i :: r, hlt, k, j, hk, hj => by
  have hlt' : ∀ a ∈ r, a < 64 := fun a ha => hlt a (List.mem_cons_of_mem _ ha)
  have ih := ahead_wr r hlt' k j hk hj
  rw [wrOf_cons]
  by_cases e : k = i
  ·subst e
   rw [if_pos hk]
   unfold aheadL
   rw [if_pos rfl, if_pos rfl, plS_bit j r hlt', plS_bit j (wrOf h r) (fun a ha => hlt' a (mem_wrOf.1 ha).1), decide_eq_true_eq, decide_eq_true_eq, mem_wrOf]
   exact ⟨fun q => ⟨q, hj⟩, And.left⟩
  ·have e1 : aheadL (i :: r) k = aheadL r k := by rw [aheadL]; exact if_neg e
   rw [e1]
   split
   ·have e2 : aheadL (i :: wrOf h r) k = aheadL (wrOf h r) k := by rw [aheadL]; exact if_neg e
    rw [e2]; exact ih
   ·exact ih
theorem ahead_suf : ∀ (r : List Nat), r.Nodup → ∀ k ∈ r, ∃ q, aheadL r k = plS q ∧ (∀ a ∈ q, a ∈ r) ∧ wrOf h q <:+ wrOf h r ∧ (wrOf h q).length = aheadC h r k
 | [], _, k, hk => by cases hk
 | i :: r, hnd, k, hk => by
  obtain ⟨hi, hnd'⟩ := List.nodup_cons.1 hnd
  have hsuf : wrOf h r <:+ wrOf h (i :: r) := by
   rw [wrOf_cons]; split
   ·exact List.suffix_cons ..
   ·exact List.suffix_refl _
  by_cases e : k = i
  ·refine ⟨r, ?_, fun a ha => List.mem_cons_of_mem _ ha, hsuf, ?_⟩
   ·rw [aheadL]; exact if_pos e
   ·rw [aheadC]; exact (if_pos e).symm
  ·obtain ⟨q, h1, h2, h3, h4⟩ := ahead_suf r hnd' k ((List.mem_cons.1 hk).resolve_left e)
   refine ⟨q, ?_, fun a ha => List.mem_cons_of_mem _ (h2 a ha), h3.trans hsuf, ?_⟩
   ·rw [aheadL]; exact (if_neg e).trans h1
   ·rw [aheadC]; exact h4.trans (if_neg e).symm
theorem ahead_none : ∀ (r : List Nat) (k : Nat), k ∉ r → aheadL r k = 0
 | [], _, _ => rfl
 | i :: r, k, hk => by
  rw [aheadL]
  rw [if_neg (fun e => hk (by rw [e]; exact List.mem_cons_self ..))]
  exact ahead_none r k fun q => hk (List.mem_cons_of_mem _ q)
theorem mem_of_plS (hr : ∀ k ∈ r, k < 64) (hs : ∀ k ∈ s, k < 64) (hp : plS r = plS s) (j : Nat) : j ∈ r ↔ j ∈ s := by
 have h1 := plS_bit j r hr
 have h2 := plS_bit j s hs
 rw [hp, h2] at h1
 simp only [decide_eq_decide] at h1
 exact h1.symm
theorem keyL_lt (hr : ∀ k ∈ r, k < 64) (hl : r.length ≤ 64) : ∀ n ∈ keyL h C r, n < 256 := by
 intro n hn
 unfold keyL at hn
 rcases List.mem_append.1 hn with hn | hn
 ·have := hr n (mem_wrOf.1 (List.mem_reverse.1 hn)).1; omega
 ·split at hn
  ·obtain ⟨k, _, rfl⟩ := List.mem_map.1 hn
   have := aheadC_le (h := h) r k; omega
  ·cases hn
theorem wrOf_perm (hr : r.Nodup) (hs : s.Nodup) (hm : ∀ j, j ∈ r ↔ j ∈ s) : (wrOf h r).length = (wrOf h s).length :=
 (((List.perm_ext_iff_of_nodup hr hs).2 hm).filter _).length_eq
theorem sim_of_key (hr : ∀ k ∈ r, k < 64) (hs : ∀ k ∈ s, k < 64) (hlr : r.length ≤ 64) (hls : s.length ≤ 64) (nr : r.Nodup) (ns : s.Nodup) (hp : plS r = plS s) (hk : keyB h C r = keyB h C s) : Sim h C r s := by
 have hm := mem_of_plS hr hs hp
 have hk := byteB_inj (keyL_lt hr hlr) (keyL_lt hs hls) hk
 unfold keyL at hk
 rw [hp] at hk
 obtain ⟨e1, e2⟩ := List.append_inj hk (by rw [List.length_reverse, List.length_reverse]; exact wrOf_perm nr ns hm)
 have e1 : wrOf h r = wrOf h s := List.reverse_inj.1 e1
 have hw : ∀ k j, (wAllN h).testBit k = true → (wAllN h).testBit j = true → ((aheadL r k).testBit j = true ↔ (aheadL s k).testBit j = true) := fun k j a b => by
  rw [ahead_wr r hr k j a b, ahead_wr s hs k j a b, e1]
 refine ⟨hm, hw, fun h2 h4 k j hj => ?_⟩
 cases hkw : (wAllN h).testBit k with
 | true => exact hw k j hkw hj
 | false =>
  by_cases hkr : k ∈ r
  ·have hks := (hm k).1 hkr
   have hpf : reachB C = true := by unfold reachB; rw [h2, h4]; rfl
   rw [if_pos hpf, if_pos hpf] at e2
   have hkl : k ∈ lst (lackN (plS s) (wAllN h)) := by
    refine mem_lst.2 ⟨hr k hkr, ?_⟩
    unfold lackN
    rw [Nat.testBit_xor, Nat.testBit_and, hkw, Bool.and_false, Bool.xor_false, plS_bit k s hs, decide_eq_true_eq]
    exact hks
   have e3 : aheadC h r k = aheadC h s k := (List.map_inj_left.1 e2) k hkl
   obtain ⟨q, a1, a2, a3, a4⟩ := ahead_suf (h := h) r nr k hkr
   obtain ⟨u, b1, b2, b3, b4⟩ := ahead_suf (h := h) s ns k hks
   rw [← e1] at b3
   have hqu : wrOf h q = wrOf h u := (List.suffix_of_suffix_length_le a3 b3 (by omega)).eq_of_length (by omega)
   rw [a1, b1, plS_bit j q (fun a ha => hr a (a2 a ha)), plS_bit j u (fun a ha => hs a (b2 a ha)), decide_eq_true_eq, decide_eq_true_eq]
   have h1 := mem_wrOf (h := h) (r := q) (j := j)
   have h2 := mem_wrOf (h := h) (r := u) (j := j)
   rw [hqu] at h1
   exact ⟨fun x => (h2.1 (h1.2 ⟨x, hj⟩)).1, fun x => (h1.1 (h2.2 ⟨x, hj⟩)).1⟩
  ·rw [ahead_none r k hkr, ahead_none s k (fun q => hkr ((hm k).2 q))]
end
end

section
def exts (many : Nat) : Nat → List Nat → List (List Nat)
 | 0, r => [r]
 | k + 1, r => (List.range many).flatMap fun i => if i ∈ r then [] else exts many k (r ++ [i])
def extsTo (many k : Nat) (r : List Nat) (j : Nat) : List (List Nat) := (List.range j).flatMap fun i => if i ∈ r then [] else exts many k (r ++ [i])
theorem extsTo_succ (many k : Nat) (r : List Nat) (j : Nat) : extsTo many k r (j + 1) = extsTo many k r j ++ if j ∈ r then [] else exts many k (r ++ [j]) := by
 unfold extsTo; rw [List.range_succ, List.flatMap_append]; simp
theorem extsTo_zero (many k : Nat) (r : List Nat) : extsTo many k r 0 = [] := rfl
theorem exts_all (many k : Nat) (r : List Nat) : exts many (k + 1) r = extsTo many k r many := rfl
theorem mem_exts {many : Nat} : ∀ {k : Nat} {r x : List Nat}, x ∈ exts many k r → (r.Nodup → x.Nodup) ∧ ((∀ i ∈ r, i < many) → ∀ i ∈ x, i < many) ∧ x.length = r.length + k ∧ r <+: x
 | 0, r, x, h => by
  obtain rfl : x = r := by simpa [exts] using h
  exact ⟨id, id, rfl, List.prefix_rfl⟩
 | k + 1, r, x, h => by
  simp only [exts, List.mem_flatMap, List.mem_range] at h
  obtain ⟨i, hi, hx⟩ := h
  split at hx
  ·cases hx
  ·next hn =>
   obtain ⟨a, b, c, d⟩ := mem_exts hx
   refine ⟨fun hr => a (by rw [List.nodup_append]; refine ⟨hr, by simp, fun u hu v hv e => ?_⟩; simp at hv; subst hv; subst e; exact hn hu), fun hr => b fun u hu => ?_, ?_, (List.prefix_append _ _).trans d⟩
   ·rcases List.mem_append.1 hu with hu | hu
    ·exact hr u hu
    ·simp at hu; omega
   ·rw [c, List.length_append, List.length_singleton]; omega
def ordersN (n : Nat) : List (List Nat) := exts n n []
def cntL (p : List Nat → Bool) : Nat → List Nat → List Nat → Nat
 | 0, r, _ => if p r then 1 else 0
 | k + 1, r, left => (left.map fun x => cntL p k (r ++ [x]) (left.filter (· != x))).sum
def restN (many : Nat) (r : List Nat) : List Nat := (List.range many).filter fun i => decide (i ∉ r)
theorem rest_next (many : Nat) (r : List Nat) (x : Nat) : (restN many r).filter (· != x) = restN many (r ++ [x]) := by
 unfold restN
 rw [List.filter_filter]
 refine List.filter_congr fun i _ => ?_
 rw [Bool.eq_iff_iff]
 simp
 exact And.comm
theorem cntL_exts (many : Nat) (p : List Nat → Bool) : ∀ (k : Nat) (r : List Nat), cntL p k r (restN many r) = (exts many k r).countP p
 | 0, r => by simp [cntL, exts, List.countP_singleton]
 | k + 1, r => by
  simp only [cntL, exts]
  have key : ∀ l : List Nat, ((l.filter fun i => decide (i ∉ r)).map fun x => cntL p k (r ++ [x]) ((restN many r).filter (· != x))).sum = (l.flatMap fun i => if i ∈ r then [] else exts many k (r ++ [i])).countP p := by
   intro l
   induction l with
   | nil => rfl
   | cons i l ih =>
    rw [List.flatMap_cons, List.countP_append, ← ih, List.filter_cons]
    by_cases h : i ∈ r
    ·simp [h]
    ·rw [if_pos (by simpa using h), if_neg h, List.map_cons, List.sum_cons, rest_next, cntL_exts many p k (r ++ [i])]
  exact key (List.range many)
end

section
open Go.RowKit
instance memDec (q : Nat × ByteArray) (M : List (Nat × ByteArray)) : Decidable (q ∈ M) := @List.instDecidableMemOfLawfulBEq _ instBEqOfDecidableEq inferInstance q M
theorem any_alike {α : Type} {p q : α → Bool} : ∀ (l : List α), (∀ a ∈ l, p a = q a) → l.any p = l.any q
 | [], _ => rfl
 | a :: l, h => by rw [List.any_cons, List.any_cons, h a (List.mem_cons_self ..), any_alike l fun b hb => h b (List.mem_cons_of_mem _ hb)]
section
variable {h : List TxnV} {C n : Nat}
theorem tryP_parts {r : List Nat} {i : Nat} (ht : tryP h C r i = true) : i < h.length ∧ i ∉ r ∧ (∀ j, (baseN h C i).testBit j = true → (plS r).testBit j = true) := by
 unfold tryP at ht
 simp only [Bool.and_eq_true, decide_eq_true_eq, Bool.not_eq_true', decide_eq_false_iff_not] at ht
 exact ⟨ht.1, ht.2.1, (inB_bits (baseN_set h C i)).1 ht.2.2.1⟩
theorem RowG.push {r : List Nat} (g : RowG h C r) (h64 : h.length ≤ 64) {i : Nat} (ht : tryP h C r i = true) : RowG h C (i :: r) := by
 obtain ⟨h1, h2, h3⟩ := tryP_parts ht
 refine ⟨List.nodup_cons.2 ⟨h2, g.nd⟩, fun k hk => ?_, fun k hk j hj => ?_⟩
 ·rcases List.mem_cons.1 hk with rfl | hk
  ·omega
  ·exact g.lt k hk
 ·by_cases e : k = i
  ·subst e; rw [aheadL, if_pos rfl]; exact h3 j hj
  ·rw [aheadL_tail e]; exact g.base k ((List.mem_cons.1 hk).resolve_left e) j hj
theorem RowG.nil : RowG h C [] := ⟨List.nodup_nil, fun _ hk => (by cases hk), fun _ hk => (by cases hk)⟩
def firstE (h : List TxnV) (C n : Nat) : Nat → List Nat → Option (List Nat)
 | 0, r => some r
 | k + 1, r => (List.range n).findSome? fun j => if tryP h C r j = true then firstE h C n k (j :: r) else none
theorem firstE_alike (hc : checkI h = 0) : ∀ (k : Nat) (r s : List Nat), Sim h C r s → RowG h C r → RowG h C s → (firstE h C n k r).isSome = (firstE h C n k s).isSome
 | 0, _, _, _, _, _ => rfl
 | k + 1, r, s, q, g, g' => by
  have h64 := (check_zero hc).1
  have key : ∀ l : List Nat, (l.findSome? fun j => if tryP h C r j = true then firstE h C n k (j :: r) else none).isSome = (l.findSome? fun j => if tryP h C s j = true then firstE h C n k (j :: s) else none).isSome := by
   intro l
   rw [List.isSome_findSome?, List.isSome_findSome?]
   refine any_alike l fun j _ => ?_
   have e := q.try hc g g' j
   cases ht : tryP h C r j with
   | false => rw [← e, ht]; rfl
   | true =>
    have ht' : tryP h C s j = true := by rw [← e]; exact ht
    rw [if_pos rfl, if_pos ht']
    exact firstE_alike hc k (j :: r) (j :: s) (q.cons g.lt j) (g.push h64 ht) (g'.push h64 ht')
  exact key _
def Bad (h : List TxnV) (C n : Nat) (M : List (Nat × ByteArray)) : Prop := ∀ q ∈ M, ∃ (r : List Nat) (k : Nat), RowG h C r ∧ r.length + k = n ∧ q = (plS r, keyB h C r) ∧ firstE h C n k r = none
theorem Bad.nil : Bad h C n [] := fun _ hq => by cases hq
theorem Bad.fails (hc : checkI h = 0) (hn : n = h.length) {M : List (Nat × ByteArray)} (hM : Bad h C n M) {r : List Nat} {k : Nat} (g : RowG h C r) (hk : r.length + k = n) (hq : (plS r, keyB h C r) ∈ M) : firstE h C n k r = none := by
 have h64 := (check_zero hc).1
 obtain ⟨s, k', g', hk', e, hf⟩ := hM _ hq
 have e1 : plS r = plS s := congrArg Prod.fst e
 have e2 : keyB h C r = keyB h C s := congrArg Prod.snd e
 have hq := sim_of_key g.lt g'.lt (by omega) (by omega) g.nd g'.nd e1 e2
 have hl : r.length = s.length := ((List.perm_ext_iff_of_nodup g.nd g'.nd).2 hq.mem).length_eq
 obtain rfl : k = k' := by omega
 have := firstE_alike (n := n) hc k r s hq g g'
 rw [hf] at this
 exact Option.isNone_iff_eq_none.1 (by simpa using this)
abbrev Srch := Option (List Nat) × List (Nat × ByteArray) × Nat
def srchStep (F : List Nat → List (Nat × ByteArray) → Srch) (h : List TxnV) (C : Nat) (r : List Nat) (st : Srch) (j : Nat) : Srch :=
 match st.1 with
 | some _ => st
 | none => if j ∈ r then st else if tryP h C r j = true then ((F (j :: r) st.2.1).1, (F (j :: r) st.2.1).2.1, st.2.2 + 1 + (F (j :: r) st.2.1).2.2) else (none, st.2.1, st.2.2 + 1)
def srchTo (F : List Nat → List (Nat × ByteArray) → Srch) (h : List TxnV) (C : Nat) (r : List Nat) (M : List (Nat × ByteArray)) (j : Nat) : Srch := (List.range j).foldl (srchStep F h C r) (none, M, 0)
def srchEnd (h : List TxnV) (C : Nat) (r : List Nat) (st : Srch) : Srch := match st.1 with
 | some _ => st
 | none => (none, (plS r, keyB h C r) :: st.2.1, st.2.2)
def srch (h : List TxnV) (C n : Nat) : Nat → List Nat → List (Nat × ByteArray) → Srch
 | 0, r, M => (some r, M, 0)
 | k + 1, r, M => if (plS r, keyB h C r) ∈ M then (none, M, 0) else srchEnd h C r (srchTo (srch h C n k) h C r M n)
theorem srchTo_succ (F : List Nat → List (Nat × ByteArray) → Srch) (r : List Nat) (M : List (Nat × ByteArray)) (j : Nat) : srchTo F h C r M (j + 1) = srchStep F h C r (srchTo F h C r M j) j := by
 unfold srchTo; rw [List.range_succ, List.foldl_append]; rfl
section
variable {F : List Nat → List (Nat × ByteArray) → Srch} {r : List Nat} {st : Srch} {j : Nat}
theorem step_found {x : List Nat} (h1 : st.1 = some x) : srchStep F h C r st j = st := by unfold srchStep; rw [h1]
theorem step_in (h1 : st.1 = none) (hj : j ∈ r) : srchStep F h C r st j = st := by unfold srchStep; rw [h1]; simp only [if_pos hj]
theorem step_no (h1 : st.1 = none) (hj : j ∉ r) (ht : tryP h C r j = false) : srchStep F h C r st j = (none, st.2.1, st.2.2 + 1) := by unfold srchStep; rw [h1, ht]; simp [hj]
theorem step_yes (h1 : st.1 = none) (hj : j ∉ r) (ht : tryP h C r j = true) : srchStep F h C r st j = ((F (j :: r) st.2.1).1, (F (j :: r) st.2.1).2.1, st.2.2 + 1 + (F (j :: r) st.2.1).2.2) := by unfold srchStep; rw [h1, ht]; simp [hj]
end
theorem srch_in {k : Nat} {r : List Nat} {M : List (Nat × ByteArray)} (hq : (plS r, keyB h C r) ∈ M) : srch h C n (k + 1) r M = (none, M, 0) := by rw [srch]; exact if_pos hq
theorem srch_go {k : Nat} {r : List Nat} {M : List (Nat × ByteArray)} (hq : (plS r, keyB h C r) ∉ M) : srch h C n (k + 1) r M = srchEnd h C r (srchTo (srch h C n k) h C r M n) := by rw [srch]; exact if_neg hq
theorem srchEnd_cost {r : List Nat} {st : Srch} : (srchEnd h C r st).2.2 = st.2.2 ∧ (srchEnd h C r st).1 = st.1 := by
 unfold srchEnd
 split
 ·exact ⟨rfl, rfl⟩
 ·rename_i e; exact ⟨rfl, e.symm⟩
theorem srch_right (hc : checkI h = 0) (hn : n = h.length) : ∀ (k : Nat) (r : List Nat) (M : List (Nat × ByteArray)), RowG h C r → r.length + k = n → Bad h C n M → (srch h C n k r M).1 = firstE h C n k r ∧ Bad h C n (srch h C n k r M).2.1
 | 0, r, M, _, _, hM => ⟨rfl, hM⟩
 | k + 1, r, M, g, hl, hM => by
  have h64 := (check_zero hc).1
  by_cases hq : (plS r, keyB h C r) ∈ M
  ·rw [srch_in hq]; exact ⟨(Bad.fails hc hn hM g hl hq).symm, hM⟩
  ·rw [srch_go hq]
   have key : ∀ j, (srchTo (srch h C n k) h C r M j).1 = ((List.range j).findSome? fun j => if tryP h C r j = true then firstE h C n k (j :: r) else none) ∧ Bad h C n (srchTo (srch h C n k) h C r M j).2.1 := by
    intro j
    induction j with
    | zero => exact ⟨rfl, hM⟩
    | succ j ih =>
     obtain ⟨i1, i2⟩ := ih
     rw [srchTo_succ, List.range_succ, List.findSome?_append, ← i1]
     generalize srchTo (srch h C n k) h C r M j = st at *
     cases h1 : st.1 with
     | some x => rw [step_found h1, h1]; exact ⟨rfl, i2⟩
     | none =>
      rw [Option.none_or, List.findSome?_singleton]
      by_cases hjr : j ∈ r
      ·have ht : tryP h C r j = false := by
        cases ht : tryP h C r j with
        | false => rfl
        | true => exact ((tryP_parts ht).2.1 hjr).elim
       rw [step_in h1 hjr, ht, h1]
       exact ⟨rfl, i2⟩
      ·cases ht : tryP h C r j with
       | false => rw [step_no h1 hjr ht]; exact ⟨rfl, i2⟩
       | true =>
        rw [step_yes h1 hjr ht, if_pos rfl]
        exact srch_right hc hn k (j :: r) st.2.1 (g.push h64 ht) (by simp only [List.length_cons]; omega) i2
   obtain ⟨k1, k2⟩ := key n
   have hk : firstE h C n (k + 1) r = (srchTo (srch h C n k) h C r M n).1 := k1.symm
   generalize srchTo (srch h C n k) h C r M n = st at *
   refine ⟨by rw [hk]; exact srchEnd_cost.2, ?_⟩
   unfold srchEnd
   split
   ·exact k2
   ·rename_i e
    intro q hqm
    rcases List.mem_cons.1 hqm with rfl | hqm
    ·exact ⟨r, k + 1, g, hl, rfl, hk.trans e⟩
    ·exact k2 q hqm
end
end

section
open Go.RowKit
def seesL (V : Mat) (n : Nat) : List (List Int) := (List.range n).map fun (i : Nat) => (lst (seeTo V (i : Int) 64)).map Int.ofNat
end

section
open Go.RowKit Go.Shelf
theorem infoIntC : (Tryd.prog.info? 3).map (fun i => (i.zero, i.size, i.bytes)) = some (some (.int .i64 0), 1, 8) := by kernel_rfl
end

section
open Go.RowKit
theorem least_some (h : List TxnV) (x : Nat) (l : List Int) : ∃ R, LeastIs h x l R :=
 ⟨fun i j => @decide (Must (startM h (x : Int) (chainR l)) (chainR l) (trB x) (pfB x) i j) (Classical.propDecidable _), fun i j _ _ => by simp⟩
end

section
open Go.RowKit Go.Shelf
attribute [local go_sem] Oper.semAt_some
def keptL (h : List TxnV) (lv : Int) (row : List Nat) : Bool := isLv lv && (soundTo h h.length && allT h (clI ((askN lv : Nat) : Int)) [] row)
theorem kept_holds {h : List TxnV} (hc : checkI h = 0) (lv : Int) {row : List Nat} (hp : row.Perm (List.range h.length)) {R : Mat} (hR : LeastIs h (askN lv) (row.map Int.ofNat) R) : holdsB h lv (row.map Int.ofNat) R = keptL h lv row := by
 cases hlv : isLv lv with
 | false => unfold holdsB keptL; rw [hlv]; rfl
 | true =>
  have hC : clI ((askN lv : Nat) : Int) < 9223372036854775808 := by have := clI_lt ((askN lv : Nat) : Int); omega
  have hnd : row.Nodup := (List.Perm.nodup_iff hp).2 List.nodup_range
  have hlt : ∀ k ∈ row, k < h.length := fun k hk => List.mem_range.1 (hp.mem_iff.1 hk)
  have h1 := (good_holds hc hlv (r := row.reverse) (R := R) (by rw [List.reverse_reverse]; exact hp) (by rw [List.reverse_reverse]; exact hR)).1
  rw [List.reverse_reverse] at h1
  have h2 := allT_iff hc hC row [] (by rw [List.append_nil]; exact (List.reverse_perm row).nodup_iff.2 hnd) (fun a ha => hlt a (by simpa using ha)) (fun k hk => by cases hk)
  rw [List.append_nil] at h2
  unfold keptL
  rw [Bool.eq_iff_iff, h1, hlv, Bool.true_and, Bool.and_eq_true, h2]
theorem perm_range {n : Nat} {row : List Nat} (hnd : row.Nodup) (hlt : ∀ i ∈ row, i < n) (hl : row.length = n) : row.Perm (List.range n) := by
 have hmem : ∀ j, j < n → j ∈ row := fun j hj => by
  by_cases h : j ∈ row
  ·exact h
  ·have := nodup_len n (j :: row) (List.nodup_cons.2 ⟨h, hnd⟩) (fun k hk => by
    rcases List.mem_cons.1 hk with rfl | hk
    ·exact hj
    ·exact hlt k hk)
   simp at this; omega
 rw [List.perm_iff_count]
 intro j
 rw [hnd.count, List.nodup_range.count]
 simp only [List.mem_range]
 by_cases h : j < n
 ·rw [if_pos (hmem j h), if_pos h]
 ·rw [if_neg (fun q => h (hlt j q)), if_neg h]
theorem orders_perm {n : Nat} {row : List Nat} (h : row ∈ ordersN n) : row.Perm (List.range n) := by
 obtain ⟨a, b, c, _⟩ := mem_exts h
 exact perm_range (a List.nodup_nil) (b (fun i hi => by cases hi)) (by simpa using c)
theorem ints_nil (W : World) : Ints W (.slice none 0 0) [] := ⟨rfl, none, 0, rfl, ⟨Nat.le_refl _, by decide⟩, fun _ => ⟨rfl, rfl⟩, fun h => absurd h (Nat.lt_irrefl _)⟩
end

section
open Go.RowKit
section
variable {h : List TxnV} {C n : Nat}
theorem allT_cat (h : List TxnV) (C : Nat) : ∀ (m m' r : List Nat), allT h C r (m ++ m') = (allT h C r m && allT h C (m.reverse ++ r) m')
 | [], m', r => by simp [allT]
 | i :: m, m', r => by
  rw [List.cons_append, allT, allT, allT_cat h C m m' (i :: r), Bool.and_assoc, List.reverse_cons, List.append_assoc]; rfl
theorem exts_first : ∀ (k : Nat) (q : List Nat), (exts n k q).find? (allT h C []) = if allT h C [] q = true then (firstE h C n k q.reverse).map List.reverse else none
 | 0, q => by
  unfold exts firstE
  rw [List.find?_singleton, Option.map_some, List.reverse_reverse]
 | k + 1, q => by
  have key : ∀ j, (extsTo n k q j).find? (allT h C []) = if allT h C [] q = true then ((List.range j).findSome? fun i => if tryP h C q.reverse i = true then firstE h C n k (i :: q.reverse) else none).map List.reverse else none := by
   intro j
   induction j with
   | zero => rw [extsTo_zero]; simp
   | succ j ih =>
    rw [extsTo_succ, List.find?_append, ih, List.range_succ, List.findSome?_append, List.findSome?_singleton]
    by_cases hj : j ∈ q
    ·have ht : tryP h C q.reverse j = false := by
      unfold tryP; rw [decide_eq_true (List.mem_reverse.2 hj)]; simp
     rw [if_pos hj, ht]; simp
    ·rw [if_neg hj, exts_first k (q ++ [j]), allT_cat h C q [j] [], List.append_nil, List.reverse_append]
     have e : allT h C q.reverse [j] = tryP h C q.reverse j := by unfold allT; simp [allT]
     rw [e]
     cases hq : allT h C [] q <;> cases ht : tryP h C q.reverse j <;> simp [Option.map_or]
  rw [exts_all]; exact key n
theorem first_kept (h : List TxnV) (lv : Int) : (ordersN h.length).find? (keptL h lv) = if isLv lv = true ∧ soundTo h h.length = true then (firstE h (clI ((askN lv : Nat) : Int)) h.length h.length []).map List.reverse else none := by
 by_cases hs : isLv lv = true ∧ soundTo h h.length = true
 ·rw [if_pos hs]
  have e2 : keptL h lv = allT h (clI ((askN lv : Nat) : Int)) [] := by funext r; unfold keptL; rw [hs.1, hs.2, Bool.true_and, Bool.true_and]
  rw [e2]
  show (exts h.length h.length []).find? _ = _
  rw [exts_first]; simp [allT]
 ·rw [if_neg hs, List.find?_eq_none]
  intro r _
  unfold keptL
  cases h1 : isLv lv <;> cases h2 : soundTo h h.length <;> simp
  exact (hs ⟨h1, h2⟩).elim
end
end

section
open Go.RowKit
def decN (h : List TxnV) (lv : Int) : Srch := if isLv lv = true ∧ soundTo h h.length = true then srch h (clI ((askN lv : Nat) : Int)) h.length h.length [] [] else (none, [], 0)
theorem dec_first {h : List TxnV} (hc : checkI h = 0) (lv : Int) : (decN h lv).1.map List.reverse = (ordersN h.length).find? (keptL h lv) := by
 rw [first_kept]
 unfold decN
 split
 ·rw [(srch_right hc rfl h.length [] [] RowG.nil (by simp) Bad.nil).1]
 ·rfl
end

section
open Go.RowKit
def decW (h : List TxnV) (lv : Int) : List Int × List (List Int) × Bool := match (decN h lv).1 with
 | none => ([], [], false)
 | some r => (r.reverse.map Int.ofNat, seesL (seesR h (clI ((askN lv : Nat) : Int)) r) h.length, true)
theorem decW_yes (h : List TxnV) (lv : Int) : (decW h lv).2.2 = (decN h lv).1.isSome := by
 unfold decW
 cases (decN h lv).1 <;> rfl
section
variable {w0 w : World} {B b : Nat} {h : List TxnV}
end
end

section
open Go.RowKit
theorem read_of {h : List TxnV} (hc : checkI h = 0) {k : Nat} (hk : k < h.length) {o : OpV} (ho : o ∈ refReads h[k].l) :
  (o.val = 0 ∧ badFr (wrTo h h.length) (k : Int) o = false) ∨ (o.val ≠ 0 ∧ ∃ n : Nat, ∃ hn : n < h.length, wrI o.key o.val h = (n : Int) ∧ badFr (wrTo h h.length) (k : Int) o = (decide ((n : Int) = (k : Int)) || !(vOf h[n].l o.key == o.val))) := by
 obtain ⟨h1, h2⟩ := refReads_in ho
 rcases reads_F (may_of hc) hk h1 h2 with ⟨h0, hn⟩ | ⟨h0, u, hu, hku, hw⟩
 ·refine .inl ⟨h0, ?_⟩
  unfold badFr
  rw [h0, hn]
 ·refine .inr ⟨h0, ?_⟩
  obtain ⟨p, hp, hpv, hpk⟩ := real_wr h h.length (Nat.le_refl _) o.val u hu
  obtain ⟨t, ht, hpt, hpw⟩ := wrs_mem.1 hp
  obtain ⟨n, hn, rfl⟩ := List.getElem_of_mem ht
  have h3 := may_wr (may_of hc) hn hpt hpw
  rw [hpv, hu] at h3
  have h4 := Option.some.inj h3
  refine ⟨n, hn, ?_, ?_⟩
  ·rw [hw, h4]
  ·unfold badFr
   rw [hu, h4, hpk, hku]
theorem rsound_any (va : Value) (h : List TxnV) (hc : checkI h = 0) (w : World) (hT : Txns w va h) :
  Calls Tryd.prog 58 #[va] w fun e w' => e = .returned (.bool (soundTo h h.length)) ∧ Below w.heap.size w w' := by
 obtain ⟨ao, cap, rfl, hal⟩ := hT.form
 have HT := hid (fun wx (hx : Below w.heap.size w wx) => hT.below hx)
 have HC := hid hc
 have HQ : Hid (soundTo h h.length = (List.range h.length).all (soundOf h)) := hid rfl
 clear hT hc
 generalize soundTo h h.length = q at *
 go_enter Tryd.func58, Tryd.ntmps58
 go_wp2_with fail
 go_loopw [3] (fun i wr => ∃ k : Nat, k ≤ h.length ∧ i = .int .i64 k ∧ (List.range k).all (soundOf h) = true ∧ Below w.heap.size w wr) (fun i _ => h.length - (intOf i).toNat)
 case atStart => exact ⟨0, by omega, rfl, rfl, Below.refl _ _⟩
 case round =>
  obtain ⟨k, hk, rfl, hall, hb⟩ := hrel
  by_cases hlt : k < h.length
  ·have hki : (k : Int) < (h.length : Int) := by omega
   have HN := hid (show (List.range (k + 1)).all (soundOf h) = soundOf h k by rw [List.range_succ, List.all_append, hall]; simp)
   have HF : Hid (soundOf h k = false → false = q) := hid (fun e => by rw [HQ.out]; symm; exact List.all_eq_false.2 ⟨k, List.mem_range.2 hlt, by simp [e]⟩)
   have HS : Hid (soundOf h k = (!(refReads h[k].l).any (badFr (wrTo h h.length) (k : Int)) && steadyL h[k].l)) := hid (by unfold soundOf; rw [opsAt_eq hlt])
   have HR := hid (fun o (ho : o ∈ refReads h[k].l) => read_of HC.out hlt ho)
   have C1 := hid (fun wx (hx : Below w.heap.size w wx) => rsteady_any h[k].v h[k].l wx ((HT.out _ hx).ops hlt))
   have C2 := hid (fun wx (hx : Below w.heap.size w wx) => rreads_any h[k].v h[k].l wx ((HT.out _ hx).ops hlt))
   have HAT := hid (fun wx (hx : Below w.heap.size w wx) => (HT.out _ hx).at hlt)
   generalize soundOf h k = sk at *
   generalize refReads h[k].l = L at *
   generalize steadyL h[k].l = st at *
   generalize h[k].v = vk at *
   obtain ⟨g, o, hao, c0, c1, c2, c3⟩ := HAT.out _ hb
   cases hao
   clear c0 c1 c2
   go_wp2_with fail
   refine (C1.out _ hb).mono ?_
   rintro e w1 ⟨rfl, hb1⟩
   have hb2 := below_then hb hb1
   clear c3 hb hb1 C1
   cases st
   ·have HE : Hid (false = q) := hid (HF.out (by rw [HS.out, Bool.and_false]))
    clear HF HS HN HR C2
    go_wp2_with fail
    go_ret
    exact ⟨ret_b HE.out, hb2⟩
   ·obtain ⟨_, _, hao, _, _, _, c3⟩ := HAT.out _ hb2
    cases hao
    go_wp2_with fail
    refine (C2.out _ hb2).mono ?_
    rintro e w3 ⟨v3, rfl, hO, hb3⟩
    have hb4 := below_then hb2 hb3
    have hL := hO.ops
    obtain ⟨a3, cap3, rfl, _⟩ := hL.form
    clear C2 c3 hO hb2 hb3
    go_wp2_with fail
    go_loopw [5] (fun j wx => ∃ n : Nat, n ≤ L.length ∧ j = .int .i64 n ∧ (L.take n).any (badFr (wrTo h h.length) (k : Int)) = false ∧ Below w.heap.size w wx ∧ Below w3.heap.size w3 wx) (fun j _ => L.length - (intOf j).toNat)
    case atStart => exact ⟨0, by omega, rfl, rfl, hb4, Below.refl _ _⟩
    case round =>
     obtain ⟨n, hn, rfl, hany, hbx, hb5⟩ := hrel
     by_cases hltn : n < L.length
     ·have hni : (n : Int) < (L.length : Int) := by omega
      obtain ⟨g1, o1, hao, d0, d1, d2⟩ := (hL.below hb5).at hltn
      cases hao
      have HX := hid (anyf_take (f := badFr (wrTo h h.length) (k : Int)) hltn hany)
      have HH := hid (fun e => anyf_hit (f := badFr (wrTo h h.length) (k : Int)) hltn e)
      have hr := HR.out _ (List.getElem_mem hltn)
      generalize badFr (wrTo h h.length) (k : Int) L[n] = bd at *
      generalize L[n].key = y at *
      generalize L[n].val = z at *
      rcases hr with ⟨hz, hbad⟩ | ⟨hz, m, hm, hwm, hbad⟩
      ·have HB := hid (HX.out.trans hbad)
       subst hz
       clear HX HH hbad
       go_wp2_with fail
       go_roundw
       case rel => exact ⟨n + 1, by omega, by go_num, HB.out, hbx, hb5⟩
       case measure => simp [intOf]; omega
      ·have CW := hid (fun wx (hx : Below w.heap.size w wx) => writer_any _ h y z wx (HT.out _ hx))
       rw [hwm] at CW
       have CL := hid (fun wx (hx : Below w.heap.size w wx) => rlast_any h[m].s h[m].b h[m].c h[m].v h[m].l y z wx ((HT.out _ hx).ops hm))
       have HAM := hid (fun wx (hx : Below w.heap.size w wx) => (HT.out _ hx).at hm)
       have hmi : (m : Int) < (h.length : Int) := by omega
       have hlo := block_lt d1
       simp only at hlo
       clear hwm
       go_wp2_with fail
       have kk := Below.refl wr.heap.size wr
       go_region_held3 (fun w' => w'.cell? ⟨g1, o1 + n * 3 + 1, none⟩ = some (.int .i64 y) ∧ w'.cell? ⟨g1, o1 + n * 3 + 2, none⟩ = some (.int .i64 z))
        (go_keep)
        (first
         | (go_at_call 50; refine (CW.out _ (below_then hbx (by first | exact kk | exact kk.drew | exact below_drewN kk _))).mono ?_; rintro e wy ⟨rfl, hby⟩; have kk : Below wr.heap.size wr wy := (by first | exact below_then kk hby | exact below_then kk ⟨hby.os, hby.tape, hby.output, hby.size, hby.block⟩); have d1 := (kk.cell (p := ⟨g1, o1 + n * 3 + 1, none⟩) hlo).trans d1; have d2 := (kk.cell (p := ⟨g1, o1 + n * 3 + 2, none⟩) hlo).trans d2))
       have hb6 := below_then hbx kk
       have hb7 := below_then hb5 kk
       obtain ⟨g2, o2, hao, e0, e1, e2, e3⟩ := HAM.out _ hb6
       cases hao
       clear CW hby
       by_cases hmk : m = k
       ·have HE : Hid (false = q) := hid (HF.out (by
         have h1 := HH.out (by rw [hbad, decide_eq_true (by omega)]; rfl)
         rw [HS.out, h1]; rfl))
        subst hmk
        clear HF HS HN HH HX HR HAT HAM CL hbad e0 e1 e2 e3
        go_wp2_with fail
        go_quiet (fail)
        go_wp2_with fail
        go_ret
        exact ⟨ret_b HE.out, by first | exact hb6 | exact below_drewN hb6 _⟩
       ·have hmki : ¬ (m : Int) = (k : Int) := by omega
        have hbq : ((m : Int) == (k : Int)) = false := by simpa using hmki
        rw [decide_eq_false hmki, Bool.false_or] at hbad
        have hm0 := block_lt e0
        simp only at hm0
        have hlo2 := block_lt d1
        simp only at hlo2
        have d0' := d0
        clear kk d0'
        go_wp2_with fail
        have kk := Below.refl wy.heap.size wy
        go_region_held3 (fun w' => (w'.cell? ⟨g, o + m * 4, none⟩ = some (.int .i64 h[m].s) ∧ w'.cell? ⟨g, o + m * 4 + 1, none⟩ = some (.int .i64 h[m].b) ∧ w'.cell? ⟨g, o + m * 4 + 2, none⟩ = some (.int .i64 h[m].c) ∧ w'.cell? ⟨g, o + m * 4 + 3, none⟩ = some h[m].v) ∧ w'.cell? ⟨g1, o1 + n * 3 + 1, none⟩ = some (.int .i64 y) ∧ w'.cell? ⟨g1, o1 + n * 3 + 2, none⟩ = some (.int .i64 z))
         (go_keep)
         (first
          | (go_at_call 66; refine (CL.out _ (below_then hb6 (by first | exact kk | exact kk.drew | exact below_drewN kk _))).mono ?_; rintro e wz ⟨rfl, hbz⟩; have kk : Below wy.heap.size wy wz := (by first | exact below_then kk hbz | exact below_then kk ⟨hbz.os, hbz.tape, hbz.output, hbz.size, hbz.block⟩); have d1 := (kk.cell (p := ⟨g1, o1 + n * 3 + 1, none⟩) hlo2).trans d1; have d2 := (kk.cell (p := ⟨g1, o1 + n * 3 + 2, none⟩) hlo2).trans d2; have e0 := (kk.cell (p := ⟨g, o + m * 4, none⟩) hm0).trans e0; have e1 := (kk.cell (p := ⟨g, o + m * 4 + 1, none⟩) hm0).trans e1; have e2 := (kk.cell (p := ⟨g, o + m * 4 + 2, none⟩) hm0).trans e2; have e3 := (kk.cell (p := ⟨g, o + m * 4 + 3, none⟩) hm0).trans e3))
        have hb8 := below_then hb6 kk
        have hb9 := below_then hb7 kk
        clear CL hbz d1 d2 e0 e1 e2 e3 HAM
        cases hv : (vOf h[m].l y == z)
        ·have HE : Hid (false = q) := hid (HF.out (by
          have h1 := HH.out (by rw [hbad, hv]; rfl)
          rw [HS.out, h1]; rfl))
         clear HF HS HN HH HX HR HAT hbad
         go_wp2_with fail
         go_ret
         exact ⟨ret_b HE.out, hb8⟩
        ·have HB := hid (HX.out.trans (hbad.trans (by rw [hv, Bool.not_true])))
         clear HF HS HN HH HX HR HAT hbad
         go_wp2_with fail
         go_roundw
         case rel => exact ⟨n + 1, by omega, by go_num, HB.out, hb8, hb9⟩
         case measure => simp [intOf]; omega
     ·have hn2 : n = L.length := by omega
      subst hn2
      rw [List.take_length] at hany
      have HE : Hid ((List.range (k + 1)).all (soundOf h) = true) := hid (by rw [HN.out, HS.out, hany]; rfl)
      clear HN HF HS HR HAT
      go_wp2_with fail
      go_roundw
      case rel => exact ⟨k + 1, by omega, by go_num, HE.out, hbx⟩
      case measure => simp [intOf]; omega
  ·have hk2 : k = h.length := by omega
   subst hk2
   have HE : Hid (true = q) := hid (by rw [HQ.out]; exact hall.symm)
   go_wp2_with fail
   go_ret
   exact ⟨ret_b HE.out, hb⟩
end

section
open Go.RowKit
theorem rlast12_any (va vr vm : Value) (h : List TxnV) (l : List Int) (m : List Pr) (i key : Int) (w : World) (hT : Txns w va h) (hl : Ints w vr l) (hm : Prs w vm m) (hin : ∀ a ∈ l, 0 ≤ a ∧ a < (h.length : Int)) :
  Calls Tryd.prog 72 #[va, vr, vm, .int .i64 i, .int .i64 key] w fun e w' => e = .returned (.int .i64 (lstR h m i key l)) ∧ Below w.heap.size w w' := by
 have CH := hid (fun (a : Int) wx (hx : Below w.heap.size w wx) => phas_any vm m a i wx (hm.below hx))
 have CW := hid (fun (j : Nat) (hj : j < h.length) wx (hx : Below w.heap.size w wx) => rwrts8_any va h j key hj wx (hT.below hx))
 have HL := hid (fun wx (hx : Below w.heap.size w wx) => hl.below hx)
 have HIN := hid hin
 have HTK := hid (fun k hk => lstR_take h m i key l k hk)
 have HE : Hid (lstR h m i key (l.take l.length) = lstR h m i key l) := hid (by rw [List.take_length])
 have H0 : Hid (lstR h m i key (l.take 0) = -1) := hid rfl
 obtain ⟨ao, cap, rfl, hal⟩ := hT.form
 obtain ⟨ro, rcap, rfl, hrl⟩ := hl.form
 obtain ⟨mo, mcap, rfl, hml⟩ := hm.form
 clear hT hl hm hin
 go_enter Tryd.func72, Tryd.ntmps72
 go_wp2_with fail
 go_loopw [11, 12] (fun ov kv wr => ∃ k : Nat, k ≤ l.length ∧ kv = .int .i64 k ∧ ov = .int .i64 (lstR h m i key (l.take k)) ∧ Below w.heap.size w wr) (fun _ kv _ => l.length - (intOf kv).toNat)
 case atStart => exact ⟨0, by omega, rfl, by rw [H0.out], Below.refl _ _⟩
 case round =>
  obtain ⟨k, hk, rfl, rfl, hb⟩ := hrel
  by_cases hlt : k < l.length
  ·have hki : (k : Int) < (l.length : Int) := by omega
   obtain ⟨g, o, hao, e0⟩ := (HL.out _ hb).at hlt
   cases hao
   have HS := hid (HTK.out k hlt)
   have hr := HIN.out _ (List.getElem_mem hlt)
   obtain ⟨j, hj⟩ : ∃ j : Nat, l[k] = (j : Int) := ⟨l[k].toNat, by omega⟩
   rw [hj] at e0 HS hr
   rw [Int.toNat_natCast] at HS
   have hjn : j < h.length := by omega
   have D1 := hid (CH.out (j : Int) _ hb)
   have D2 := hid (CW.out j hjn _ hb)
   generalize hasP m (j : Int) i = p1 at *
   generalize wrsR h j key = p2 at *
   generalize lstR h m i key (l.take k) = f0 at *
   clear CH CW HTK hj
   go_wp2_with fail
   refine (D1.out).mono ?_
   rintro e w1 ⟨rfl, rfl⟩
   cases p1 with
   | false =>
    have HN : Hid (lstR h m i key (l.take (k + 1)) = f0) := hid (by rw [HS.out]; rfl)
    go_wp2_with fail
    go_roundw
    case rel => exact ⟨k + 1, by omega, by go_num, by rw [HN.out], hb⟩
    case measure => simp [intOf]; omega
   | true =>
    go_wp2_with fail
    refine (D2.out).mono ?_
    rintro e w2 ⟨rfl, h2⟩
    have e1 := (h2.cell (p := ⟨g, o + k, none⟩) (block_lt e0)).trans e0
    have hb2 := below_then hb h2
    clear e0 hb h2
    cases p2 with
    | false =>
     have HN : Hid (lstR h m i key (l.take (k + 1)) = f0) := hid (by rw [HS.out]; rfl)
     go_wp2_with fail
     go_roundw
     case rel => exact ⟨k + 1, by omega, by go_num, by rw [HN.out], hb2⟩
     case measure => simp [intOf]; omega
    | true =>
     have HN : Hid (lstR h m i key (l.take (k + 1)) = (j : Int)) := hid (by rw [HS.out]; rfl)
     go_wp2_with fail
     go_roundw
     case rel => exact ⟨k + 1, by omega, by go_num, by rw [HN.out], hb2⟩
     case measure => simp [intOf]; omega
  ·have hkn : k = l.length := by omega
   subst hkn
   go_wp2_with fail
   go_ret
   exact ⟨congrArg (fun q => Ending.returned (Value.int .i64 q)) HE.out, hb⟩
theorem all_noH {α : Type} {p : α → Bool} {l : List α} {a : α} (ha : a ∈ l) (h : p a = false) : l.all p = false := by
 rw [List.all_eq_false]; exact ⟨a, ha, by rw [h]; decide⟩
theorem all_takeH {α : Type} {p : α → Bool} {l : List α} {k : Nat} (hk : k < l.length) (h : (l.take k).all p = true) (h1 : p l[k] = true) : (l.take (k + 1)).all p = true := by
 rw [List.take_succ_eq_append_getElem hk, List.all_append, h]; simp [h1]
theorem all_rng {p : Nat → Bool} {k : Nat} (h : (List.range k).all p = true) (h1 : p k = true) : (List.range (k + 1)).all p = true := by
 rw [List.range_succ, List.all_append, h]; simp [h1]
theorem rright12_any (va vr vm : Value) (h : List TxnV) (l : List Int) (m : List Pr) (w : World) (hn : h.length ≤ 64) (hT : Txns w va h) (hl : Ints w vr l) (hm : Prs w vm m) :
  Calls Tryd.prog 60 #[va, vr, vm] w fun e w' => e = .returned (.bool (rightR h l m)) ∧ Below w.heap.size w w' := by
 have CR := hid (rrow12_any h.length vr l w (by omega) hl)
 have CP := hid (fun (a : Int) wx (hx : Below w.heap.size w wx) => rplace_any vr l a wx (hl.below hx))
 have CL := hid (fun (hin : ∀ a ∈ l, 0 ≤ a ∧ a < (h.length : Int)) (i key : Int) wx (hx : Below w.heap.size w wx) => rlast12_any va vr vm h l m i key wx (hT.below hx) (hl.below hx) (hm.below hx) hin)
 have CD := hid (fun (i : Nat) (hi : i < h.length) wx (hx : Below w.heap.size w wx) => rreads8_any va h i hi wx (hT.below hx))
 have HM := hid (fun wx (hx : Below w.heap.size w wx) => hm.below hx)
 have HR : Hid (rightR h l m = (rowRef12 h.length l && (m.all (pairOkR l) && (List.range h.length).all fun (i : Nat) => (rdR h (i : Int) (refReads (opsAt h i))).all (rdOkR h l m i)))) := hid rfl
 have HF := hid (fun hr : rowRef12 h.length l = true => full_of_row hr)
 obtain ⟨ao, cap, rfl, hal⟩ := hT.form
 obtain ⟨ro, rcap, rfl, hrl⟩ := hl.form
 obtain ⟨mo, mcap, rfl, hml⟩ := hm.form
 clear hT hl hm hn
 generalize rightR h l m = z at *
 go_enter Tryd.func60, Tryd.ntmps60
 go_wp2_with fail
 refine (CR.out).mono ?_
 rintro e w1 ⟨rfl, rfl⟩
 cases hrow : rowRef12 h.length l with
 | false =>
  rw [hrow] at HR
  go_wp2_with fail
  go_ret
  exact ⟨ret_b (by rw [HR.out]; rfl), Below.refl _ _⟩
 | true =>
  have HIN := hid (fun a ha => ((HF.out hrow).2 a).1 ha)
  rw [hrow, Bool.true_and] at HR
  clear HF CR hrow
  go_wp2_with fail
  go_loopw [7] (fun kv wr => ∃ k : Nat, k ≤ m.length ∧ kv = .int .i64 k ∧ Hid ((m.take k).all (pairOkR l) = true) ∧ Below w.heap.size w wr) (fun kv _ => m.length - (intOf kv).toNat)
  case atStart => exact ⟨0, by omega, rfl, hid rfl, Below.refl _ _⟩
  case round =>
   obtain ⟨k, hk, rfl, HA, hb⟩ := hrel
   by_cases hlt : k < m.length
   ·have hki : (k : Int) < (m.length : Int) := by omega
    obtain ⟨g, o, hao, c1, c2⟩ := (HM.out _ hb).at hlt
    cases hao
    have HY := hid (fun hp : pairOkR l m[k] = true => all_takeH hlt HA.out hp)
    have HNO := hid (fun hp : pairOkR l m[k] = false => show z = false by rw [HR.out, all_noH (List.getElem_mem hlt) hp]; rfl)
    have HP : Hid (pairOkR l m[k] = (decide (0 ≤ placeI l m[k].1) && (decide (0 ≤ placeI l m[k].2) && decide (placeI l m[k].1 < placeI l m[k].2)))) := hid rfl
    have D1 := hid (CP.out m[k].1 _ hb)
    have D2 := hid (CP.out m[k].2 _ hb)
    generalize pairOkR l m[k] = q at *
    generalize placeI l m[k].1 = x at *
    generalize placeI l m[k].2 = y at *
    generalize m[k].1 = m1 at *
    generalize m[k].2 = m2 at *
    clear HA CP CL CD
    go_wp2_with fail
    refine (D1.out).mono ?_
    rintro e w1 ⟨rfl, rfl⟩
    go_wp2_with fail
    refine (D2.out).mono ?_
    rintro e w1 ⟨rfl, rfl⟩
    by_cases hx : x < 0
    ·have HV : Hid (false = z) := hid (HNO.out (by rw [HP.out, decide_eq_false (by omega)]; rfl)).symm
     clear HY HNO HP
     go_wp2_with fail
     go_ret
     exact ⟨ret_b HV.out, hb⟩
    by_cases hy : y < 0
    ·have HV : Hid (false = z) := hid (HNO.out (by rw [HP.out, decide_eq_false (show ¬ 0 ≤ y by omega), Bool.false_and, Bool.and_false])).symm
     clear HY HNO HP
     go_wp2_with fail
     go_ret
     exact ⟨ret_b HV.out, hb⟩
    by_cases hxy : x < y
    ·have hle : ¬ y ≤ x := by omega
     have HV := hid (HY.out (by rw [HP.out, decide_eq_true (show 0 ≤ x by omega), decide_eq_true (show 0 ≤ y by omega), decide_eq_true hxy]; rfl))
     clear HY HNO HP
     go_wp2_with fail
     go_roundw
     case rel => exact ⟨k + 1, by omega, by go_num, HV, hb⟩
     case measure => simp [intOf]; omega
    ·have hle : y ≤ x := by omega
     have HV : Hid (false = z) := hid (HNO.out (by rw [HP.out, decide_eq_false hxy, Bool.and_false, Bool.and_false])).symm
     clear HY HNO HP
     go_wp2_with fail
     go_ret
     exact ⟨ret_b HV.out, hb⟩
   ·have hkn : k = m.length := by omega
    subst hkn
    have hA := HA.out
    rw [List.take_length] at hA
    rw [hA, Bool.true_and] at HR
    clear HA hA CP HM hlt hk
    go_wp2_with fail
    go_loopw [10] (fun iv wr => ∃ i : Nat, i ≤ h.length ∧ iv = .int .i64 i ∧ Hid (((List.range i).all fun (i : Nat) => (rdR h (i : Int) (refReads (opsAt h i))).all (rdOkR h l m i)) = true) ∧ Below w.heap.size w wr) (fun iv _ => h.length - (intOf iv).toNat)
    case atStart => exact ⟨0, by omega, rfl, hid rfl, hb⟩
    case round =>
     clear hb
     obtain ⟨i, hi, rfl, HA, hb⟩ := hrel
     by_cases hlt : i < h.length
     ·have hii : (i : Int) < (h.length : Int) := by omega
      have DD := hid (CD.out i hlt _ hb)
      have HL := hid (show rdR h (i : Int) (refReads (opsAt h i)) = rdR h (i : Int) (refReads h[i].l) by rw [opsAt_eq hlt])
      have HY := hid (fun hp : (rdR h (i : Int) (refReads h[i].l)).all (rdOkR h l m i) = true => all_rng (p := fun (i : Nat) => (rdR h (i : Int) (refReads (opsAt h i))).all (rdOkR h l m i)) HA.out (by show (rdR h (i : Int) (refReads (opsAt h i))).all (rdOkR h l m i) = true; rw [HL.out]; exact hp))
      have HNO := hid (fun hp : (rdR h (i : Int) (refReads h[i].l)).all (rdOkR h l m i) = false => show z = false by rw [HR.out]; exact all_noH (p := fun (i : Nat) => (rdR h (i : Int) (refReads (opsAt h i))).all (rdOkR h l m i)) (List.mem_range.2 hlt) (by show (rdR h (i : Int) (refReads (opsAt h i))).all (rdOkR h l m i) = false; rw [HL.out]; exact hp))
      clear HA HL CD
      generalize rdR h (i : Int) (refReads h[i].l) = L at *
      go_wp2_with fail
      refine (DD.out).mono ?_
      rintro e w2 ⟨v2, rfl, hO2, h2⟩
      have hL : Frs w2 v2 L := Row.of_owns hO2
      obtain ⟨a2, cap2, rfl, hll⟩ := hL.form
      have hb2 := below_then hb h2
      clear DD hO2 hb h2
      go_wp2_with fail
      go_loopw [12] (fun kv wr => ∃ k : Nat, k ≤ L.length ∧ kv = .int .i64 k ∧ Hid ((L.take k).all (rdOkR h l m i) = true) ∧ Below w.heap.size w wr ∧ Below w2.heap.size w2 wr) (fun kv _ => L.length - (intOf kv).toNat)
      case atStart => exact ⟨0, by omega, rfl, hid rfl, hb2, Below.refl _ _⟩
      case round =>
       clear hb2
       obtain ⟨k, hk, rfl, HA, hb, hb1⟩ := hrel
       by_cases hlk : k < L.length
       ·have hkk : (k : Int) < (L.length : Int) := by omega
        obtain ⟨g, o, hao, d1, d2⟩ := (hL.below hb1).at hlk
        cases hao
        have HYY := hid (fun hp : rdOkR h l m i L[k] = true => all_takeH hlk HA.out hp)
        have HNN := hid (fun hp : rdOkR h l m i L[k] = false => HNO.out (all_noH (List.getElem_mem hlk) hp))
        have HQ : Hid (rdOkR h l m i L[k] = decide (lstR h m (i : Int) L[k].1 l = L[k].2)) := hid rfl
        have DL := hid (fun wx (hx : Below w.heap.size w wx) => CL.out HIN.out (i : Int) L[k].1 wx hx)
        generalize rdOkR h l m i L[k] = q at *
        generalize lstR h m (i : Int) L[k].1 l = x at *
        generalize L[k].1 = y at *
        generalize L[k].2 = t at *
        clear HA CL HY HNO
        have hlo := block_lt d1
        simp only at hlo
        go_wp2_with fail
        have kk := Below.refl wr.heap.size wr
        go_region_held3 (fun w' => w'.cell? ⟨g, o + k * 2, none⟩ = some (.int .i64 y) ∧ w'.cell? ⟨g, o + k * 2 + 1, none⟩ = some (.int .i64 t))
         (go_keep)
         (first
          | (go_at_call 72; refine (DL.out _ (below_then hb (by first | exact kk | exact kk.drew | exact below_drewN kk _))).mono ?_; rintro e wx ⟨rfl, hbx⟩; have kk : Below wr.heap.size wr wx := (by first | exact below_then kk hbx | exact below_then kk ⟨hbx.os, hbx.tape, hbx.output, hbx.size, hbx.block⟩); have d1 := (kk.cell (p := ⟨g, o + k * 2, none⟩) hlo).trans d1; have d2 := (kk.cell (p := ⟨g, o + k * 2 + 1, none⟩) hlo).trans d2))
        have hb4 := below_then hb kk
        have hb5 := below_then hb1 kk
        clear DL hbx hb hb1
        by_cases hxt : x = t
        ·have HV := hid (HYY.out (by rw [HQ.out, decide_eq_true hxt]))
         subst hxt
         clear HYY HNN HQ
         go_wp2_with fail
         go_roundw
         case rel => exact ⟨k + 1, by omega, by go_num, HV, hb4, hb5⟩
         case measure => simp [intOf]; omega
        ·have HV : Hid (false = z) := hid (HNN.out (by rw [HQ.out, decide_eq_false hxt])).symm
         clear HYY HNN HQ
         go_wp2_with fail
         go_ret
         exact ⟨ret_b HV.out, hb4⟩
       ·have hkn : k = L.length := by omega
        subst hkn
        have HV := hid (HY.out (by have := HA.out; rwa [List.take_length] at this))
        clear HY HNO HA
        go_wp2_with fail
        go_roundw
        case rel => exact ⟨i + 1, by omega, by go_num, HV, hb⟩
        case measure => simp [intOf]; omega
     ·have hin : i = h.length := by omega
      subst hin
      have HV : Hid (true = z) := hid (by rw [HR.out]; exact HA.out.symm)
      go_wp2_with fail
      go_ret
      exact ⟨ret_b HV.out, hb⟩
end

end Go.Proofs.YtmcicfdnmfbimaaDoor
