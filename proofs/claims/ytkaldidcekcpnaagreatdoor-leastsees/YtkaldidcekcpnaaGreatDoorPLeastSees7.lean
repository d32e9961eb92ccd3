/- Walks and plain facts that the proof of the statement LeastSees uses, joined: LesA LesB LesC AxiB AxiC AxiD LevE AxiE TblA AxiF AxiG AxhA LesD. Conditions: each theorem's own. -/
import Derived.Great.BuildSlice
import Derived.KernelRfl
import Derived.Laws.Tables
import Derived.Laws.CopyOwn
import Derived.Deep.QuietTactic
import Derived.BigQuiet
import Derived.Deep.CutRange
import Derived.Test.YtkaldidcekcpnaaGreatDoorPLeastSees0
import Derived.Test.YtkaldidcekcpnaaGreatDoorPLeastSees2
import Derived.Test.YtkaldidcekcpnaaGreatDoorPLeastSees3
import Derived.Test.YtkaldidcekcpnaaGreatDoorPLeastSees4
import Derived.Test.YtkaldidcekcpnaaGreatDoorPLeastSees5
import Derived.Test.YtkaldidcekcpnaaGreatDoorPLeastSees6
namespace Go.Proofs.YtkaldidcekcpnaaGreatDoor
set_option maxRecDepth 100000
open Go.RowKit

/-- Does one come ahead of another one in a row, as the reference says it? -/
def ahR (l : List Int) (i k : Int) : Bool := decide (placeI l i < placeI l k)
theorem rahead_any (va : Value) (l : List Int) (i k : Int) (w : World) (hl : Ints w va l) :
    Calls Tryz.prog 156 #[va, .int .i64 i, .int .i64 k] w fun e w' => e = .returned (.bool (ahR l i k)) ∧ w = w' := by
  have C := Lib.hid (fun j => rplace_any va l j w hl)
  have HR : Hid (ahR l i k = decide (placeI l i < placeI l k)) := Lib.hid rfl
  obtain ⟨ao, cap, rfl, hal⟩ := hl.form
  have CI := Lib.hid (C.out i)
  have CK := Lib.hid (C.out k)
  generalize ahR l i k = z at *
  generalize placeI l i = x at *
  generalize placeI l k = y at *
  clear hl C
  go_enter Tryz.func156, Tryz.ntmps156
  go_wp2_with fail
  refine (CI.out).mono ?_
  rintro e w1 ⟨rfl, rfl⟩
  go_wp2_with fail
  refine (CK.out).mono ?_
  rintro e w1 ⟨rfl, rfl⟩
  go_wp2_with fail
  go_ret
  exact ⟨ret_b HR.out.symm, rfl⟩
/-- Must one be seen by another one, whatever else is, as the reference says it? -/
def mustR (h : List TxnV) (x : Nat) (l : List Int) (i k : Nat) : Bool := ((froR h i k || (hasT x 1 && sesP h i k)) || (hasT x 32 && timP h i k)) || (ahR l (i : Int) (k : Int) && (hasT x 16 || (hasT x 8 && rivR h i k)))
set_option maxHeartbeats 16000000 in
theorem rmust_any (va vr : Value) (h : List TxnV) (x : Nat) (hx : x < 64) (l : List Int) (i k : Nat) (hi : i < h.length) (hk : k < h.length) (hne : i ≠ k) (w : World) (hT : Txns w va h) (hl : Ints w vr l) :
    Calls Tryz.prog 93 #[va, .int .i64 x, vr, .int .i64 i, .int .i64 k] w fun e w' => e = .returned (.bool (mustR h x l i k)) ∧ Below w.heap.size w w' := by
  have CF := Lib.hid (rfrom8_any va h i k hk w hT)
  have CS := Lib.hid (fun wx (hx : Below w.heap.size w wx) => rsession_any va h i k wx (hT.below hx) hi hk)
  have CT := Lib.hid (fun wx (hx : Below w.heap.size w wx) => rtime_any va h i k wx (hT.below hx) hi hk)
  have CR := Lib.hid (fun wx (hx : Below w.heap.size w wx) => rrivals_any va h i k hi hk hne wx (hT.below hx))
  have CA := Lib.hid (fun wx (hx : Below w.heap.size w wx) => rahead_any vr l (i : Int) (k : Int) wx (hl.below hx))
  have C1 := Lib.hid (fun wx => rl_has x 1 hx (by omega) (by omega) wx)
  have C32 := Lib.hid (fun wx => rl_has x 32 hx (by omega) (by omega) wx)
  have C16 := Lib.hid (fun wx => rl_has x 16 hx (by omega) (by omega) wx)
  have C8 := Lib.hid (fun wx => rl_has x 8 hx (by omega) (by omega) wx)
  have HR : Hid (mustR h x l i k = (((froR h i k || (hasT x 1 && sesP h i k)) || (hasT x 32 && timP h i k)) || (ahR l (i : Int) (k : Int) && (hasT x 16 || (hasT x 8 && rivR h i k))))) := Lib.hid rfl
  rw [show sesP h i k = (decide (i < k) && decide (h[i].s = h[k].s)) by unfold sesP; rw [sAt_eq hi, sAt_eq hk], show timP h i k = decide (h[i].c < h[k].b) by unfold timP; rw [cAt_eq hi, bAt_eq hk]] at HR
  obtain ⟨ao, cap, rfl, hal⟩ := hT.form
  obtain ⟨ro, rcap, rfl, hrl⟩ := hl.form
  clear hT hl
  generalize mustR h x l i k = z at *
  generalize froR h i k = p1 at *
  generalize (decide (i < k) && decide (h[i].s = h[k].s)) = p2 at *
  generalize decide (h[i].c < h[k].b) = p3 at *
  generalize rivR h i k = p4 at *
  generalize ahR l (i : Int) (k : Int) = p5 at *
  generalize hasT x 1 = b1 at *
  generalize hasT x 32 = b2 at *
  generalize hasT x 16 = b3 at *
  generalize hasT x 8 = b4 at *
  go_enter Tryz.func93, Tryz.ntmps93
  go_wp2_with fail
  refine (CF.out).mono ?_
  rintro e w1 ⟨rfl, hb⟩
  cases p1 with
  | true =>
    go_wp2_with fail
    go_ret
    exact ⟨ret_b (by rw [HR.out]; rfl), hb⟩
  | false =>
    go_wp2_with fail
    refine (C1.out _).mono ?_
    rintro e w2 ⟨rfl, rfl⟩
    cases b1 with
    | true =>
      go_wp2_with fail
      refine (CS.out _ hb).mono ?_
      rintro e w2 ⟨rfl, hn⟩
      have hb := below_then hb hn
      clear hn
      cases p2 with
      | true =>
        go_wp2_with fail
        go_ret
        exact ⟨ret_b (by rw [HR.out]; rfl), hb⟩
      | false =>
        go_wp2_with fail
        refine (C32.out _).mono ?_
        rintro e w2 ⟨rfl, rfl⟩
        cases b2 with
        | true =>
          go_wp2_with fail
          refine (CT.out _ hb).mono ?_
          rintro e w2 ⟨rfl, hn⟩
          have hb := below_then hb hn
          clear hn
          cases p3 with
          | true =>
            go_wp2_with fail
            go_ret
            exact ⟨ret_b (by rw [HR.out]; rfl), hb⟩
          | false =>
            go_wp2_with fail
            refine (CA.out _ hb).mono ?_
            rintro e w2 ⟨rfl, rfl⟩
            cases p5 with
            | true =>
              go_wp2_with fail
              refine (C16.out _).mono ?_
              rintro e w2 ⟨rfl, rfl⟩
              cases b3 with
              | true =>
                go_wp2_with fail
                go_ret
                exact ⟨ret_b (by rw [HR.out]; rfl), hb⟩
              | false =>
                go_wp2_with fail
                refine (C8.out _).mono ?_
                rintro e w2 ⟨rfl, rfl⟩
                cases b4 with
                | true =>
                  go_wp2_with fail
                  refine (CR.out _ hb).mono ?_
                  rintro e w2 ⟨rfl, hn⟩
                  have hb := below_then hb hn
                  clear hn
                  cases p4 with
                  | true =>
                    go_wp2_with fail
                    go_ret
                    exact ⟨ret_b (by rw [HR.out]; rfl), hb⟩
                  | false =>
                    go_wp2_with fail
                    go_ret
                    exact ⟨ret_b (by rw [HR.out]; rfl), hb⟩
                | false =>
                  go_wp2_with fail
                  go_ret
                  exact ⟨ret_b (by rw [HR.out]; rfl), hb⟩
            | false =>
              go_wp2_with fail
              go_ret
              exact ⟨ret_b (by rw [HR.out]; rfl), hb⟩
        | false =>
          go_wp2_with fail
          refine (CA.out _ hb).mono ?_
          rintro e w2 ⟨rfl, rfl⟩
          cases p5 with
          | true =>
            go_wp2_with fail
            refine (C16.out _).mono ?_
            rintro e w2 ⟨rfl, rfl⟩
            cases b3 with
            | true =>
              go_wp2_with fail
              go_ret
              exact ⟨ret_b (by rw [HR.out]; rfl), hb⟩
            | false =>
              go_wp2_with fail
              refine (C8.out _).mono ?_
              rintro e w2 ⟨rfl, rfl⟩
              cases b4 with
              | true =>
                go_wp2_with fail
                refine (CR.out _ hb).mono ?_
                rintro e w2 ⟨rfl, hn⟩
                have hb := below_then hb hn
                clear hn
                cases p4 with
                | true =>
                  go_wp2_with fail
                  go_ret
                  exact ⟨ret_b (by rw [HR.out]; rfl), hb⟩
                | false =>
                  go_wp2_with fail
                  go_ret
                  exact ⟨ret_b (by rw [HR.out]; rfl), hb⟩
              | false =>
                go_wp2_with fail
                go_ret
                exact ⟨ret_b (by rw [HR.out]; rfl), hb⟩
          | false =>
            go_wp2_with fail
            go_ret
            exact ⟨ret_b (by rw [HR.out]; rfl), hb⟩
    | false =>
      go_wp2_with fail
      refine (C32.out _).mono ?_
      rintro e w2 ⟨rfl, rfl⟩
      cases b2 with
      | true =>
        go_wp2_with fail
        refine (CT.out _ hb).mono ?_
        rintro e w2 ⟨rfl, hn⟩
        have hb := below_then hb hn
        clear hn
        cases p3 with
        | true =>
          go_wp2_with fail
          go_ret
          exact ⟨ret_b (by rw [HR.out]; rfl), hb⟩
        | false =>
          go_wp2_with fail
          refine (CA.out _ hb).mono ?_
          rintro e w2 ⟨rfl, rfl⟩
          cases p5 with
          | true =>
            go_wp2_with fail
            refine (C16.out _).mono ?_
            rintro e w2 ⟨rfl, rfl⟩
            cases b3 with
            | true =>
              go_wp2_with fail
              go_ret
              exact ⟨ret_b (by rw [HR.out]; rfl), hb⟩
            | false =>
              go_wp2_with fail
              refine (C8.out _).mono ?_
              rintro e w2 ⟨rfl, rfl⟩
              cases b4 with
              | true =>
                go_wp2_with fail
                refine (CR.out _ hb).mono ?_
                rintro e w2 ⟨rfl, hn⟩
                have hb := below_then hb hn
                clear hn
                cases p4 with
                | true =>
                  go_wp2_with fail
                  go_ret
                  exact ⟨ret_b (by rw [HR.out]; rfl), hb⟩
                | false =>
                  go_wp2_with fail
                  go_ret
                  exact ⟨ret_b (by rw [HR.out]; rfl), hb⟩
              | false =>
                go_wp2_with fail
                go_ret
                exact ⟨ret_b (by rw [HR.out]; rfl), hb⟩
          | false =>
            go_wp2_with fail
            go_ret
            exact ⟨ret_b (by rw [HR.out]; rfl), hb⟩
      | false =>
        go_wp2_with fail
        refine (CA.out _ hb).mono ?_
        rintro e w2 ⟨rfl, rfl⟩
        cases p5 with
        | true =>
          go_wp2_with fail
          refine (C16.out _).mono ?_
          rintro e w2 ⟨rfl, rfl⟩
          cases b3 with
          | true =>
            go_wp2_with fail
            go_ret
            exact ⟨ret_b (by rw [HR.out]; rfl), hb⟩
          | false =>
            go_wp2_with fail
            refine (C8.out _).mono ?_
            rintro e w2 ⟨rfl, rfl⟩
            cases b4 with
            | true =>
              go_wp2_with fail
              refine (CR.out _ hb).mono ?_
              rintro e w2 ⟨rfl, hn⟩
              have hb := below_then hb hn
              clear hn
              cases p4 with
              | true =>
                go_wp2_with fail
                go_ret
                exact ⟨ret_b (by rw [HR.out]; rfl), hb⟩
              | false =>
                go_wp2_with fail
                go_ret
                exact ⟨ret_b (by rw [HR.out]; rfl), hb⟩
            | false =>
              go_wp2_with fail
              go_ret
              exact ⟨ret_b (by rw [HR.out]; rfl), hb⟩
        | false =>
          go_wp2_with fail
          go_ret
          exact ⟨ret_b (by rw [HR.out]; rfl), hb⟩
/-- Is one seen by another one, since that sees somebody else, as the reference says it? -/
def folJ (m : List Pr) (x : Nat) (l : List Int) (i k j : Int) : Bool := hasP m j k && ((hasT x 2 && hasP m i j) || (hasT x 4 && ahR l i j))
def folR (m : List Pr) (x : Nat) (l : List Int) (i k : Int) (n : Nat) : Bool := (List.range n).any fun j => folJ m x l i k (j : Int)
set_option maxHeartbeats 16000000 in
theorem rfollows_any (vm vr : Value) (m : List Pr) (n x : Nat) (hx : x < 64) (hn : n ≤ 1000) (l : List Int) (i k : Int) (w : World) (hm : Prs w vm m) (hl : Ints w vr l) :
    Calls Tryz.prog 94 #[vm, .int .i64 n, .int .i64 x, vr, .int .i64 i, .int .i64 k] w fun e w' => e = .returned (.bool (folR m x l i k n)) ∧ w = w' := by
  have CH := Lib.hid (fun a b => phas_any vm m a b w hm)
  have CA := Lib.hid (fun j => rahead_any vr l i j w hl)
  have C2 := Lib.hid (rl_has x 2 hx (by omega) (by omega) w)
  have C4 := Lib.hid (rl_has x 4 hx (by omega) (by omega) w)
  have HJ := Lib.hid (fun j : Int => show folJ m x l i k j = (hasP m j k && ((hasT x 2 && hasP m i j) || (hasT x 4 && ahR l i j))) from rfl)
  have HR : Hid (folR m x l i k n = (List.range n).any fun j => folJ m x l i k (j : Int)) := Lib.hid rfl
  obtain ⟨ao, cap, rfl, hal⟩ := hm.form
  obtain ⟨ro, rcap, rfl, hrl⟩ := hl.form
  clear hm hl
  generalize folR m x l i k n = z at *
  generalize folJ m x l i k = F at *
  generalize hasT x 2 = b1 at *
  generalize hasT x 4 = b2 at *
  go_enter Tryz.func94, Tryz.ntmps94
  go_wp2_with fail
  go_loopw [13] (fun v wr => ∃ j : Nat, j ≤ n ∧ v = .int .i64 j ∧ Hid (((List.range j).any fun j => F (j : Int)) = false) ∧ w = wr) (fun v _ => n - (intOf v).toNat)
  case atStart => exact ⟨0, by omega, rfl, Lib.hid rfl, rfl⟩
  case round =>
    obtain ⟨j, hj, rfl, HP, rfl⟩ := hrel
    by_cases hlt : j < n
    · have hji : (j : Int) < (n : Int) := by omega
      have HS := Lib.hid (show ((List.range (j + 1)).any fun j => F (j : Int)) = F (j : Int) by rw [List.range_succ, List.any_append, HP.out]; simp)
      have HY := Lib.hid (show F (j : Int) = true → z = true from fun h => by rw [HR.out]; exact List.any_eq_true.2 ⟨j, List.mem_range.2 hlt, h⟩)
      have HQ := Lib.hid (HJ.out (j : Int))
      have D1 := Lib.hid (CH.out (j : Int) k)
      have D2 := Lib.hid (CH.out i (j : Int))
      have D3 := Lib.hid (CA.out (j : Int))
      generalize hasP m (j : Int) k = p1 at *
      generalize hasP m i (j : Int) = p2 at *
      generalize ahR l i (j : Int) = p3 at *
      generalize F (j : Int) = q at *
      clear CH CA HJ HP HR
      go_wp2_with fail
      refine (D1.out).mono ?_
      rintro e w1 ⟨rfl, rfl⟩
      cases p1 with
      | true =>
        go_wp2_with fail
        refine (C2.out).mono ?_
        rintro e w1 ⟨rfl, rfl⟩
        cases b1 with
        | true =>
          go_wp2_with fail
          refine (D2.out).mono ?_
          rintro e w1 ⟨rfl, rfl⟩
          cases p2 with
          | true =>
            have HT : Hid (true = z) := Lib.hid (HY.out (by rw [HQ.out]; rfl)).symm
            clear HS HQ HY D1 D2 D3
            go_wp2_with fail
            go_ret
            exact ⟨ret_b HT.out, rfl⟩
          | false =>
            go_wp2_with fail
            refine (C4.out).mono ?_
            rintro e w1 ⟨rfl, rfl⟩
            cases b2 with
            | true =>
              go_wp2_with fail
              refine (D3.out).mono ?_
              rintro e w1 ⟨rfl, rfl⟩
              cases p3 with
              | true =>
                have HT : Hid (true = z) := Lib.hid (HY.out (by rw [HQ.out]; rfl)).symm
                clear HS HQ HY D1 D2 D3
                go_wp2_with fail
                go_ret
                exact ⟨ret_b HT.out, rfl⟩
              | false =>
                have HN : Hid (((List.range (j + 1)).any fun j => F (j : Int)) = false) := Lib.hid (by rw [HS.out, HQ.out]; rfl)
                clear HS HQ HY D1 D2 D3
                go_wp2_with fail
                go_roundw
                case rel => exact ⟨j + 1, by omega, by go_num, HN, by first | rfl | trivial⟩
                case measure => simp [intOf]; omega
            | false =>
              have HN : Hid (((List.range (j + 1)).any fun j => F (j : Int)) = false) := Lib.hid (by rw [HS.out, HQ.out]; rfl)
              clear HS HQ HY D1 D2 D3
              go_wp2_with fail
              go_roundw
              case rel => exact ⟨j + 1, by omega, by go_num, HN, by first | rfl | trivial⟩
              case measure => simp [intOf]; omega
        | false =>
          go_wp2_with fail
          refine (C4.out).mono ?_
          rintro e w1 ⟨rfl, rfl⟩
          cases b2 with
          | true =>
            go_wp2_with fail
            refine (D3.out).mono ?_
            rintro e w1 ⟨rfl, rfl⟩
            cases p3 with
            | true =>
              have HT : Hid (true = z) := Lib.hid (HY.out (by rw [HQ.out]; rfl)).symm
              clear HS HQ HY D1 D2 D3
              go_wp2_with fail
              go_ret
              exact ⟨ret_b HT.out, rfl⟩
            | false =>
              have HN : Hid (((List.range (j + 1)).any fun j => F (j : Int)) = false) := Lib.hid (by rw [HS.out, HQ.out]; rfl)
              clear HS HQ HY D1 D2 D3
              go_wp2_with fail
              go_roundw
              case rel => exact ⟨j + 1, by omega, by go_num, HN, by first | rfl | trivial⟩
              case measure => simp [intOf]; omega
          | false =>
            have HN : Hid (((List.range (j + 1)).any fun j => F (j : Int)) = false) := Lib.hid (by rw [HS.out, HQ.out]; rfl)
            clear HS HQ HY D1 D2 D3
            go_wp2_with fail
            go_roundw
            case rel => exact ⟨j + 1, by omega, by go_num, HN, by first | rfl | trivial⟩
            case measure => simp [intOf]; omega
      | false =>
        have HN : Hid (((List.range (j + 1)).any fun j => F (j : Int)) = false) := Lib.hid (by rw [HS.out, HQ.out]; rfl)
        clear HS HQ HY D1 D2 D3
        go_wp2_with fail
        go_roundw
        case rel => exact ⟨j + 1, by omega, by go_num, HN, by first | rfl | trivial⟩
        case measure => simp [intOf]; omega
    · have hj2 : j = n := by omega
      subst hj2
      have HV : Hid (false = z) := Lib.hid (by rw [HR.out]; exact HP.out.symm)
      clear HP HR
      go_wp2_with fail
      go_ret
      exact ⟨ret_b HV.out, rfl⟩
end Go.Proofs.YtkaldidcekcpnaaGreatDoor

namespace Go.Proofs.YtkaldidcekcpnaaGreatDoor
set_option maxRecDepth 100000
open Go.RowKit

/-- All pairs of numbers below n. -/
def gridP (n : Nat) : List Pr := (List.range n).flatMap fun i => (List.range n).map fun k => (((i : Nat) : Int), ((k : Nat) : Int))
theorem gridP_len (n : Nat) : (gridP n).length = n * n := by
  unfold gridP
  rw [List.length_flatMap]
  have : ((List.range n).map fun i => ((List.range n).map fun k => ((((i : Nat) : Int), ((k : Nat) : Int)) : Pr)).length) = (List.range n).map fun _ => n := by simp
  rw [this, List.map_const']
  have hr : ∀ n k : Nat, (List.replicate n k).sum = n * k := by
    intro n k; induction n with
    | zero => simp
    | succ n ih => rw [List.replicate_succ, List.sum_cons, ih, Nat.succ_mul]; omega
  rw [hr, List.length_range]
theorem mem_gridP {n : Nat} {p : Pr} : p ∈ gridP n ↔ ∃ i k : Nat, i < n ∧ k < n ∧ p = ((i : Int), (k : Int)) := by
  unfold gridP
  rw [List.mem_flatMap]
  constructor
  · rintro ⟨i, hi, h⟩
    obtain ⟨k, hk, e⟩ := List.mem_map.1 h
    exact ⟨i, k, List.mem_range.1 hi, List.mem_range.1 hk, e.symm⟩
  · rintro ⟨i, k, hi, hk, rfl⟩
    exact ⟨i, List.mem_range.2 hi, List.mem_map.2 ⟨k, List.mem_range.2 hk, rfl⟩⟩
/-- Each once, of numbers below n, and each is one of M. -/
def InM (n : Nat) (M : Nat → Nat → Prop) (m : List Pr) : Prop := m.Nodup ∧ ∀ p ∈ m, ∃ i k : Nat, i < n ∧ k < n ∧ p = ((i : Int), (k : Int)) ∧ M i k
theorem InM.len {n : Nat} {M : Nat → Nat → Prop} {m : List Pr} (h : InM n M m) : m.length ≤ n * n := by
  rw [← gridP_len]
  refine nodup_le m (gridP n) h.1 fun p hp => ?_
  obtain ⟨i, k, hi, hk, e, _⟩ := h.2 p hp
  exact mem_gridP.2 ⟨i, k, hi, hk, e⟩
theorem InM.put {n : Nat} {M : Nat → Nat → Prop} {m : List Pr} (h : InM n M m) {i k : Nat} (hi : i < n) (hk : k < n) (hM : M i k) : InM n M (putP m (i : Int) (k : Int)) := by
  refine ⟨putP_nodup h.1, fun p hp => ?_⟩
  rcases mem_putP.1 hp with hp | rfl
  · exact h.2 p hp
  · exact ⟨i, k, hi, hk, rfl, hM⟩
/-- What must be seen of the start, what comes ahead, as the reference says it. -/
def staR (h : List TxnV) (x : Nat) (l : List Int) (n : Nat) : Mat := fun i k => decide (i < n) && decide (k < n) && decide (i ≠ k) && mustR h x l i k
def ahdR (l : List Int) (n : Nat) : Mat := fun i k => decide (i < n) && decide (k < n) && ahR l (i : Int) (k : Int)
def LeaR (h : List TxnV) (x : Nat) (l : List Int) (n i k : Nat) : Prop := Must (staR h x l n) (ahdR l n) (hasT x 2) (hasT x 4) i k
theorem staR_iff {h : List TxnV} {x : Nat} {l : List Int} {n i k : Nat} : staR h x l n i k = true ↔ i < n ∧ k < n ∧ i ≠ k ∧ mustR h x l i k = true := by
  unfold staR; simp [and_assoc]
theorem ahdR_iff {l : List Int} {n i k : Nat} : ahdR l n i k = true ↔ i < n ∧ k < n ∧ ahR l (i : Int) (k : Int) = true := by
  unfold ahdR; simp [and_assoc]
theorem leaR_lt {h : List TxnV} {x : Nat} {l : List Int} {n i k : Nat} (hm : LeaR h x l n i k) : i < n ∧ k < n := by
  induction hm with
  | base hs => have := staR_iff.1 hs; exact ⟨this.1, this.2.1⟩
  | trans _ _ _ _ ih1 ih2 => exact ⟨ih1.1, ih2.2⟩
  | pre _ _ ha _ ih => exact ⟨(ahdR_iff.1 ha).1, ih.2⟩
/-- Are all pairs ahead of a place looked at: each is there, or isn't wanted? -/
def DoneTo (n : Nat) (P : Nat → Nat → Prop) (i0 k0 : Nat) : Prop := ∀ i k : Nat, i < n → k < n → (i < i0 ∨ (i = i0 ∧ k < k0)) → P i k
theorem DoneTo.row {n : Nat} {P : Nat → Nat → Prop} {i0 : Nat} (h : DoneTo n P i0 n) : DoneTo n P (i0 + 1) 0 := fun i k hi hk hlt => h i k hi hk (by omega)
theorem DoneTo.next {n : Nat} {P : Nat → Nat → Prop} {i0 k0 : Nat} (h : DoneTo n P i0 k0) (hp : P i0 k0) : DoneTo n P i0 (k0 + 1) := fun i k hi hk hlt => by
  by_cases e : i = i0 ∧ k = k0
  · rw [e.1, e.2]; exact hp
  · exact h i k hi hk (by omega)
theorem DoneTo.none {n : Nat} {P : Nat → Nat → Prop} : DoneTo n P 0 0 := fun i k _ _ h => by omega
theorem DoneTo.mono {n : Nat} {P Q : Nat → Nat → Prop} {i0 k0 : Nat} (h : DoneTo n P i0 k0) (hp : ∀ i k, P i k → Q i k) : DoneTo n Q i0 k0 := fun i k hi hk hlt => hp i k (h i k hi hk hlt)
theorem DoneTo.all {n : Nat} {P : Nat → Nat → Prop} {k0 : Nat} (h : DoneTo n P n k0) (i k : Nat) (hi : i < n) (hk : k < n) : P i k := h i k hi hk (.inl hi)
/-- The first round: what must be seen of the start. -/
def FirP (h : List TxnV) (x : Nat) (l : List Int) (n : Nat) (m : List Pr) (i k : Nat) : Prop := staR h x l n i k = true → ((i : Int), (k : Int)) ∈ m
/-- A round that adds nothing: what follows is there. -/
def ClsP (x : Nat) (l : List Int) (n : Nat) (m : List Pr) (i k : Nat) : Prop := hasP m (i : Int) (k : Int) = true ∨ folR m x l (i : Int) (k : Int) n = false
theorem folR_iff {m : List Pr} {x : Nat} {l : List Int} {i k : Int} {n : Nat} : folR m x l i k n = true ↔ ∃ j : Nat, j < n ∧ ((j : Int), k) ∈ m ∧ ((hasT x 2 = true ∧ (i, (j : Int)) ∈ m) ∨ (hasT x 4 = true ∧ ahR l i (j : Int) = true)) := by
  unfold folR folJ
  rw [List.any_eq_true]
  constructor
  · rintro ⟨j, hj, h⟩
    rw [Bool.and_eq_true, Bool.or_eq_true, Bool.and_eq_true, Bool.and_eq_true, hasP_iff, hasP_iff] at h
    exact ⟨j, List.mem_range.1 hj, h.1, h.2⟩
  · rintro ⟨j, hj, h1, h2⟩
    refine ⟨j, List.mem_range.2 hj, ?_⟩
    rw [Bool.and_eq_true, Bool.or_eq_true, Bool.and_eq_true, Bool.and_eq_true, hasP_iff, hasP_iff]
    exact ⟨h1, h2⟩
theorem fol_lea {h : List TxnV} {x : Nat} {l : List Int} {n : Nat} {m : List Pr} (hn : n ≤ 64) (hm : InM n (LeaR h x l n) m) {i k : Nat} (hi : i < n) (hf : folR m x l (i : Int) (k : Int) n = true) : LeaR h x l n i k := by
  obtain ⟨j, hj, h1, h2⟩ := folR_iff.1 hf
  obtain ⟨a, b, ha, hb, e, hab⟩ := hm.2 _ h1
  have e1 := congrArg Prod.fst e
  have e2 := congrArg Prod.snd e
  simp at e1 e2
  obtain rfl : j = a := by omega
  obtain rfl : k = b := by omega
  rcases h2 with ⟨h2, h3⟩ | ⟨h2, h3⟩
  · obtain ⟨a, c, _, _, e, hac⟩ := hm.2 _ h3
    have e1 := congrArg Prod.fst e
    have e2 := congrArg Prod.snd e
    simp at e1 e2
    obtain rfl : i = a := by omega
    obtain rfl : j = c := by omega
    exact .trans h2 (by omega) hac hab
  · exact .pre h2 (by omega) (ahdR_iff.2 ⟨hi, hj, h3⟩) hab
/-- What the reference's Of answers. -/
def LeaL (h : List TxnV) (x : Nat) (l : List Int) (n : Nat) (m : List Pr) : Prop := m.Nodup ∧ ∀ a b : Int, (a, b) ∈ m ↔ ∃ i k : Nat, a = (i : Int) ∧ b = (k : Int) ∧ LeaR h x l n i k
theorem lea_done {h : List TxnV} {x : Nat} {l : List Int} {n : Nat} {m : List Pr} (hm : InM n (LeaR h x l n) m) (hf : ∀ i k : Nat, i < n → k < n → FirP h x l n m i k) (hc : ∀ i k : Nat, i < n → k < n → ClsP x l n m i k) : LeaL h x l n m := by
  refine ⟨hm.1, fun a b => ⟨fun hp => ?_, ?_⟩⟩
  · obtain ⟨i, k, _, _, e, hM⟩ := hm.2 _ hp
    exact ⟨i, k, congrArg Prod.fst e, congrArg Prod.snd e, hM⟩
  · rintro ⟨i, k, rfl, rfl, hM⟩
    have step : ∀ i k : Nat, i < n → k < n → folR m x l (i : Int) (k : Int) n = true → ((i : Int), (k : Int)) ∈ m := fun i k hi hk hfo => by
      rcases hc i k hi hk with h | h
      · exact hasP_iff.1 h
      · rw [h] at hfo; cases hfo
    unfold LeaR at hM
    induction hM with
    | base hs => have := staR_iff.1 hs; exact hf _ _ this.1 this.2.1 hs
    | @trans i j k ht _ h1 h2 ih1 ih2 =>
      have l1 := leaR_lt (h := h) (x := x) (l := l) h1
      have l2 := leaR_lt (h := h) (x := x) (l := l) h2
      exact step i k l1.1 l2.2 (folR_iff.2 ⟨j, l1.2, ih2, .inl ⟨ht, ih1⟩⟩)
    | @pre i j k ht _ ha h2 ih =>
      have l1 := ahdR_iff.1 ha
      have l2 := leaR_lt (h := h) (x := x) (l := l) h2
      exact step i k l1.1 l2.2 (folR_iff.2 ⟨j, l1.2.1, ih, .inr ⟨ht, l1.2.2⟩⟩)
theorem FirP.put {h : List TxnV} {x : Nat} {l : List Int} {n : Nat} {m : List Pr} {a b : Int} {i k : Nat} (hf : FirP h x l n m i k) : FirP h x l n (putP m a b) i k := fun hs => mem_putP.2 (.inl (hf hs))
def flagOf : Value → Nat
  | .bool true => 1
  | _ => 0
set_option maxHeartbeats 16000000 in
theorem rof11_any (va vr : Value) (h : List TxnV) (x : Nat) (hx : x < 64) (l : List Int) (w : World) (hn : h.length ≤ 64) (hT : Txns w va h) (hl : Ints w vr l) :
    Calls Tryz.prog 20 #[va, .int .i64 x, vr] w fun e w' => ∃ v m, e = .returned v ∧ Prs w' v m ∧ LeaL h x l h.length m ∧ Below w.heap.size w w' := by
  have CM := Lib.hid (fun (i k : Nat) (hi : i < h.length) (hk : k < h.length) (hne : i ≠ k) wx (hb : Below w.heap.size w wx) => rmust_any va vr h x hx l i k hi hk hne wx (hT.below hb) (hl.below hb))
  have CF := Lib.hid (fun (vm : Value) (m : List Pr) (i k : Int) wx (hb : Below w.heap.size w wx) (hm : Prs wx vm m) => rfollows_any vm vr m h.length x hx (by omega) l i k wx hm (hl.below hb))
  have b0 := box_below w (.cells #[] 62)
  have hm0 : Prs (w.alloc (.cells #[] 62)) (.slice (some ⟨w.heap.size, 0, none⟩) 0 0) [] := Prs.of_owns (base := 0) (World.ownsRow_lit (size := 2) _ _ _ (Nat.zero_le _) (by simp) (by simp))
  have HSQ : Hid (h.length * h.length ≤ 4096) := Lib.hid (by have := Nat.mul_le_mul hn hn; omega)
  obtain ⟨ao, cap, rfl, hal⟩ := hT.form
  obtain ⟨ro, rcap, rfl, hrl⟩ := hl.form
  have HN := Lib.hid hn
  clear hT hl hn
  go_enter Tryz.func20, Tryz.ntmps20
  go_wp2_with fail
  generalize w.alloc (.cells #[] 62) = w0 at *
  go_loopw [7, 8] (fun v iv wr => ∃ (i : Nat) (m : List Pr), i ≤ h.length ∧ iv = .int .i64 i ∧ Prs wr v m ∧ Hid (InM h.length (LeaR h x l h.length) m) ∧ Hid (DoneTo h.length (FirP h x l h.length m) i 0) ∧ Below w.heap.size w wr) (fun _ iv _ => h.length - (intOf iv).toNat)
  case atStart => exact ⟨0, [], by omega, rfl, hm0, Lib.hid ⟨List.nodup_nil, fun p hp => by cases hp⟩, Lib.hid DoneTo.none, b0⟩
  case round =>
    clear hm0 b0
    obtain ⟨i, m, hi, rfl, hm, HI, HD, hb⟩ := hrel
    by_cases hlt : i < h.length
    · have hii : (i : Int) < (h.length : Int) := by omega
      obtain ⟨mo, mcap, rfl, hml⟩ := hm.form
      clear CF
      go_wp2_with fail
      go_loopw [7, 9] (fun v kv wx => ∃ (k : Nat) (m : List Pr), k ≤ h.length ∧ kv = .int .i64 k ∧ Prs wx v m ∧ Hid (InM h.length (LeaR h x l h.length) m) ∧ Hid (DoneTo h.length (FirP h x l h.length m) i k) ∧ Below w.heap.size w wx) (fun _ kv _ => h.length - (intOf kv).toNat)
      case atStart => exact ⟨0, m, by omega, rfl, hm, HI, HD, hb⟩
      case round =>
        clear hm HI HD hb hml
        obtain ⟨k, m, hk, rfl, hm, HI, HD, hb⟩ := hrel
        obtain ⟨mo, mcap, rfl, hml⟩ := hm.form
        by_cases hlk : k < h.length
        · have hki : (k : Int) < (h.length : Int) := by omega
          by_cases e : i = k
          · subst e
            have HD2 := Lib.hid (HD.out.next (fun hs => absurd rfl (staR_iff.1 hs).2.2.1))
            clear HD CM
            go_wp2_with fail
            go_roundw
            case rel => exact ⟨i + 1, m, by omega, by go_num, hm, HI, HD2, hb⟩
            case measure => simp [intOf]; omega
          · have hne : ¬ (i : Int) = (k : Int) := by omega
            have hnb : ((i : Int) == (k : Int)) = false := beq_eq_false_iff_ne.2 hne
            have CQ := Lib.hid (CM.out i k hlt hlk e _ hb)
            have HE := Lib.hid e
            cases hmu : mustR h x l i k with
            | false =>
              rw [hmu] at CQ
              have HD2 := Lib.hid (HD.out.next (fun hs => by have := (staR_iff.1 hs).2.2.2; rw [hmu] at this; cases this))
              clear HD CM hmu e
              go_wp2_with fail
              refine (CQ.out).mono ?_
              rintro e w5 ⟨rfl, h5⟩
              have hm5 := hm.below h5
              have hb5 := below_then hb h5
              clear hm hb h5
              go_wp2_with fail
              go_roundw
              case rel => exact ⟨k + 1, m, by omega, by go_num, hm5, HI, HD2, hb5⟩
              case measure => simp [intOf]; omega
            | true =>
              rw [hmu] at CQ
              have HD2 : Hid (DoneTo h.length (FirP h x l h.length (putP m (i : Int) (k : Int))) i (k + 1)) := Lib.hid ((HD.out.mono (fun _ _ hf => hf.put)).next (fun _ => mem_putP.2 (.inr rfl)))
              have HI2 := Lib.hid (HI.out.put hlt hlk (.base (staR_iff.2 ⟨hlt, hlk, e, hmu⟩)))
              have hlen : m.length ≤ 1000000000 := by have := HI.out.len; have := HSQ.out; omega
              clear HD HI CM hmu e
              go_wp2_with fail
              refine (CQ.out).mono ?_
              rintro e w5 ⟨rfl, h5⟩
              have hm5 := hm.below h5
              have hb5 := below_then hb h5
              clear hm hb h5
              go_wp2_with fail
              refine (put_any _ m (i : Int) (k : Int) _ hm5 hlen).mono ?_
              rintro e w6 ⟨v6, rfl, hm6, h6⟩
              have hb6 := below_then hb5 h6
              clear hm5 hb5 h6 hml hlen
              obtain ⟨m2, hm2⟩ : ∃ m2, m2 = putP m (i : Int) (k : Int) := ⟨_, rfl⟩
              rw [← hm2] at hm6 HI2 HD2
              clear hm2
              go_wp2_with fail
              go_roundw
              case rel => exact ⟨k + 1, m2, by omega, by go_num, hm6, HI2, HD2, hb6⟩
              case measure => simp [intOf]; omega
        · have hkn : k = h.length := by omega
          have HD2 : Hid (DoneTo h.length (FirP h x l h.length m) (i + 1) 0) := Lib.hid (by have := HD.out; rw [hkn] at this; exact this.row)
          have hnk : ¬ (k : Int) < (h.length : Int) := by omega
          clear HD hkn CM
          go_wp2_with fail
          go_roundw
          case rel => exact ⟨i + 1, m, by omega, by go_num, hm, HI, HD2, hb⟩
          case measure => simp [intOf]; omega
    · have hin : i = h.length := by omega
      have HF : Hid (∀ a b : Nat, a < h.length → b < h.length → FirP h x l h.length m a b) := Lib.hid (by have := HD.out; rw [hin] at this; exact fun a b ha hb => this.all a b ha hb)
      have hni : ¬ (i : Int) < (h.length : Int) := by omega
      obtain ⟨mo, mcap, rfl, hml⟩ := hm.form
      clear HD CM hin hlt hi
      go_wp2_with fail
      go_loopw [7, 10] (fun v qv wr => ∃ (m : List Pr) (q : Bool), qv = .bool q ∧ Prs wr v m ∧ Hid (InM h.length (LeaR h x l h.length) m) ∧ Hid (∀ a b : Nat, a < h.length → b < h.length → FirP h x l h.length m a b) ∧ Hid (q = false → ∀ a b : Nat, a < h.length → b < h.length → ClsP x l h.length m a b) ∧ Below w.heap.size w wr) (fun v qv _ => 2 * (5000 - lenOf v) + flagOf qv)
      case atStart => exact ⟨m, true, rfl, hm, HI, HF, Lib.hid (fun h => by cases h), hb⟩
      case round =>
        clear hm HI HF hb hml
        obtain ⟨m, q, rfl, hm, HI, HF, HC, hb⟩ := hrel
        obtain ⟨mo, mcap, rfl, hml⟩ := hm.form
        have hl0 : m.length ≤ 4096 := by have := HI.out.len; have := HSQ.out; omega
        cases q with
        | false =>
          have HL := Lib.hid (lea_done HI.out HF.out (HC.out rfl))
          clear HI HF HC
          go_wp2_with fail
          go_ret
          exact ⟨_, m, rfl, hm, HL.out, hb⟩
        | true =>
          clear HC
          go_wp2_with fail
          obtain ⟨n0, hn0⟩ : ∃ n0, n0 = m.length := ⟨_, rfl⟩
          go_loopw [7, 10, 11] (fun v qv iv wr => ∃ (i : Nat) (m : List Pr) (q : Bool), i ≤ h.length ∧ iv = .int .i64 i ∧ qv = .bool q ∧ Prs wr v m ∧ Hid (InM h.length (LeaR h x l h.length) m) ∧ Hid (∀ a b : Nat, a < h.length → b < h.length → FirP h x l h.length m a b) ∧ Hid (q = false → DoneTo h.length (ClsP x l h.length m) i 0) ∧ Hid (n0 + flagOf (.bool q) ≤ m.length) ∧ Below w.heap.size w wr) (fun _ _ iv _ => h.length - (intOf iv).toNat)
          case atStart => exact ⟨0, m, false, by omega, rfl, rfl, hm, HI, HF, Lib.hid (fun _ => DoneTo.none), Lib.hid (by simp [flagOf]; omega), hb⟩
          case round =>
            clear hm HI HF hb hml
            obtain ⟨i, m1, q, hi, rfl, rfl, hm, HI, HF, HC, HG, hb⟩ := hrel
            obtain ⟨mo1, mcap1, rfl, hml⟩ := hm.form
            by_cases hlt : i < h.length
            · have hii : (i : Int) < (h.length : Int) := by omega
              go_wp2_with fail
              go_loopw [7, 10, 12] (fun v qv kv wx => ∃ (k : Nat) (m : List Pr) (q : Bool), k ≤ h.length ∧ kv = .int .i64 k ∧ qv = .bool q ∧ Prs wx v m ∧ Hid (InM h.length (LeaR h x l h.length) m) ∧ Hid (∀ a b : Nat, a < h.length → b < h.length → FirP h x l h.length m a b) ∧ Hid (q = false → DoneTo h.length (ClsP x l h.length m) i k) ∧ Hid (n0 + flagOf (.bool q) ≤ m.length) ∧ Below w.heap.size w wx) (fun _ _ kv _ => h.length - (intOf kv).toNat)
              case atStart => exact ⟨0, m1, q, by omega, rfl, rfl, hm, HI, HF, HC, HG, hb⟩
              case round =>
                clear hm HI HF hb hml HC HG
                obtain ⟨k, m2, q, hk, rfl, rfl, hm, HI, HF, HC, HG, hb⟩ := hrel
                obtain ⟨mo2, mcap2, rfl, hml⟩ := hm.form
                by_cases hlk : k < h.length
                · have hki : (k : Int) < (h.length : Int) := by omega
                  have CH := Lib.hid (phas_any _ m2 (i : Int) (k : Int) _ hm)
                  have CQ := Lib.hid (CF.out _ m2 (i : Int) (k : Int) _ hb hm)
                  cases hh : hasP m2 (i : Int) (k : Int) with
                  | true =>
                    have HC2 : Hid (q = false → DoneTo h.length (ClsP x l h.length m2) i (k + 1)) := Lib.hid (fun hq => (HC.out hq).next (.inl hh))
                    rw [hh] at CH
                    clear CQ HC hh CF
                    go_wp2_with fail
                    refine (CH.out).mono ?_
                    rintro e w5 ⟨rfl, rfl⟩
                    go_wp2_with fail
                    go_roundw
                    case rel => exact ⟨k + 1, m2, q, by omega, by go_num, rfl, hm, HI, HF, HC2, HG, hb⟩
                    case measure => simp [intOf]; omega
                  | false =>
                    rw [hh] at CH
                    cases hfo : folR m2 x l (i : Int) (k : Int) h.length with
                    | false =>
                      have HC2 : Hid (q = false → DoneTo h.length (ClsP x l h.length m2) i (k + 1)) := Lib.hid (fun hq => (HC.out hq).next (.inr hfo))
                      rw [hfo] at CQ
                      clear HC hh CF hfo
                      go_wp2_with fail
                      refine (CH.out).mono ?_
                      rintro e w5 ⟨rfl, rfl⟩
                      go_wp2_with fail
                      refine (CQ.out).mono ?_
                      rintro e w5 ⟨rfl, rfl⟩
                      go_wp2_with fail
                      go_roundw
                      case rel => exact ⟨k + 1, m2, q, by omega, by go_num, rfl, hm, HI, HF, HC2, HG, hb⟩
                      case measure => simp [intOf]; omega
                    | true =>
                      have HI2 := Lib.hid (HI.out.put hlt hlk (fol_lea HN.out HI.out hlt hfo))
                      have HF2 : Hid (∀ a b : Nat, a < h.length → b < h.length → FirP h x l h.length (putP m2 (i : Int) (k : Int)) a b) := Lib.hid (fun a b ha hb => (HF.out a b ha hb).put)
                      have HG2 : Hid (n0 + flagOf (.bool true) ≤ (putP m2 (i : Int) (k : Int)).length) := Lib.hid (by
                        have := HG.out
                        unfold putP
                        rw [hh, if_neg (by decide), List.length_append]
                        simp only [flagOf, List.length_cons, List.length_nil]
                        omega)
                      have hlen : m2.length ≤ 1000000000 := by have := HI.out.len; have := HSQ.out; omega
                      rw [hfo] at CQ
                      clear HC hh CF hfo HI HF HG
                      go_wp2_with fail
                      refine (CH.out).mono ?_
                      rintro e w5 ⟨rfl, rfl⟩
                      go_wp2_with fail
                      refine (CQ.out).mono ?_
                      rintro e w5 ⟨rfl, rfl⟩
                      go_wp2_with fail
                      refine (put_any _ m2 (i : Int) (k : Int) _ hm hlen).mono ?_
                      rintro e w6 ⟨v6, rfl, hm6, h6⟩
                      have hb6 := below_then hb h6
                      clear hm hb h6 hml hlen CH CQ
                      obtain ⟨m3, hm3⟩ : ∃ m3, m3 = putP m2 (i : Int) (k : Int) := ⟨_, rfl⟩
                      rw [← hm3] at hm6 HI2 HF2 HG2
                      clear hm3
                      go_wp2_with fail
                      go_roundw
                      case rel => exact ⟨k + 1, m3, true, by omega, by go_num, rfl, hm6, HI2, HF2, Lib.hid (fun h => by cases h), HG2, hb6⟩
                      case measure => simp [intOf]; omega
                · have hkn : k = h.length := by omega
                  have HC2 : Hid (q = false → DoneTo h.length (ClsP x l h.length m2) (i + 1) 0) := Lib.hid (fun hq => by have := HC.out hq; rw [hkn] at this; exact this.row)
                  have hnk : ¬ (k : Int) < (h.length : Int) := by omega
                  clear HC hkn CF
                  go_wp2_with fail
                  go_roundw
                  case rel => exact ⟨i + 1, m2, q, by omega, by go_num, rfl, hm, HI, HF, HC2, HG, hb⟩
                  case measure => simp [intOf]; omega
            · have hin : i = h.length := by omega
              have HC2 : Hid (q = false → ∀ a b : Nat, a < h.length → b < h.length → ClsP x l h.length m1 a b) := Lib.hid (fun hq => by have := HC.out hq; rw [hin] at this; exact fun a b ha hb => this.all a b ha hb)
              have hni : ¬ (i : Int) < (h.length : Int) := by omega
              have hlm : m1.length ≤ 4096 := by have := HI.out.len; have := HSQ.out; omega
              have HME : Hid (2 * (5000 - m1.length) + flagOf (.bool q) < 2 * (5000 - m.length) + flagOf (.bool true)) := Lib.hid (by
                have := HG.out
                rw [hn0] at this
                cases q <;> simp only [flagOf] at * <;> omega)
              clear HC hin CF
              go_wp2_with fail
              go_roundw
              case rel => exact ⟨m1, q, rfl, hm, HI, HF, HC2, hb⟩
              case measure => exact HME.out
end Go.Proofs.YtkaldidcekcpnaaGreatDoor

namespace Go.Proofs.YtkaldidcekcpnaaGreatDoor
set_option maxRecDepth 100000
open Go.RowKit

set_option maxHeartbeats 8000000 in
theorem lsame_any (R : Mat) (va : Value) (m : List Pr) (n : Nat) (hn : n ≤ 64) (w : World) (ha : Prs w va m) (hR : Rep R m) :
    Calls Tryz.prog 19 #[.agg (rowsA R), .int .i64 n, va] w fun e w' => e = .returned (.int .i64 1) ∧ Below w.heap.size w w' := by
  have HR0 := RelAt.new w 37 R
  have HB0 : Below w.heap.size w (w.alloc (.cells (rowsA R) 37)) := (Below.refl w.heap.size w).alloc (Nat.le_refl _) _
  have HC : Hid (cntTo R 64 = m.length) := Lib.hid (by
    have := same_rep hR
    unfold sameB at this
    rw [Bool.and_eq_true, decide_eq_true_eq] at this
    exact this.2)
  have HQ : Hid (∀ i k : Nat, hasR R (i : Int) (k : Int) = hasP m (i : Int) (k : Int)) := Lib.hid (fun i k => by rw [Bool.eq_iff_iff, hasR_rep hR, hasP_iff])
  have CP := Lib.hid (fun (i k : Nat) wx (hx : Below w.heap.size w wx) => phas_any va m (i : Int) (k : Int) wx (ha.below hx))
  obtain ⟨ao, cap, rfl, hal⟩ := ha.form
  clear ha hR
  go_enter Tryz.func19, Tryz.ntmps19
  go_wp2_with (with_reducible refine wpList_load_rel HR0 rfl _ rfl rfl ?_)
  go_loop [7, 13] (fun n i => ∃ k : Nat, k ≤ 64 ∧ i = .int .i64 k ∧ n = .int .i64 ((cntTo R k : Nat) : Int)) (fun _ i => 64 - (intOf i).toNat)
  case atStart => exact ⟨0, by omega, rfl, rfl⟩
  case round =>
    obtain ⟨k, hk, rfl, rfl⟩ := hrel
    have hcl := cntTo_le R k
    by_cases hlt : k < 64
    · have hidx := fun wx => run_index_rel R k hlt wx
      have hset := isSet_mkS (R k)
      have hl64 : (lst (mkS (R k))).length ≤ 64 := lstTo_len _ 64
      have HS : Hid (cntTo R (k + 1) = cntTo R k + (lst (mkS (R k))).length) := Lib.hid rfl
      generalize mkS (R k) = x at *
      generalize cntTo R k = c at *
      go_wp2_with (go_at_call 92; refine (scount_any x _ hset).mono ?_; rintro e w' ⟨rfl, rfl⟩)
      go_round
      case rel => exact ⟨k + 1, by omega, by go_num, by rw [HS.out]; go_num⟩
      case measure => simp [intOf]; omega
    · have hk64 : k = 64 := by omega
      subst hk64
      have hcb : ((cntTo R 64 : Int) == (m.length : Int)) = true := by rw [beq_iff_eq, HC.out]
      have hcl : ((cntTo R 64 : Nat) : Int) = (m.length : Int) := by rw [HC.out]
      have HCL := Lib.hid hcl
      clear hcl
      generalize cntTo R 64 = c at *
      go_wp2_with fail
      go_loopw [22] (fun i wr => ∃ j : Nat, j ≤ n ∧ i = .int .i64 j ∧ RelAt wr w.heap.size 37 R ∧ Below w.heap.size w wr) (fun i _ => n - (intOf i).toNat)
      case atStart => exact ⟨0, by omega, rfl, HR0, HB0⟩
      case round =>
        clear HR0 HB0
        obtain ⟨i, hi, rfl, hr, hb⟩ := hrel
        by_cases hlt : i < n
        · have hii : (i : Int) < (n : Int) := by omega
          go_wp2_with fail
          go_loopw [26] (fun i wr => ∃ j : Nat, j ≤ n ∧ i = .int .i64 j ∧ RelAt wr w.heap.size 37 R ∧ Below w.heap.size w wr) (fun i _ => n - (intOf i).toNat)
          case atStart => exact ⟨0, by omega, rfl, hr, hb⟩
          case round =>
            clear hr hb
            obtain ⟨k, hk, rfl, hr, hb⟩ := hrel
            by_cases hlk : k < n
            · have hki : (k : Int) < (n : Int) := by omega
              have CR := Lib.hid (fun wx => rhasR_any R (i : Int) (k : Int) wx)
              have D := Lib.hid (CP.out i k)
              rw [HQ.out i k] at CR
              generalize hasP m (i : Int) (k : Int) = q at *
              go_wp2_with (with_reducible refine wpList_load_rel hr rfl _ rfl rfl ?_)
              refine (CR.out _).mono ?_
              rintro e w3 ⟨rfl, h3⟩
              have hr3 := hr.below h3 hr.lt
              have hb3 := below_then hb h3
              clear hr hb h3
              go_wp2_with fail
              refine (D.out _ hb3).mono ?_
              rintro e w4 ⟨rfl, rfl⟩
              clear CR D
              cases q with
              | true =>
                go_wp2_with fail
                go_roundw
                case rel => exact ⟨k + 1, by omega, by go_num, hr3, hb3⟩
                case measure => simp [intOf]; omega
              | false =>
                go_wp2_with fail
                go_roundw
                case rel => exact ⟨k + 1, by omega, by go_num, hr3, hb3⟩
                case measure => simp [intOf]; omega
            · have hkn : ¬ (k : Int) < (n : Int) := by omega
              go_wp2_with fail
              go_roundw
              case rel => exact ⟨i + 1, by omega, by go_num, hr, hb⟩
              case measure => simp [intOf]; omega
        · have hni : ¬ (i : Int) < (n : Int) := by omega
          have hcl := HCL.out
          have hcq : ((c : Int) != (m.length : Int)) = false := by rw [bne_eq_false_iff_eq]; exact hcl
          clear hcl
          go_wp2_with fail
          go_ret
          exact ⟨rfl, hb⟩
end Go.Proofs.YtkaldidcekcpnaaGreatDoor

namespace Go.Proofs.YtkaldidcekcpnaaGreatDoor
set_option maxRecDepth 100000
open Go.RowKit

theorem block_lt' {w : World} {a : Addr} {v : Value} (h : w.cell? a = some v) : a.block < w.heap.size := by
  by_cases h0 : a.block < w.heap.size
  · exact h0
  · simp [World.cell?, Array.getElem?_eq_none (Nat.le_of_not_lt h0)] at h
theorem Kinds.below {w w' : World} (h : Kinds w) (hb : Below w.heap.size w w') : Kinds w' := fun k hk => by
  obtain ⟨h1, h2⟩ := h k hk
  exact ⟨(hb.cell (block_lt' h1)).trans h1, (hb.cell (block_lt' h2)).trans h2⟩
end Go.Proofs.YtkaldidcekcpnaaGreatDoor

namespace Go.Proofs.YtkaldidcekcpnaaGreatDoor
set_option maxRecDepth 100000
open Go.RowKit

theorem hasB_nat {s : Nat} {n : Nat} (hn : n < 64) : hasB s (n : Int) = s.testBit n := by
  unfold hasB
  rw [decide_eq_true (by omega), Bool.true_and, Int.toNat_natCast]
end Go.Proofs.YtkaldidcekcpnaaGreatDoor

namespace Go.Proofs.YtkaldidcekcpnaaGreatDoor
set_option maxRecDepth 100000
open Go.RowKit

/-- The row has all numbers below n, each once. -/
def FullRow (n : Nat) (l : List Int) : Prop := l.Nodup ∧ ∀ a : Int, a ∈ l ↔ 0 ≤ a ∧ a < (n : Int)
theorem full_of_perm {n : Nat} {L : List Nat} (h : L.Perm (List.range n)) : FullRow n (L.map Int.ofNat) := by
  refine ⟨nodup_ofNat (h.nodup_iff.2 List.nodup_range), fun a => ?_⟩
  rw [List.mem_map]
  constructor
  · rintro ⟨k, hk, rfl⟩
    have := List.mem_range.1 (h.mem_iff.1 hk)
    have e : Int.ofNat k = (k : Int) := rfl
    rw [e]; omega
  · intro ha
    exact ⟨a.toNat, h.mem_iff.2 (List.mem_range.2 (by omega)), by have : Int.ofNat a.toNat = ((a.toNat : Nat) : Int) := rfl; rw [this]; omega⟩
theorem placeF_at : ∀ (l : List Int) (k0 k : Nat) (hk : k < l.length), l.Nodup → placeF l l[k] k0 = ((k0 + k : Nat) : Int)
  | [], _, k, hk, _ => by simp at hk
  | a :: l, k0, 0, _, _ => by unfold placeF; rw [if_pos (by rfl)]; rfl
  | a :: l, k0, k + 1, hk, hn => by
    rw [List.nodup_cons] at hn
    have hk2 : k < l.length := by simpa using hk
    have hne : ¬ a = (a :: l)[k + 1] := fun e => hn.1 (by rw [e]; exact List.getElem_mem hk2)
    unfold placeF
    rw [if_neg hne]
    have := placeF_at l (k0 + 1) k hk2 hn.2
    rw [show k0 + (k + 1) = k0 + 1 + k by omega]
    exact this
theorem placeI_at {l : List Int} (hn : l.Nodup) {k : Nat} (hk : k < l.length) : placeI l l[k] = (k : Int) := by
  unfold placeI
  rw [placeF_at l 0 k hk hn, Nat.zero_add]
theorem ahR_iff {l : List Int} (hn : l.Nodup) {a b : Int} (ha : a ∈ l) (hb : b ∈ l) : ahR l a b = true ↔ Ahead l a b := by
  obtain ⟨i, hi, rfl⟩ := List.mem_iff_getElem.1 ha
  obtain ⟨j, hj, rfl⟩ := List.mem_iff_getElem.1 hb
  unfold ahR
  rw [placeI_at hn hi, placeI_at hn hj, decide_eq_true_eq, ahead_at]
  constructor
  · intro hij
    refine ⟨i, hi, by rw [List.getD_eq_getElem?_getD, List.getElem?_eq_getElem hi]; rfl, ?_⟩
    refine List.mem_iff_getElem.2 ⟨j - (i + 1), by rw [List.length_drop]; omega, ?_⟩
    rw [List.getElem_drop]
    congr 1
    omega
  · rintro ⟨p, hp, h1, h2⟩
    rw [List.getD_eq_getElem?_getD, List.getElem?_eq_getElem hp, Option.getD_some] at h1
    obtain ⟨q, hq, h3⟩ := List.mem_iff_getElem.1 h2
    rw [List.length_drop] at hq
    rw [List.getElem_drop] at h3
    have e1 : p = i := (List.getElem_inj hn).1 h1
    have e2 : p + 1 + q = j := (List.getElem_inj hn).1 h3
    omega
theorem chain_mem {l : List Int} {i j : Nat} (h : chainR l i j = true) : (i : Int) ∈ l ∧ (j : Int) ∈ l := (( chainR_iff i j l).1 h).mem
theorem chain_ahd {n : Nat} {l : List Int} (hf : FullRow n l) (i j : Nat) : chainR l i j = true ↔ ahdR l n i j = true := by
  rw [ahdR_iff]
  constructor
  · intro h
    obtain ⟨h1, h2⟩ := chain_mem h
    have h3 := (hf.2 _).1 h1
    have h4 := (hf.2 _).1 h2
    exact ⟨by omega, by omega, (ahR_iff hf.1 h1 h2).2 ((chainR_iff i j l).1 h)⟩
  · rintro ⟨h1, h2, h3⟩
    have m1 : (i : Int) ∈ l := (hf.2 _).2 (by omega)
    have m2 : (j : Int) ∈ l := (hf.2 _).2 (by omega)
    exact (chainR_iff i j l).2 ((ahR_iff hf.1 m1 m2).1 h3)
theorem chain_irr {n : Nat} {l : List Int} (hf : FullRow n l) (i : Nat) : chainR l i i = false := by
  cases h : chainR l i i with
  | false => rfl
  | true => exact absurd ((chainR_iff i i l).1 h) (ahead_irr hf.1 _)
theorem hasT_bits : ∀ k : Fin 64, hasT k.val 1 = k.val.testBit 0 ∧ hasT k.val 2 = k.val.testBit 1 ∧ hasT k.val 4 = k.val.testBit 2 ∧ hasT k.val 8 = k.val.testBit 3 ∧ hasT k.val 16 = k.val.testBit 4 ∧ hasT k.val 32 = k.val.testBit 5 := by decide +kernel
theorem rivM_at {h : List TxnV} {l : List Int} {i k : Nat} (hi : i < h.length) (hk : k < h.length) (hne : i ≠ k) : rivM h (chainR l) i k = (chainR l i k && rivR h i k) := by
  unfold rivM rivB
  rw [decide_eq_true hi, decide_eq_true hk, decide_eq_true hne, Bool.true_and, Bool.true_and, Bool.true_and]
/-- The reference's least pairs are what least.Of answers. -/
theorem lea_must {h : List TxnV} {x y : Nat} {l : List Int} (hc : checkI h = 0) (hf : FullRow h.length l) (hx : x < 64) (hy : y < 9223372036854775808) (hb : ∀ b, b < 6 → y.testBit b = x.testBit b) {i j : Nat} (hi : i < 64) (hj : j < 64) :
    Must (startM h (y : Int) (chainR l)) (chainR l) (trB y) (pfB y) i j ↔ LeaR h x l h.length i j := by
  have h64 := (check_zero hc).1
  obtain ⟨t1, t2, t4, t8, t16, t32⟩ := hasT_bits ⟨x, hx⟩
  simp only at t1 t2 t4 t8 t16 t32
  have ah : ∀ i j : Nat, i < h.length → j < h.length → (ahR l (i : Int) (j : Int) = true ↔ chainR l i j = true) := fun i j hi hj => by
    rw [chain_ahd hf, ahdR_iff]; exact ⟨fun h => ⟨hi, hj, h⟩, fun h => h.2.2⟩
  have hch : ∀ i j, chainR l i j = true → i < h.length ∧ j < h.length ∧ i ≠ j := fun i j hc2 => by
    obtain ⟨m1, m2⟩ := chain_mem hc2
    have h3 := (hf.2 _).1 m1
    have h4 := (hf.2 _).1 m2
    refine ⟨by omega, by omega, ?_⟩
    rintro rfl
    rw [chain_irr hf] at hc2; cases hc2
  constructor
  · intro hm
    refine must_in (V := fun i j => LeaR h x l h.length i j) ?_ ?_ ?_ hm hi hj
    · intro i j hi hj hs
      refine .base (staR_iff.2 ?_)
      rw [startM_iff h y hy, baseM_iff h y hy, hb 0 (by omega), hb 5 (by omega), hb 3 (by omega), hb 4 (by omega), ← t1, ← t32, ← t8, ← t16] at hs
      unfold mustR
      simp only [Bool.or_eq_true, Bool.and_eq_true]
      rcases hs with (hs | ⟨h1, h2⟩ | ⟨h1, h2⟩) | ⟨h1, h2⟩ | ⟨h1, h2⟩
      · obtain ⟨a1, a2, a3⟩ := (prsTo_iff (froP h) h.length i j hi hj h.length).1 hs
        rw [fro_same hc i a2] at a3
        refine ⟨a1, a2, ?_, .inl (.inl (.inl a3))⟩
        rintro rfl
        rw [froR_irr] at a3; cases a3
      · obtain ⟨a1, a2, a3⟩ := (prsTo_iff (sesP h) h.length i j hi hj h.length).1 h2
        refine ⟨a1, a2, ?_, .inl (.inl (.inr ⟨h1, a3⟩))⟩
        unfold sesP at a3
        rw [Bool.and_eq_true, decide_eq_true_eq] at a3
        omega
      · obtain ⟨a1, a2, a3⟩ := (prsTo_iff (timP h) h.length i j hi hj h.length).1 h2
        refine ⟨a1, a2, ?_, .inl (.inr ⟨h1, a3⟩)⟩
        rintro rfl
        unfold timP at a3
        rw [decide_eq_true_eq, cAt_eq a1, bAt_eq a1] at a3
        have := bc_of hc a1
        omega
      · have hA := rivM_in h _ i j h2
        obtain ⟨a1, a2, a3⟩ := hch i j hA
        rw [rivM_at a1 a2 a3, Bool.and_eq_true] at h2
        exact ⟨a1, a2, a3, .inr ⟨(ah i j a1 a2).2 hA, .inr ⟨h1, h2.2⟩⟩⟩
      · obtain ⟨a1, a2, a3⟩ := hch i j h2
        exact ⟨a1, a2, a3, .inr ⟨(ah i j a1 a2).2 h2, .inl h1⟩⟩
    · intro ht i q j _ hq _ h1 h2
      exact .trans (by rw [t2, ← hb 1 (by omega), ← trB_bit y hy]; exact ht) hq h1 h2
    · intro ht i q j _ hq _ h1 h2
      exact .pre (by rw [t4, ← hb 2 (by omega), ← pfB_bit y hy]; exact ht) hq ((chain_ahd hf i q).1 h1) h2
  · intro hm
    unfold LeaR at hm
    induction hm with
    | base hs =>
      obtain ⟨a1, a2, a3, a4⟩ := staR_iff.1 hs
      refine .base ?_
      rw [startM_iff h y hy, baseM_iff h y hy, hb 0 (by omega), hb 5 (by omega), hb 3 (by omega), hb 4 (by omega), ← t1, ← t32, ← t8, ← t16]
      unfold mustR at a4
      simp only [Bool.or_eq_true, Bool.and_eq_true] at a4
      rcases a4 with ((a4 | ⟨h1, h2⟩) | ⟨h1, h2⟩) | ⟨h1, h2⟩
      · exact .inl (.inl ((prsTo_iff (froP h) h.length _ _ hi hj h.length).2 ⟨a1, a2, by rw [fro_same hc _ a2]; exact a4⟩))
      · exact .inl (.inr (.inl ⟨h1, (prsTo_iff (sesP h) h.length _ _ hi hj h.length).2 ⟨a1, a2, h2⟩⟩))
      · exact .inl (.inr (.inr ⟨h1, (prsTo_iff (timP h) h.length _ _ hi hj h.length).2 ⟨a1, a2, h2⟩⟩))
      · have hA := (ah _ _ a1 a2).1 h1
        rcases h2 with h2 | ⟨h2, h3⟩
        · exact .inr (.inr ⟨h2, hA⟩)
        · exact .inr (.inl ⟨h2, by rw [rivM_at a1 a2 a3, hA, h3]; rfl⟩)
    | @trans i q j ht hq _ _ ih1 ih2 => exact .trans (by rw [trB_bit y hy, hb 1 (by omega), ← t2]; exact ht) hq (ih1 hi hq) (ih2 hq hj)
    | @pre i q j ht hq ha _ ih => exact .pre (by rw [pfB_bit y hy, hb 2 (by omega), ← t4]; exact ht) hq ((chain_ahd hf i q).2 ha) (ih hq hj)
theorem lea_rep {h : List TxnV} {x y : Nat} {l : List Int} {m : List Pr} {R : Mat} (hc : checkI h = 0) (hf : FullRow h.length l) (hx : x < 64) (hy : y < 9223372036854775808) (hb : ∀ b, b < 6 → y.testBit b = x.testBit b) (hL : LeaL h x l h.length m) (hR : LeastIs h y l R) : Rep R m := by
  have h64 := (check_zero hc).1
  refine ⟨hL.1, fun a b => ?_⟩
  rw [hL.2]
  constructor
  · rintro ⟨i, k, rfl, rfl, hM⟩
    have := leaR_lt hM
    exact ⟨i, k, by omega, by omega, rfl, rfl, (hR i k (by omega) (by omega)).2 ((lea_must hc hf hx hy hb (by omega) (by omega)).2 hM)⟩
  · rintro ⟨i, k, hi, hk, rfl, rfl, hr⟩
    exact ⟨i, k, rfl, rfl, (lea_must hc hf hx hy hb hi hk).1 ((hR i k hi hk).1 hr)⟩
end Go.Proofs.YtkaldidcekcpnaaGreatDoor

namespace Go.Proofs.YtkaldidcekcpnaaGreatDoor
set_option maxRecDepth 100000
open Go.RowKit

/-- What must be seen of one by another one, whatever the order is. -/
def wantB (h : List TxnV) (x : Nat) (i k : Nat) : Bool := !(decide (i = k)) && ((froR h i k || (hasT x 1 && sesP h i k)) || (hasT x 32 && timP h i k))
theorem base_want {h : List TxnV} {x : Nat} (hc : checkI h = 0) (hx : x < 64) {i k : Nat} (hi : i < h.length) (hk : k < h.length) : hasR (baseM h (x : Int)) (i : Int) (k : Int) = wantB h x i k := by
  have h64 := (check_zero hc).1
  obtain ⟨t1, _, _, _, _, t32⟩ := hasT_bits ⟨x, hx⟩
  simp only at t1 t32
  rw [hasR_nat _ i k (by omega) (by omega), Bool.eq_iff_iff, baseM_iff h x (by omega), ← t1, ← t32]
  unfold wantB
  simp only [Bool.and_eq_true, Bool.or_eq_true, Bool.not_eq_true', decide_eq_false_iff_not]
  have e1 : froM h i k = true ↔ froR h i k = true := by
    have := prsTo_iff (froP h) h.length i k (by omega) (by omega) h.length
    rw [fro_same hc i hk] at this
    exact ⟨fun q => (this.1 q).2.2, fun q => this.2 ⟨hi, hk, q⟩⟩
  have e2 : sesM h i k = true ↔ sesP h i k = true := ⟨fun q => ((prsTo_iff (sesP h) h.length i k (by omega) (by omega) h.length).1 q).2.2, fun q => (prsTo_iff (sesP h) h.length i k (by omega) (by omega) h.length).2 ⟨hi, hk, q⟩⟩
  have e3 : timM h i k = true ↔ timP h i k = true := ⟨fun q => ((prsTo_iff (timP h) h.length i k (by omega) (by omega) h.length).1 q).2.2, fun q => (prsTo_iff (timP h) h.length i k (by omega) (by omega) h.length).2 ⟨hi, hk, q⟩⟩
  rw [e1, e2, e3]
  constructor
  · intro H
    refine ⟨?_, ?_⟩
    · rintro rfl
      rcases H with H | ⟨_, H⟩ | ⟨_, H⟩
      · rw [froR_irr] at H; cases H
      · unfold sesP at H; rw [Bool.and_eq_true, decide_eq_true_eq] at H; omega
      · unfold timP at H
        rw [decide_eq_true_eq, cAt_eq hi, bAt_eq hi] at H
        have := bc_of hc hi
        omega
    · rcases H with H | H | H
      · exact .inl (.inl H)
      · exact .inl (.inr H)
      · exact .inr H
  · rintro ⟨_, (H | H) | H⟩
    · exact .inl H
    · exact .inr (.inl H)
    · exact .inr (.inr H)
theorem base_in {h : List TxnV} {a x : Nat} {l : List Int} {R : Mat} (ha : a < 9223372036854775808) (hx : x < 64) (hb : ∀ b, b < 6 → a.testBit b = x.testBit b) (hR : LeastIs h a l R) : inM (baseM h (x : Int)) R = true := by
  rw [inM_iff]
  intro i j hi hj hm
  refine (hR i j hi hj).2 (.base ((startM_iff h a ha _ i j).2 (.inl ?_)))
  rw [baseM_iff h x (by omega)] at hm
  rw [baseM_iff h a ha, hb 0 (by omega), hb 5 (by omega)]
  exact hm
theorem sees_none (R : Mat) : seeTo R (-1) 64 = 0 := by
  refine Nat.eq_of_testBit_eq fun j => ?_
  rw [seeTo_bit R (-1) j 64 (Nat.le_refl 64), Nat.zero_testBit]
  have : hasR R (j : Int) (-1) = false := by
    unfold hasR hasB
    rw [decide_eq_false (show ¬ (0 ≤ (-1 : Int) ∧ (-1 : Int) < 64) by omega), Bool.false_and, Bool.and_false]
  rw [this, Bool.and_false]
theorem sees_has (R : Mat) {i k : Nat} (hi : i < 64) (_hk : k < 64) : hasB (seeTo R (k : Int) 64) (i : Int) = hasR R (i : Int) (k : Int) := by
  rw [hasB_nat hi, seeTo_bit R _ i 64 (Nat.le_refl 64), decide_eq_true hi, Bool.true_and]
theorem and_1 (x : Nat) (hx : x < 64) : bits .and .i64 (x : Int) 1 = if hasT x 1 then 1 else 0 := by
  have h1 := i64_and_nat x 1 (by omega) (by omega)
  have h2 : (x &&& 1 : Nat) = x % 2 := Nat.and_one_is_mod x
  rw [h2] at h1
  have h3 : bits .and .i64 (x : Int) 1 = ((x % 2 : Nat) : Int) := h1
  rw [h3]
  unfold hasT
  rw [Nat.div_one]
  by_cases e : x % 2 = 1
  · rw [e]; rfl
  · have : x % 2 = 0 := by omega
    rw [this]; rfl
theorem and_32 (x : Nat) (hx : x < 64) : bits .and .i64 (x : Int) 32 = if hasT x 32 then 32 else 0 := by
  have hz := bit_32 x (by omega)
  obtain ⟨_, _, _, _, _, t32⟩ := hasT_bits ⟨x, hx⟩
  simp only at t32
  cases e : hasT x 32 with
  | false => rw [e] at t32; exact hz.2 t32.symm
  | true =>
    have h1 := i64_and_nat x 32 (by omega) (by omega)
    have h3 : bits .and .i64 (x : Int) 32 = ((x &&& 32 : Nat) : Int) := h1
    have key : ∀ k : Fin 64, hasT k.val 32 = true → k.val &&& 32 = 32 := by decide +kernel
    rw [h3, key ⟨x, hx⟩ e]; rfl
set_option maxRecDepth 100000 in
set_option maxHeartbeats 32000000 in
theorem sees11_walk (vh vb : Value) (h : List TxnV) (bs : List Int) (a : Nat) (w : World) (ht : Tab w) (hT : Txns w vh h) (hok : ∀ t ∈ h, t.ok) (hsh : Short h) (hB : Row w vb bs.length 1 (bs.map (Value.int .u8))) (hbs : ∀ x ∈ bs, 0 ≤ x ∧ x < 256) (ha : a < 256) :
    Calls Tryz.prog 3 #[.agg #[vh, .int .u8 a, vb]] w fun e w' => e = .returned (.bool true) ∧ Below w.heap.size w w' := by
  have hg := ht.pos
  have HT : Hid (∀ wx, Below w.heap.size w wx → Tab wx) := Lib.hid (fun wx hb => ht.below hb hg)
  have HH := Lib.hid (fun wx (hx : Below w.heap.size w wx) => hT.below hx)
  have HBY := Lib.hid (fun wx (hx : Below w.heap.size w wx) => hB.below hx)
  obtain ⟨ao, cap, rfl, hal⟩ := hT.form
  have HOK := Lib.hid hok
  have HSH := Lib.hid hsh
  have HBS := Lib.hid hbs
  have hbx := box_below w (.cells #[.slice ao h.length cap, .int .u8 a, vb] 25)
  have hC0 : CaseS w.heap.size (.slice ao h.length cap) a vb (w.alloc (.cells #[.slice ao h.length cap, .int .u8 a, vb] 25)) := by
    refine ⟨?_, ?_, ?_⟩ <;> (rw [cell_of_row _ _ _ _ _ _ (heap_alloc_new w _)]; rfl)
  obtain ⟨bo, bcap, rfl⟩ : ∃ bo bcap, vb = .slice bo bs.length bcap := by
    obtain ⟨_, bo, bcap, e, _⟩ := hB
    exact ⟨bo, bcap, e⟩
  clear ht hT hok hB hbs
  go_enter Tryz.func3, Tryz.ntmps3
  go_upto_region 1 with fail
  generalize w.alloc (.cells #[.slice ao h.length cap, .int .u8 a, .slice bo bs.length bcap] 25) = w0 at *
  go_wp2_with fail
  refine (speaks11_any _ (HT.out _ hbx)).mono ?_
  rintro e w1 ⟨rfl, hb1⟩
  have hC1 := hC0.below hb1
  have hb1 := below_then hbx hb1
  obtain ⟨n0, n1, n2⟩ := hC1
  go_wp2_with fail
  refine (small_any _ h _ (HH.out _ hb1) HSH.out).mono ?_
  rintro e w2 ⟨rfl, hb2⟩
  have hC2 := CaseS.below ⟨n0, n1, n2⟩ hb2
  have hb2 := below_then hb1 hb2
  clear n0 n1 n2 hb1 hC0 hbx
  by_cases hs : smallI h = 0
  · rw [hs]
    go_wp2_with fail
    go_ret
    exact ⟨rfl, hb2⟩
  obtain ⟨h7, hc, h1⟩ := small_no hs
  rw [h1]
  have CO := Lib.hid (of_done _ h w2 (HH.out _ hb2) HOK.out HSH.out hc)
  have HC := Lib.hid hc
  clear hs h1 hc hsh
  obtain ⟨n0, n1, n2⟩ := hC2
  go_wp2_with fail
  refine (CO.out).mono ?_
  rintro e w3 ⟨⟨B, rfl, hB, hO⟩, hb3⟩
  have hC3 := CaseS.below ⟨n0, n1, n2⟩ hb3
  have hb3' := hb3
  have hb3 := below_then hb2 hb3
  clear n0 n1 n2 hb2 CO hB hb3'
  have CR := Lib.hid (lrow_any h.length (by omega) _ bs w3 (HBY.out _ hb3) HBS.out)
  obtain ⟨n0, n1, n2⟩ := hC3
  go_wp2_with fail
  refine (CR.out).mono ?_
  rintro e w4 ⟨⟨vr, L, rfl, hI, hP⟩, hb4⟩
  have hO4 := hO.below hb4
  have hC4 := CaseS.below ⟨n0, n1, n2⟩ hb4
  have hb4 := below_then hb3 hb4
  have hnd : (L.map Int.ofNat).Nodup := nodup_ofNat (hP.nodup_iff.2 List.nodup_range)
  have HPM := Lib.hid (full_of_perm hP)
  have HLEN : Hid ((L.map Int.ofNat).length = h.length) := Lib.hid (by have := hP.length_eq; simpa using this)
  clear n0 n1 n2 hb3 hO CR hP
  have HND := Lib.hid hnd
  have hFull : FullRow h.length (L.map Int.ofNat) := HPM.out
  have ha2 : a < 9223372036854775808 := by omega
  obtain ⟨x, hx64, hxa⟩ : ∃ x : Nat, x < 64 ∧ x = a % 64 := ⟨a % 64, Nat.mod_lt _ (by omega), rfl⟩
  have hbit : ∀ b, b < 6 → a.testBit b = x.testBit b := fun b hb => by rw [hxa, show (64 : Nat) = 2 ^ 6 from rfl, Nat.testBit_mod_two_pow, decide_eq_true hb, Bool.true_and]
  have hand : bits .and .i64 (a : Int) 63 = (x : Int) := by rw [and63, hxa]; omega
  have hwa : IntKind.i64.wrap (a : Int) = (a : Int) := by rw [IntKind.wrap_i64]; omega
  have HREP := Lib.hid (fun (m : List Pr) (R : Mat) (hL : LeaL h x (L.map Int.ofNat) h.length m) (hR : LeastIs h a (L.map Int.ofNat) R) => lea_rep HC.out hFull hx64 ha2 hbit hL hR)
  have HIN := Lib.hid (fun (R : Mat) (hR : LeastIs h a (L.map Int.ofNat) R) => base_in (l := L.map Int.ofNat) ha2 hx64 hbit hR)
  have HWANT := Lib.hid (fun (i k : Nat) (hi : i < h.length) (hk : k < h.length) => base_want HC.out hx64 hi hk)
  have hll : (L.map Int.ofNat).length = h.length := HLEN.out
  have HN := Lib.hid (check_zero HC.out).1
  have HX := Lib.hid hx64
  have HS := Lib.hid (fun wx (hx : Below w4.heap.size w4 wx) => hC4.below hx)
  have HFIN := Lib.hid (fun wx (hx : Below w4.heap.size w4 wx) => hb4.trans (hx.mono hb4.size))
  have CA := Lib.hid (fun wx (hx : Below w4.heap.size w4 wx) => lof_any (a : Int) vr (L.map Int.ofNat) h B (B + 2) wx (hO4.below hx) HC.out (HT.out _ (hb4.trans (hx.mono hb4.size))) (hI.below hx))
  have CB := Lib.hid (fun wx (hx : Below w4.heap.size w4 wx) => lbase_any (x : Int) h B wx (hO4.below hx).blk)
  have CO := Lib.hid (fun wx (hx : Below w4.heap.size w4 wx) => rof11_any _ vr h x hx64 (L.map Int.ofNat) wx HN.out (HH.out _ (hb4.trans (hx.mono hb4.size))) (hI.below hx))
  have CF := Lib.hid (fun (i k : Nat) (hk : k < h.length) wx (hx : Below w4.heap.size w4 wx) => rfrom8_any _ h i k hk wx (HH.out _ (hb4.trans (hx.mono hb4.size))))
  have CSE := Lib.hid (fun (i k : Nat) (hi : i < h.length) (hk : k < h.length) wx (hx : Below w4.heap.size w4 wx) => rsession_any _ h i k wx (HH.out _ (hb4.trans (hx.mono hb4.size))) hi hk)
  have CTI := Lib.hid (fun (i k : Nat) (hi : i < h.length) (hk : k < h.length) wx (hx : Below w4.heap.size w4 wx) => rtime_any _ h i k wx (HH.out _ (hb4.trans (hx.mono hb4.size))) hi hk)
  have HRW := Lib.hid (fun wx (hx : Below w4.heap.size w4 wx) => hI.below hx)
  obtain ⟨ro, rcap, rfl, _⟩ := hI.form
  generalize L.map Int.ofNat = l at *
  have kd := (Below.refl w4.heap.size w4).drew
  clear hO4 hI hC4 hb4 hnd ha2 hal hFull hbit hxa hll hx64 HND HPM HLEN HT HOK HSH HBY HBS
  go_upto_region 9 with fail
  go_cut [6, 7] from 6 to 45 (fun u6 u7 wx => ∃ (p6 : Nat) (R : Mat), u6 = .pointer (some ⟨p6, 0, none⟩) ∧ u7 = .int .i64 (x : Int) ∧ RelAt wx p6 37 R ∧ LeastIs h a l R ∧ Below w4.heap.size w4 wx)
  case first =>
    refine wp_region_held_drew (S := Below w4.heap.size w4) (by kernel_rfl) kd (fun hS0 => ?_)
    refine takeG (some 36) (i := 0) (v := ?vq0) rfl rfl (by kernel_rfl) (by kernel_rfl) (by kernel_rfl) (fun _ _ _ h => h) (Or.inl ⟨by rfl, ?hq0⟩) hS0 ?rq0
    case hq0 => (intro w hw; obtain ⟨n0, n1, n2⟩ := HS.out _ hw; go_simp; try (with_reducible rfl))
    try simp only [Act.put, List.setIfInBounds_toArray, List.set_cons_zero, List.set_cons_succ]
    refine takeG (some 37) (i := 1) (v := ?vq1) rfl rfl (by kernel_rfl) (by kernel_rfl) (by kernel_rfl) (fun _ _ _ h => h) (Or.inl ⟨by rfl, ?hq1⟩) hS0 ?rq1
    case hq1 => (intro w hw; obtain ⟨n0, n1, n2⟩ := HS.out _ hw; go_simp; try (with_reducible rfl))
    try simp only [Act.put, List.setIfInBounds_toArray, List.set_cons_zero, List.set_cons_succ]
    refine takeG (some 38) (i := 2) (v := ?vq2) rfl rfl (by kernel_rfl) (by kernel_rfl) (by kernel_rfl) (fun _ _ _ h => h) (Or.inl ⟨by rfl, ?hq2⟩) hS0 ?rq2
    case hq2 => (intro w hw; obtain ⟨n0, n1, n2⟩ := HS.out _ hw; go_simp; try (with_reducible rfl))
    try simp only [Act.put, List.setIfInBounds_toArray, List.set_cons_zero, List.set_cons_succ]
    refine takeG (some 39) (i := 3) (v := ?vq3) rfl rfl (by kernel_rfl) (by kernel_rfl) (by kernel_rfl) (fun _ _ _ h => h) (Or.inl ⟨by rfl, ?hq3⟩) hS0 ?rq3
    case hq3 => (intro w hw; obtain ⟨n0, n1, n2⟩ := HS.out _ hw; go_simp; try (with_reducible rfl))
    try simp only [Act.put, List.setIfInBounds_toArray, List.set_cons_zero, List.set_cons_succ]
    refine takeG (some 40) (i := 4) (v := ?vq4) rfl rfl (by kernel_rfl) (by kernel_rfl) (by kernel_rfl) (fun _ _ _ h => h) (Or.inl ⟨by rfl, ?hq4⟩) hS0 ?rq4
    case hq4 => (intro w hw; obtain ⟨n0, n1, n2⟩ := HS.out _ hw; go_simp; try (with_reducible rfl))
    try simp only [Act.put, List.setIfInBounds_toArray, List.set_cons_zero, List.set_cons_succ]
    refine takeG (some 42) (i := 6) (v := ?vq6) rfl rfl (by kernel_rfl) (by kernel_rfl) (by kernel_rfl) (fun _ _ _ h => h) (Or.inl ⟨by rfl, ?hq6⟩) hS0 ?rq6
    case hq6 => (intro w hw; obtain ⟨n0, n1, n2⟩ := HS.out _ hw; go_simp; try (with_reducible rfl))
    try simp only [Act.put, List.setIfInBounds_toArray, List.set_cons_zero, List.set_cons_succ]
    refine takeG (some 43) (i := 7) (v := ?vq7) rfl rfl (by kernel_rfl) (by kernel_rfl) (by kernel_rfl) (fun _ _ _ h => h) (Or.inl ⟨by rfl, ?hq7⟩) hS0 ?rq7
    case hq7 => (intro w hw; obtain ⟨n0, n1, n2⟩ := HS.out _ hw; go_simp; try (with_reducible rfl))
    try simp only [Act.put, List.setIfInBounds_toArray, List.set_cons_zero, List.set_cons_succ]
    refine takeG (some 44) (i := 8) (v := ?vq8) rfl rfl (by kernel_rfl) (by kernel_rfl) (by kernel_rfl) (fun _ _ _ h => h) (Or.inl ⟨by rfl, ?hq8⟩) hS0 ?rq8
    case hq8 => (intro w hw; obtain ⟨n0, n1, n2⟩ := HS.out _ hw; go_simp; try (with_reducible rfl))
    try simp only [Act.put, List.setIfInBounds_toArray, List.set_cons_zero, List.set_cons_succ]
    refine takeG (some 45) (i := 9) (v := ?vq9) rfl rfl (by kernel_rfl) (by kernel_rfl) (by kernel_rfl) (fun _ _ _ h => h) (Or.inl ⟨by rfl, ?hq9⟩) hS0 ?rq9
    case hq9 => (intro w hw; obtain ⟨n0, n1, n2⟩ := HS.out _ hw; go_simp; try (with_reducible rfl))
    try simp only [Act.put, List.setIfInBounds_toArray, List.set_cons_zero, List.set_cons_succ]
    generalize w4.drew = wd at *
    refine wpAnyH_ready (rs := [5, 10]) (by kernel_rfl) (by simp) ?_
    refine AllReadyH.cons rfl (fun K hK => ?_) (AllReadyH.cons rfl (fun K hK => ?_) AllReadyH.nil)
    ·
      go_simp
      refine (CA.out _ hS0).mono ?_
      rintro e q1 ⟨⟨R, rfl, hR⟩, h1⟩
      show K _ _
      have k1 := below_then hS0 h1
      have hR := Lib.hid hR
      refine hK.out _ _ k1 (fun _ => ?_)
      clear hK K
      refine wpAnyH_ready (rs := [10]) (by kernel_rfl) (by simp) ?_
      refine AllReadyH.cons rfl (fun K hK => ?_) AllReadyH.nil
      go_simp
      have hp2 := k1.size
      have k2 := k1.alloc k1.size (.cells #[.int .u64 0, .int .u64 0, .int .u64 0, .int .u64 0, .int .u64 0, .int .u64 0, .int .u64 0, .int .u64 0, .int .u64 0, .int .u64 0, .int .u64 0, .int .u64 0, .int .u64 0, .int .u64 0, .int .u64 0, .int .u64 0, .int .u64 0, .int .u64 0, .int .u64 0, .int .u64 0, .int .u64 0, .int .u64 0, .int .u64 0, .int .u64 0, .int .u64 0, .int .u64 0, .int .u64 0, .int .u64 0, .int .u64 0, .int .u64 0, .int .u64 0, .int .u64 0, .int .u64 0, .int .u64 0, .int .u64 0, .int .u64 0, .int .u64 0, .int .u64 0, .int .u64 0, .int .u64 0, .int .u64 0, .int .u64 0, .int .u64 0, .int .u64 0, .int .u64 0, .int .u64 0, .int .u64 0, .int .u64 0, .int .u64 0, .int .u64 0, .int .u64 0, .int .u64 0, .int .u64 0, .int .u64 0, .int .u64 0, .int .u64 0, .int .u64 0, .int .u64 0, .int .u64 0, .int .u64 0, .int .u64 0, .int .u64 0, .int .u64 0, .int .u64 0] 37)
      have z2 := zero_block q1
      refine hK.out _ _ k2 (fun _ => ?_)
      clear hK K
      generalize q1.alloc (.cells #[.int .u64 0, .int .u64 0, .int .u64 0, .int .u64 0, .int .u64 0, .int .u64 0, .int .u64 0, .int .u64 0, .int .u64 0, .int .u64 0, .int .u64 0, .int .u64 0, .int .u64 0, .int .u64 0, .int .u64 0, .int .u64 0, .int .u64 0, .int .u64 0, .int .u64 0, .int .u64 0, .int .u64 0, .int .u64 0, .int .u64 0, .int .u64 0, .int .u64 0, .int .u64 0, .int .u64 0, .int .u64 0, .int .u64 0, .int .u64 0, .int .u64 0, .int .u64 0, .int .u64 0, .int .u64 0, .int .u64 0, .int .u64 0, .int .u64 0, .int .u64 0, .int .u64 0, .int .u64 0, .int .u64 0, .int .u64 0, .int .u64 0, .int .u64 0, .int .u64 0, .int .u64 0, .int .u64 0, .int .u64 0, .int .u64 0, .int .u64 0, .int .u64 0, .int .u64 0, .int .u64 0, .int .u64 0, .int .u64 0, .int .u64 0, .int .u64 0, .int .u64 0, .int .u64 0, .int .u64 0, .int .u64 0, .int .u64 0, .int .u64 0, .int .u64 0] 37) = x2 at *
      refine wpAnyH_ready (rs := [11]) (by kernel_rfl) (by simp) ?_
      refine AllReadyH.cons rfl (fun K hK => ?_) AllReadyH.nil
      rw [if_pos (by rfl)]
      refine wp_store_rel z2 R _ _ rfl rfl rfl ?_
      have k3 := below_setRow k2 (g := q1.heap.size) (by omega) (rowsA R)
      have z3 := z2.setRow R
      refine hK.out _ _ k3 (fun _ => ?_)
      clear hK K
      generalize x2.setRow q1.heap.size (rowsA R) = x3 at *
      refine takeG (some 7) (i := 12) (v := ?vqa12) rfl rfl (by kernel_rfl) (by kernel_rfl) (by kernel_rfl) (fun _ _ _ h => h) (Or.inl ⟨by rfl, ?hqa12⟩) k3 ?rqa12
      case hqa12 => (intro w _; go_simp; try (with_reducible rfl))
      try simp only [Act.put, List.setIfInBounds_toArray]
      refine wpAnyH_done (by kernel_rfl) ?_ _
      go_wp2_with fail
      go_meet
      exact ⟨q1.heap.size, R, rfl, rfl, z3, hR.out, k3⟩
    ·
      go_simp
      have hp1 := hS0.size
      have k1 := hS0.alloc hS0.size (.cells #[.int .u64 0, .int .u64 0, .int .u64 0, .int .u64 0, .int .u64 0, .int .u64 0, .int .u64 0, .int .u64 0, .int .u64 0, .int .u64 0, .int .u64 0, .int .u64 0, .int .u64 0, .int .u64 0, .int .u64 0, .int .u64 0, .int .u64 0, .int .u64 0, .int .u64 0, .int .u64 0, .int .u64 0, .int .u64 0, .int .u64 0, .int .u64 0, .int .u64 0, .int .u64 0, .int .u64 0, .int .u64 0, .int .u64 0, .int .u64 0, .int .u64 0, .int .u64 0, .int .u64 0, .int .u64 0, .int .u64 0, .int .u64 0, .int .u64 0, .int .u64 0, .int .u64 0, .int .u64 0, .int .u64 0, .int .u64 0, .int .u64 0, .int .u64 0, .int .u64 0, .int .u64 0, .int .u64 0, .int .u64 0, .int .u64 0, .int .u64 0, .int .u64 0, .int .u64 0, .int .u64 0, .int .u64 0, .int .u64 0, .int .u64 0, .int .u64 0, .int .u64 0, .int .u64 0, .int .u64 0, .int .u64 0, .int .u64 0, .int .u64 0, .int .u64 0] 37)
      have z1 := zero_block wd
      refine hK.out _ _ k1 (fun _ => ?_)
      clear hK K
      generalize wd.alloc (.cells #[.int .u64 0, .int .u64 0, .int .u64 0, .int .u64 0, .int .u64 0, .int .u64 0, .int .u64 0, .int .u64 0, .int .u64 0, .int .u64 0, .int .u64 0, .int .u64 0, .int .u64 0, .int .u64 0, .int .u64 0, .int .u64 0, .int .u64 0, .int .u64 0, .int .u64 0, .int .u64 0, .int .u64 0, .int .u64 0, .int .u64 0, .int .u64 0, .int .u64 0, .int .u64 0, .int .u64 0, .int .u64 0, .int .u64 0, .int .u64 0, .int .u64 0, .int .u64 0, .int .u64 0, .int .u64 0, .int .u64 0, .int .u64 0, .int .u64 0, .int .u64 0, .int .u64 0, .int .u64 0, .int .u64 0, .int .u64 0, .int .u64 0, .int .u64 0, .int .u64 0, .int .u64 0, .int .u64 0, .int .u64 0, .int .u64 0, .int .u64 0, .int .u64 0, .int .u64 0, .int .u64 0, .int .u64 0, .int .u64 0, .int .u64 0, .int .u64 0, .int .u64 0, .int .u64 0, .int .u64 0, .int .u64 0, .int .u64 0, .int .u64 0, .int .u64 0] 37) = x1 at *
      refine wpAnyH_ready (rs := [5]) (by kernel_rfl) (by simp) ?_
      refine AllReadyH.cons rfl (fun K hK => ?_) AllReadyH.nil
      go_simp
      refine (CA.out _ k1).mono ?_
      rintro e q2 ⟨⟨R, rfl, hR⟩, h2⟩
      show K _ _
      have k2 := below_then k1 h2
      have hR := Lib.hid hR
      have z2 := z1.below h2 z1.lt
      refine hK.out _ _ k2 (fun _ => ?_)
      clear hK K
      refine wpAnyH_ready (rs := [11]) (by kernel_rfl) (by simp) ?_
      refine AllReadyH.cons rfl (fun K hK => ?_) AllReadyH.nil
      rw [if_pos (by rfl)]
      refine wp_store_rel z2 R _ _ rfl rfl rfl ?_
      have k3 := below_setRow k2 (g := wd.heap.size) (by omega) (rowsA R)
      have z3 := z2.setRow R
      refine hK.out _ _ k3 (fun _ => ?_)
      clear hK K
      generalize q2.setRow wd.heap.size (rowsA R) = x3 at *
      refine takeG (some 7) (i := 12) (v := ?vqb12) rfl rfl (by kernel_rfl) (by kernel_rfl) (by kernel_rfl) (fun _ _ _ h => h) (Or.inl ⟨by rfl, ?hqb12⟩) k3 ?rqb12
      case hqb12 => (intro w _; go_simp; try (with_reducible rfl))
      try simp only [Act.put, List.setIfInBounds_toArray]
      refine wpAnyH_done (by kernel_rfl) ?_ _
      go_wp2_with fail
      go_meet
      exact ⟨wd.heap.size, R, rfl, rfl, z3, hR.out, k3⟩
  case rest =>
    obtain ⟨p6, R, rfl, rfl, hr, hR, hb⟩ := hcut
    have HRP := Lib.hid (fun m hL => HREP.out m R hL hR)
    have HI := Lib.hid (HIN.out R hR)
    clear HREP HIN hR kd
    generalize wc = w5 at *
    have HF5 := Lib.hid (fun wx (hx : Below w5.heap.size w5 wx) => hb.trans (hx.mono hb.size))
    have HR := Lib.hid (fun wx (hx : Below w5.heap.size w5 wx) => hr.below hx hr.lt)
    have kd := (Below.refl w5.heap.size w5).drew
    clear hr
    go_upto_region 10 with fail
    refine wp_region_held_drew (S := Below w5.heap.size w5) (by kernel_rfl) kd (fun hS0 => ?_)
    refine takeG (some 46) (i := 0) (v := _) rfl rfl (by kernel_rfl) (by kernel_rfl) (by kernel_rfl) (fun _ _ _ h => h) (yields_rel (by rfl) _ rfl rfl HR.out) hS0 ?_
    try simp only [Act.put, List.setIfInBounds_toArray, List.set_cons_zero, List.set_cons_succ]
    refine takeG (some 47) (i := 1) (v := ?vra1) rfl rfl (by kernel_rfl) (by kernel_rfl) (by kernel_rfl) (fun _ _ _ h => h) (Or.inl ⟨by rfl, ?hra1⟩) hS0 ?rra1
    case hra1 => (intro w hw; obtain ⟨n0, n1, n2⟩ := HS.out _ (HF5.out _ hw); go_simp; try (with_reducible rfl))
    try simp only [Act.put, List.setIfInBounds_toArray, List.set_cons_zero, List.set_cons_succ]
    refine takeG (some 48) (i := 2) (v := ?vra2) rfl rfl (by kernel_rfl) (by kernel_rfl) (by kernel_rfl) (fun _ _ _ h => h) (Or.inl ⟨by rfl, ?hra2⟩) hS0 ?rra2
    case hra2 => (intro w hw; obtain ⟨n0, n1, n2⟩ := HS.out _ (HF5.out _ hw); go_simp; try (with_reducible rfl))
    try simp only [Act.put, List.setIfInBounds_toArray, List.set_cons_zero, List.set_cons_succ]
    refine takeG (some 49) (i := 3) (v := ?vra3) rfl rfl (by kernel_rfl) (by kernel_rfl) (by kernel_rfl) (fun _ _ _ h => h) (Or.inl ⟨by rfl, ?hra3⟩) hS0 ?rra3
    case hra3 => (intro w hw; obtain ⟨n0, n1, n2⟩ := HS.out _ (HF5.out _ hw); go_simp; try (with_reducible rfl))
    try simp only [Act.put, List.setIfInBounds_toArray, List.set_cons_zero, List.set_cons_succ]
    refine takeG (some 50) (i := 4) (v := ?vra4) rfl rfl (by kernel_rfl) (by kernel_rfl) (by kernel_rfl) (fun _ _ _ h => h) (Or.inl ⟨by rfl, ?hra4⟩) hS0 ?rra4
    case hra4 => (intro w hw; obtain ⟨n0, n1, n2⟩ := HS.out _ (HF5.out _ hw); go_simp; try (with_reducible rfl))
    try simp only [Act.put, List.setIfInBounds_toArray, List.set_cons_zero, List.set_cons_succ]
    refine takeG (some 51) (i := 5) (v := ?vra5) rfl rfl (by kernel_rfl) (by kernel_rfl) (by kernel_rfl) (fun _ _ _ h => h) (Or.inl ⟨by rfl, ?hra5⟩) hS0 ?rra5
    case hra5 => (intro w hw; obtain ⟨n0, n1, n2⟩ := HS.out _ (HF5.out _ hw); go_simp; try (with_reducible rfl))
    try simp only [Act.put, List.setIfInBounds_toArray, List.set_cons_zero, List.set_cons_succ]
    refine takeG (some 52) (i := 6) (v := ?vra6) rfl rfl (by kernel_rfl) (by kernel_rfl) (by kernel_rfl) (fun _ _ _ h => h) (Or.inl ⟨by rfl, ?hra6⟩) hS0 ?rra6
    case hra6 => (intro w hw; obtain ⟨n0, n1, n2⟩ := HS.out _ (HF5.out _ hw); go_simp; try (with_reducible rfl))
    try simp only [Act.put, List.setIfInBounds_toArray, List.set_cons_zero, List.set_cons_succ]
    refine takeG (some 53) (i := 7) (v := ?vra7) rfl rfl (by kernel_rfl) (by kernel_rfl) (by kernel_rfl) (fun _ _ _ h => h) (Or.inl ⟨by rfl, ?hra7⟩) hS0 ?rra7
    case hra7 => (intro w hw; obtain ⟨n0, n1, n2⟩ := HS.out _ (HF5.out _ hw); go_simp; try (with_reducible rfl))
    try simp only [Act.put, List.setIfInBounds_toArray, List.set_cons_zero, List.set_cons_succ]
    refine wpAnyH_ready (rs := [8]) (by kernel_rfl) (by simp) ?_
    refine AllReadyH.cons rfl (fun K hK => ?_) AllReadyH.nil
    go_simp
    refine (CO.out _ (HF5.out _ hS0)).mono ?_
    rintro e y1 ⟨vm, m, rfl, hm, hL, j1⟩
    show K _ _
    have s1 := below_then hS0 j1
    have hRep := HRP.out m hL
    clear hL
    refine hK.out _ _ s1 (fun _ => ?_)
    clear hK K
    refine wpAnyH_ready (rs := [9]) (by kernel_rfl) (by simp) ?_
    refine AllReadyH.cons rfl (fun K hK => ?_) AllReadyH.nil
    go_simp
    refine (lsame_any R vm m h.length HN.out _ hm hRep).mono ?_
    rintro e y2 ⟨rfl, j2⟩
    show K _ _
    have s2 := below_then s1 j2
    refine hK.out _ _ s2 (fun _ => ?_)
    clear hK K
    refine takeG (some 56) (i := 10) (v := ?vra10) rfl rfl (by kernel_rfl) (by kernel_rfl) (by kernel_rfl) (fun _ _ _ h => h) (Or.inl ⟨by rfl, ?hra10⟩) s2 ?rra10
    case hra10 => (intro w hw; obtain ⟨n0, n1, n2⟩ := HS.out _ (HF5.out _ hw); go_simp; try (with_reducible rfl))
    try simp only [Act.put, List.setIfInBounds_toArray, List.set_cons_zero, List.set_cons_succ]
    refine wpAnyH_done (by kernel_rfl) ?_ _
    have hb6 := HF5.out _ s2
    have HR6 := Lib.hid (fun wx (hx : Below y2.heap.size y2 wx) => HR.out _ (s2.trans (hx.mono s2.size)))
    clear hS0 s1 j1 j2 hm hRep kd HRP HF5 HR hb CO CA
    generalize y2 = w6 at *
    go_wp2_with fail
    refine (CB.out _ hb6).mono ?_
    rintro e w7 ⟨rfl, h7⟩
    have k7 := below_then hb6 h7
    have HR7 := Lib.hid (fun wx (hx : Below w7.heap.size w7 wx) => HR6.out _ (h7.trans (hx.mono h7.size)))
    have z7 := zero_block w7
    have z8 := z7.setRow (baseM h (x : Int))
    have k8 := k7.trans ((zero_below w7 (baseM h (x : Int))).mono k7.size)
    have d8 := zero_below w7 (baseM h (x : Int))
    obtain ⟨n0, n1, n2⟩ := HS.out _ k8
    clear HR6 hb6 h7 CB
    go_wp2_with (with_reducible refine wpList_store_rel z7 (baseM h (x : Int)) rfl _ _ rfl rfl rfl ?_)
    clear z7
    generalize (w7.alloc (.cells #[.int .u64 0, .int .u64 0, .int .u64 0, .int .u64 0, .int .u64 0, .int .u64 0, .int .u64 0, .int .u64 0, .int .u64 0, .int .u64 0, .int .u64 0, .int .u64 0, .int .u64 0, .int .u64 0, .int .u64 0, .int .u64 0, .int .u64 0, .int .u64 0, .int .u64 0, .int .u64 0, .int .u64 0, .int .u64 0, .int .u64 0, .int .u64 0, .int .u64 0, .int .u64 0, .int .u64 0, .int .u64 0, .int .u64 0, .int .u64 0, .int .u64 0, .int .u64 0, .int .u64 0, .int .u64 0, .int .u64 0, .int .u64 0, .int .u64 0, .int .u64 0, .int .u64 0, .int .u64 0, .int .u64 0, .int .u64 0, .int .u64 0, .int .u64 0, .int .u64 0, .int .u64 0, .int .u64 0, .int .u64 0, .int .u64 0, .int .u64 0, .int .u64 0, .int .u64 0, .int .u64 0, .int .u64 0, .int .u64 0, .int .u64 0, .int .u64 0, .int .u64 0, .int .u64 0, .int .u64 0, .int .u64 0, .int .u64 0, .int .u64 0, .int .u64 0] 37)).setRow w7.heap.size (rowsA (baseM h (x : Int))) = w8 at *
    have HB := Lib.hid (fun wx (hx : Below w8.heap.size w8 wx) => z8.below hx z8.lt)
    have HR := Lib.hid (fun wx (hx : Below w8.heap.size w8 wx) => HR7.out _ (d8.trans (hx.mono d8.size)))
    have HF := Lib.hid (fun wx (hx : Below w8.heap.size w8 wx) => k8.trans (hx.mono k8.size))
    clear z8 d8 HR7 k7
    generalize w7.heap.size = p8 at *
    have hb := Below.refl w8.heap.size w8
    try go_wp2_with fail
    clear n0 n1 n2 k8
    go_loopw [63] (fun iv wr => ∃ i : Nat, i ≤ h.length ∧ iv = .int .i64 i ∧ Below w8.heap.size w8 wr) (fun iv _ => h.length - (intOf iv).toNat)
    case atStart => exact ⟨0, by omega, rfl, hb⟩
    case round =>
      clear hb
      obtain ⟨i, hi, rfl, hb⟩ := hrel
      by_cases hlt : i < h.length
      · have hii : (i : Int) < (h.length : Int) := by omega
        obtain ⟨n0, n1, n2⟩ := HS.out _ (HF.out _ hb)
        go_wp2_with fail
        clear n0 n1 n2
        go_loopw [69] (fun kv wr => ∃ k : Nat, k ≤ h.length ∧ kv = .int .i64 k ∧ Below w8.heap.size w8 wr) (fun kv _ => h.length - (intOf kv).toNat)
        case atStart => exact ⟨0, by omega, rfl, hb⟩
        case round =>
          clear hb
          obtain ⟨k, hk, rfl, hb⟩ := hrel
          by_cases hlk : k < h.length
          · have hkk : (k : Int) < (h.length : Int) := by omega
            have HW := Lib.hid (HWANT.out i k hlt hlk)
            have D1 := Lib.hid (CF.out i k hlk)
            have D2 := Lib.hid (CSE.out i k hlt hlk)
            have D3 := Lib.hid (CTI.out i k hlt hlk)
            have HQ : Hid (wantB h x i k = (!(decide (i = k)) && ((froR h i k || (hasT x 1 && (decide (i < k) && decide (h[i].s = h[k].s)))) || (hasT x 32 && decide (h[i].c < h[k].b))))) := Lib.hid (by unfold wantB; rw [show sesP h i k = (decide (i < k) && decide (h[i].s = h[k].s)) by unfold sesP; rw [sAt_eq hlt, sAt_eq hlk], show timP h i k = decide (h[i].c < h[k].b) by unfold timP; rw [cAt_eq hlt, bAt_eq hlk]])
            have A1 := Lib.hid (and_1 x HX.out)
            have A32 := Lib.hid (and_32 x HX.out)
            have HSH2 : Hid (hasB (seeTo R (k : Int) 64) (i : Int) = hasR R (i : Int) (k : Int)) := Lib.hid (sees_has R (by have := HN.out; omega) (by have := HN.out; omega))
            have C1 := Lib.hid (fun wx => rhasR_any (baseM h (x : Int)) (i : Int) (k : Int) wx)
            have C2 := Lib.hid (fun wx => lsees_any R (k : Int) wx)
            have C3 := Lib.hid (fun wx => has_any (seeTo R (k : Int) 64) (i : Int) wx (seeTo_set R _ 64))
            have C4 := Lib.hid (fun wx => rhasR_any R (i : Int) (k : Int) wx)
            rw [HW.out] at C1
            rw [HSH2.out] at C3
            clear HWANT CF CSE CTI HW HSH2
            generalize wantB h x i k = q at *
            generalize froR h i k = p1 at *
            generalize (decide (i < k) && decide (h[i].s = h[k].s)) = p2 at *
            generalize decide (h[i].c < h[k].b) = p3 at *
            generalize hasT x 1 = b1 at *
            generalize hasT x 32 = b2 at *
            generalize hasR R (i : Int) (k : Int) = s at *
            go_upto_region 19 with fail
            go_cut [11] from 72 to 105 (fun v wx => v = .bool q ∧ Below w8.heap.size w8 wx)
            case first =>
              clear C1 C2 C3 C4
              by_cases e : i = k
              · have hib : ((i : Int) != (k : Int)) = false := by rw [bne_eq_false_iff_eq]; omega
                have hie : (i : Int) = (k : Int) := by omega
                rw [decide_eq_true e] at HQ
                clear e hie
                go_wp2_with fail
                go_meet
                exact ⟨by rw [HQ.out]; rfl, hb⟩
              · have hib : ((i : Int) != (k : Int)) = true := by rw [bne_iff_ne]; omega
                have hie : ¬ (i : Int) = (k : Int) := by omega
                rw [decide_eq_false e] at HQ
                clear e
                obtain ⟨n0, n1, n2⟩ := HS.out _ (HF.out _ hb)
                go_wp2_with fail
                refine (D1.out _ (HF.out _ hb)).mono ?_
                rintro e wz ⟨rfl, hz⟩
                have hb := below_then hb hz
                clear hz n0 n1 n2
                cases p1 with
                | true =>
                  go_wp2_with fail
                  go_meet
                  exact ⟨by rw [HQ.out]; rfl, hb⟩
                | false =>
                  cases b1 with
                  | true =>
                    have a1 := A1.out
                    rw [if_pos rfl] at a1
                    obtain ⟨n0, n1, n2⟩ := HS.out _ (HF.out _ hb)
                    go_wp2_with fail
                    refine (D2.out _ (HF.out _ hb)).mono ?_
                    rintro e wz ⟨rfl, hz⟩
                    have hb := below_then hb hz
                    clear hz n0 n1 n2
                    cases p2 with
                    | true =>
                      go_wp2_with fail
                      go_meet
                      exact ⟨by rw [HQ.out]; rfl, hb⟩
                    | false =>
                      cases b2 with
                      | true =>
                        have a32 := A32.out
                        rw [if_pos rfl] at a32
                        obtain ⟨n0, n1, n2⟩ := HS.out _ (HF.out _ hb)
                        go_wp2_with fail
                        refine (D3.out _ (HF.out _ hb)).mono ?_
                        rintro e wz ⟨rfl, hz⟩
                        have hb := below_then hb hz
                        clear hz n0 n1 n2
                        clear a32
                        cases p3 with
                        | true =>
                          go_wp2_with fail
                          go_meet
                          exact ⟨by rw [HQ.out]; rfl, hb⟩
                        | false =>
                          go_wp2_with fail
                          go_meet
                          exact ⟨by rw [HQ.out]; rfl, hb⟩
                      | false =>
                        have a32 := A32.out
                        rw [if_neg (by decide)] at a32
                        go_wp2_with fail
                        go_meet
                        exact ⟨by rw [HQ.out]; rfl, hb⟩
                  | false =>
                    have a1 := A1.out
                    rw [if_neg (by decide)] at a1
                    cases b2 with
                    | true =>
                      have a32 := A32.out
                      rw [if_pos rfl] at a32
                      obtain ⟨n0, n1, n2⟩ := HS.out _ (HF.out _ hb)
                      go_wp2_with fail
                      refine (D3.out _ (HF.out _ hb)).mono ?_
                      rintro e wz ⟨rfl, hz⟩
                      have hb := below_then hb hz
                      clear hz n0 n1 n2
                      clear a32
                      cases p3 with
                      | true =>
                        go_wp2_with fail
                        go_meet
                        exact ⟨by rw [HQ.out]; rfl, hb⟩
                      | false =>
                        go_wp2_with fail
                        go_meet
                        exact ⟨by rw [HQ.out]; rfl, hb⟩
                    | false =>
                      have a32 := A32.out
                      rw [if_neg (by decide)] at a32
                      go_wp2_with fail
                      go_meet
                      exact ⟨by rw [HQ.out]; rfl, hb⟩
            case rest =>
              obtain ⟨rfl, hb⟩ := hcut
              clear HQ A1 A32 D1 D2 D3
              generalize wc = w9 at *
              have HB9 := Lib.hid (fun wx (hx : Below w9.heap.size w9 wx) => HB.out _ (hb.trans (hx.mono hb.size)))
              have HR9 := Lib.hid (fun wx (hx : Below w9.heap.size w9 wx) => HR.out _ (hb.trans (hx.mono hb.size)))
              have kd := (Below.refl w9.heap.size w9).drew
              go_upto_region 20 with fail
              cases q with
              | true =>
                cases s with
                | true =>
                  refine wp_region_held_drew (S := Below w9.heap.size w9) (by kernel_rfl) kd (fun hS0 => ?_)
                  refine takeG (some 106) (i := 0) (v := _) rfl rfl (by kernel_rfl) (by kernel_rfl) (by kernel_rfl) (fun _ _ _ h => h) (yields_rel (by rfl) _ rfl rfl HB9.out) hS0 ?_
                  try simp only [Act.put, List.setIfInBounds_toArray, List.set_cons_zero, List.set_cons_succ]
                  refine takeG (some 107) (i := 1) (v := ?vrbtt1) rfl rfl (by kernel_rfl) (by kernel_rfl) (by kernel_rfl) (fun _ _ _ h => h) (Or.inl ⟨by rfl, ?hrbtt1⟩) hS0 ?rrbtt1
                  case hrbtt1 => (intro w _; go_simp; try (with_reducible rfl))
                  try simp only [Act.put, List.setIfInBounds_toArray, List.set_cons_zero, List.set_cons_succ]
                  refine takeG (some 108) (i := 2) (v := ?vrbtt2) rfl rfl (by kernel_rfl) (by kernel_rfl) (by kernel_rfl) (fun _ _ _ h => h) (Or.inl ⟨by rfl, ?hrbtt2⟩) hS0 ?rrbtt2
                  case hrbtt2 => (intro w _; go_simp; try (with_reducible rfl))
                  try simp only [Act.put, List.setIfInBounds_toArray, List.set_cons_zero, List.set_cons_succ]
                  refine takeG (some 110) (i := 4) (v := ?vrbtt4) rfl rfl (by kernel_rfl) (by kernel_rfl) (by kernel_rfl) (fun _ _ _ h => h) (Or.inl ⟨by rfl, ?hrbtt4⟩) hS0 ?rrbtt4
                  case hrbtt4 => (intro w _; go_simp; try (with_reducible rfl))
                  try simp only [Act.put, List.setIfInBounds_toArray, List.set_cons_zero, List.set_cons_succ]
                  refine wpAnyH_ready (rs := [3]) (by kernel_rfl) (by simp) ?_
                  refine AllReadyH.cons rfl (fun K hK => ?_) AllReadyH.nil
                  go_simp
                  refine (C1.out _).mono ?_
                  rintro e y1 ⟨rfl, j1⟩
                  show K _ _
                  have s1 := below_then hS0 j1
                  refine hK.out _ _ s1 (fun _ => ?_)
                  clear hK K
                  refine takeG (some 111) (i := 5) (v := ?vrbtt5) rfl rfl (by kernel_rfl) (by kernel_rfl) (by kernel_rfl) (fun _ _ _ h => h) (Or.inl ⟨by rfl, ?hrbtt5⟩) s1 ?rrbtt5
                  case hrbtt5 => (intro w _; go_simp; try (with_reducible rfl))
                  try simp only [Act.put, List.setIfInBounds_toArray, List.set_cons_zero, List.set_cons_succ]
                  refine takeG (some 112) (i := 6) (v := ?vrbtt6) rfl rfl (by kernel_rfl) (by kernel_rfl) (by kernel_rfl) (fun _ _ _ h => h) (Or.inl ⟨by rfl, ?hrbtt6⟩) s1 ?rrbtt6
                  case hrbtt6 => (intro w _; go_simp; try (with_reducible rfl))
                  try simp only [Act.put, List.setIfInBounds_toArray, List.set_cons_zero, List.set_cons_succ]
                  refine takeG (some 113) (i := 7) (v := _) rfl rfl (by kernel_rfl) (by kernel_rfl) (by kernel_rfl) (fun _ _ _ h => h) (yields_rel (by rfl) _ rfl rfl HR9.out) s1 ?_
                  try simp only [Act.put, List.setIfInBounds_toArray, List.set_cons_zero, List.set_cons_succ]
                  refine takeG (some 114) (i := 8) (v := ?vrbtt8) rfl rfl (by kernel_rfl) (by kernel_rfl) (by kernel_rfl) (fun _ _ _ h => h) (Or.inl ⟨by rfl, ?hrbtt8⟩) s1 ?rrbtt8
                  case hrbtt8 => (intro w _; go_simp; try (with_reducible rfl))
                  try simp only [Act.put, List.setIfInBounds_toArray, List.set_cons_zero, List.set_cons_succ]
                  refine takeG (some 116) (i := 10) (v := ?vrbtt10) rfl rfl (by kernel_rfl) (by kernel_rfl) (by kernel_rfl) (fun _ _ _ h => h) (Or.inl ⟨by rfl, ?hrbtt10⟩) s1 ?rrbtt10
                  case hrbtt10 => (intro w _; go_simp; try (with_reducible rfl))
                  try simp only [Act.put, List.setIfInBounds_toArray, List.set_cons_zero, List.set_cons_succ]
                  refine takeG (some 118) (i := 12) (v := _) rfl rfl (by kernel_rfl) (by kernel_rfl) (by kernel_rfl) (fun _ _ _ h => h) (yields_rel (by rfl) _ rfl rfl HR9.out) s1 ?_
                  try simp only [Act.put, List.setIfInBounds_toArray, List.set_cons_zero, List.set_cons_succ]
                  refine takeG (some 119) (i := 13) (v := ?vrbtt13) rfl rfl (by kernel_rfl) (by kernel_rfl) (by kernel_rfl) (fun _ _ _ h => h) (Or.inl ⟨by rfl, ?hrbtt13⟩) s1 ?rrbtt13
                  case hrbtt13 => (intro w _; go_simp; try (with_reducible rfl))
                  try simp only [Act.put, List.setIfInBounds_toArray, List.set_cons_zero, List.set_cons_succ]
                  refine takeG (some 120) (i := 14) (v := ?vrbtt14) rfl rfl (by kernel_rfl) (by kernel_rfl) (by kernel_rfl) (fun _ _ _ h => h) (Or.inl ⟨by rfl, ?hrbtt14⟩) s1 ?rrbtt14
                  case hrbtt14 => (intro w _; go_simp; try (with_reducible rfl))
                  try simp only [Act.put, List.setIfInBounds_toArray, List.set_cons_zero, List.set_cons_succ]
                  refine wpAnyH_ready (rs := [9]) (by kernel_rfl) (by simp) ?_
                  refine AllReadyH.cons rfl (fun K hK => ?_) AllReadyH.nil
                  go_simp
                  refine (C2.out _).mono ?_
                  rintro e y2 ⟨rfl, j2⟩
                  show K _ _
                  have s2 := below_then s1 j2
                  refine hK.out _ _ s2 (fun _ => ?_)
                  clear hK K
                  refine wpAnyH_ready (rs := [11]) (by kernel_rfl) (by simp) ?_
                  refine AllReadyH.cons rfl (fun K hK => ?_) AllReadyH.nil
                  go_simp
                  refine (C3.out _).mono ?_
                  rintro e yz ⟨rfl, rfl⟩
                  show K _ _
                  refine hK.out _ _ s2 (fun _ => ?_)
                  clear hK K
                  refine wpAnyH_ready (rs := [15]) (by kernel_rfl) (by simp) ?_
                  refine AllReadyH.cons rfl (fun K hK => ?_) AllReadyH.nil
                  go_simp
                  refine (C4.out _).mono ?_
                  rintro e y3 ⟨rfl, j3⟩
                  show K _ _
                  have s3 := below_then s2 j3
                  refine hK.out _ _ s3 (fun _ => ?_)
                  clear hK K
                  refine takeG (some 122) (i := 16) (v := ?vrbtt16) rfl rfl (by kernel_rfl) (by kernel_rfl) (by kernel_rfl) (fun _ _ _ h => h) (Or.inl ⟨by rfl, ?hrbtt16⟩) s3 ?rrbtt16
                  case hrbtt16 => (intro w _; go_simp; try (with_reducible rfl))
                  try simp only [Act.put, List.setIfInBounds_toArray, List.set_cons_zero, List.set_cons_succ]
                  refine takeG (some 123) (i := 17) (v := ?vrbtt17) rfl rfl (by kernel_rfl) (by kernel_rfl) (by kernel_rfl) (fun _ _ _ h => h) (Or.inl ⟨by rfl, ?hrbtt17⟩) s3 ?rrbtt17
                  case hrbtt17 => (intro w _; go_simp; try (with_reducible rfl))
                  try simp only [Act.put, List.setIfInBounds_toArray, List.set_cons_zero, List.set_cons_succ]
                  refine wpAnyH_done (by kernel_rfl) ?_ _
                  have hb := below_then hb s3
                  go_wp2_with fail
                  go_roundw
                  case rel => exact ⟨k + 1, by omega, by go_num, hb⟩
                  case measure => simp [intOf]; omega
                | false =>
                  refine wp_region_held_drew (S := Below w9.heap.size w9) (by kernel_rfl) kd (fun hS0 => ?_)
                  refine takeG (some 106) (i := 0) (v := _) rfl rfl (by kernel_rfl) (by kernel_rfl) (by kernel_rfl) (fun _ _ _ h => h) (yields_rel (by rfl) _ rfl rfl HB9.out) hS0 ?_
                  try simp only [Act.put, List.setIfInBounds_toArray, List.set_cons_zero, List.set_cons_succ]
                  refine takeG (some 107) (i := 1) (v := ?vrbtf1) rfl rfl (by kernel_rfl) (by kernel_rfl) (by kernel_rfl) (fun _ _ _ h => h) (Or.inl ⟨by rfl, ?hrbtf1⟩) hS0 ?rrbtf1
                  case hrbtf1 => (intro w _; go_simp; try (with_reducible rfl))
                  try simp only [Act.put, List.setIfInBounds_toArray, List.set_cons_zero, List.set_cons_succ]
                  refine takeG (some 108) (i := 2) (v := ?vrbtf2) rfl rfl (by kernel_rfl) (by kernel_rfl) (by kernel_rfl) (fun _ _ _ h => h) (Or.inl ⟨by rfl, ?hrbtf2⟩) hS0 ?rrbtf2
                  case hrbtf2 => (intro w _; go_simp; try (with_reducible rfl))
                  try simp only [Act.put, List.setIfInBounds_toArray, List.set_cons_zero, List.set_cons_succ]
                  refine takeG (some 110) (i := 4) (v := ?vrbtf4) rfl rfl (by kernel_rfl) (by kernel_rfl) (by kernel_rfl) (fun _ _ _ h => h) (Or.inl ⟨by rfl, ?hrbtf4⟩) hS0 ?rrbtf4
                  case hrbtf4 => (intro w _; go_simp; try (with_reducible rfl))
                  try simp only [Act.put, List.setIfInBounds_toArray, List.set_cons_zero, List.set_cons_succ]
                  refine wpAnyH_ready (rs := [3]) (by kernel_rfl) (by simp) ?_
                  refine AllReadyH.cons rfl (fun K hK => ?_) AllReadyH.nil
                  go_simp
                  refine (C1.out _).mono ?_
                  rintro e y1 ⟨rfl, j1⟩
                  show K _ _
                  have s1 := below_then hS0 j1
                  refine hK.out _ _ s1 (fun _ => ?_)
                  clear hK K
                  refine takeG (some 111) (i := 5) (v := ?vrbtf5) rfl rfl (by kernel_rfl) (by kernel_rfl) (by kernel_rfl) (fun _ _ _ h => h) (Or.inl ⟨by rfl, ?hrbtf5⟩) s1 ?rrbtf5
                  case hrbtf5 => (intro w _; go_simp; try (with_reducible rfl))
                  try simp only [Act.put, List.setIfInBounds_toArray, List.set_cons_zero, List.set_cons_succ]
                  refine takeG (some 112) (i := 6) (v := ?vrbtf6) rfl rfl (by kernel_rfl) (by kernel_rfl) (by kernel_rfl) (fun _ _ _ h => h) (Or.inl ⟨by rfl, ?hrbtf6⟩) s1 ?rrbtf6
                  case hrbtf6 => (intro w _; go_simp; try (with_reducible rfl))
                  try simp only [Act.put, List.setIfInBounds_toArray, List.set_cons_zero, List.set_cons_succ]
                  refine takeG (some 113) (i := 7) (v := _) rfl rfl (by kernel_rfl) (by kernel_rfl) (by kernel_rfl) (fun _ _ _ h => h) (yields_rel (by rfl) _ rfl rfl HR9.out) s1 ?_
                  try simp only [Act.put, List.setIfInBounds_toArray, List.set_cons_zero, List.set_cons_succ]
                  refine takeG (some 114) (i := 8) (v := ?vrbtf8) rfl rfl (by kernel_rfl) (by kernel_rfl) (by kernel_rfl) (fun _ _ _ h => h) (Or.inl ⟨by rfl, ?hrbtf8⟩) s1 ?rrbtf8
                  case hrbtf8 => (intro w _; go_simp; try (with_reducible rfl))
                  try simp only [Act.put, List.setIfInBounds_toArray, List.set_cons_zero, List.set_cons_succ]
                  refine takeG (some 116) (i := 10) (v := ?vrbtf10) rfl rfl (by kernel_rfl) (by kernel_rfl) (by kernel_rfl) (fun _ _ _ h => h) (Or.inl ⟨by rfl, ?hrbtf10⟩) s1 ?rrbtf10
                  case hrbtf10 => (intro w _; go_simp; try (with_reducible rfl))
                  try simp only [Act.put, List.setIfInBounds_toArray, List.set_cons_zero, List.set_cons_succ]
                  refine takeG (some 118) (i := 12) (v := _) rfl rfl (by kernel_rfl) (by kernel_rfl) (by kernel_rfl) (fun _ _ _ h => h) (yields_rel (by rfl) _ rfl rfl HR9.out) s1 ?_
                  try simp only [Act.put, List.setIfInBounds_toArray, List.set_cons_zero, List.set_cons_succ]
                  refine takeG (some 119) (i := 13) (v := ?vrbtf13) rfl rfl (by kernel_rfl) (by kernel_rfl) (by kernel_rfl) (fun _ _ _ h => h) (Or.inl ⟨by rfl, ?hrbtf13⟩) s1 ?rrbtf13
                  case hrbtf13 => (intro w _; go_simp; try (with_reducible rfl))
                  try simp only [Act.put, List.setIfInBounds_toArray, List.set_cons_zero, List.set_cons_succ]
                  refine takeG (some 120) (i := 14) (v := ?vrbtf14) rfl rfl (by kernel_rfl) (by kernel_rfl) (by kernel_rfl) (fun _ _ _ h => h) (Or.inl ⟨by rfl, ?hrbtf14⟩) s1 ?rrbtf14
                  case hrbtf14 => (intro w _; go_simp; try (with_reducible rfl))
                  try simp only [Act.put, List.setIfInBounds_toArray, List.set_cons_zero, List.set_cons_succ]
                  refine wpAnyH_ready (rs := [9]) (by kernel_rfl) (by simp) ?_
                  refine AllReadyH.cons rfl (fun K hK => ?_) AllReadyH.nil
                  go_simp
                  refine (C2.out _).mono ?_
                  rintro e y2 ⟨rfl, j2⟩
                  show K _ _
                  have s2 := below_then s1 j2
                  refine hK.out _ _ s2 (fun _ => ?_)
                  clear hK K
                  refine wpAnyH_ready (rs := [11]) (by kernel_rfl) (by simp) ?_
                  refine AllReadyH.cons rfl (fun K hK => ?_) AllReadyH.nil
                  go_simp
                  refine (C3.out _).mono ?_
                  rintro e yz ⟨rfl, rfl⟩
                  show K _ _
                  refine hK.out _ _ s2 (fun _ => ?_)
                  clear hK K
                  refine wpAnyH_ready (rs := [15]) (by kernel_rfl) (by simp) ?_
                  refine AllReadyH.cons rfl (fun K hK => ?_) AllReadyH.nil
                  go_simp
                  refine (C4.out _).mono ?_
                  rintro e y3 ⟨rfl, j3⟩
                  show K _ _
                  have s3 := below_then s2 j3
                  refine hK.out _ _ s3 (fun _ => ?_)
                  clear hK K
                  refine takeG (some 122) (i := 16) (v := ?vrbtf16) rfl rfl (by kernel_rfl) (by kernel_rfl) (by kernel_rfl) (fun _ _ _ h => h) (Or.inl ⟨by rfl, ?hrbtf16⟩) s3 ?rrbtf16
                  case hrbtf16 => (intro w _; go_simp; try (with_reducible rfl))
                  try simp only [Act.put, List.setIfInBounds_toArray, List.set_cons_zero, List.set_cons_succ]
                  refine takeG (some 123) (i := 17) (v := ?vrbtf17) rfl rfl (by kernel_rfl) (by kernel_rfl) (by kernel_rfl) (fun _ _ _ h => h) (Or.inl ⟨by rfl, ?hrbtf17⟩) s3 ?rrbtf17
                  case hrbtf17 => (intro w _; go_simp; try (with_reducible rfl))
                  try simp only [Act.put, List.setIfInBounds_toArray, List.set_cons_zero, List.set_cons_succ]
                  refine wpAnyH_done (by kernel_rfl) ?_ _
                  have hb := below_then hb s3
                  go_wp2_with fail
                  go_roundw
                  case rel => exact ⟨k + 1, by omega, by go_num, hb⟩
                  case measure => simp [intOf]; omega
              | false =>
                cases s with
                | true =>
                  refine wp_region_held_drew (S := Below w9.heap.size w9) (by kernel_rfl) kd (fun hS0 => ?_)
                  refine takeG (some 106) (i := 0) (v := _) rfl rfl (by kernel_rfl) (by kernel_rfl) (by kernel_rfl) (fun _ _ _ h => h) (yields_rel (by rfl) _ rfl rfl HB9.out) hS0 ?_
                  try simp only [Act.put, List.setIfInBounds_toArray, List.set_cons_zero, List.set_cons_succ]
                  refine takeG (some 107) (i := 1) (v := ?vrbft1) rfl rfl (by kernel_rfl) (by kernel_rfl) (by kernel_rfl) (fun _ _ _ h => h) (Or.inl ⟨by rfl, ?hrbft1⟩) hS0 ?rrbft1
                  case hrbft1 => (intro w _; go_simp; try (with_reducible rfl))
                  try simp only [Act.put, List.setIfInBounds_toArray, List.set_cons_zero, List.set_cons_succ]
                  refine takeG (some 108) (i := 2) (v := ?vrbft2) rfl rfl (by kernel_rfl) (by kernel_rfl) (by kernel_rfl) (fun _ _ _ h => h) (Or.inl ⟨by rfl, ?hrbft2⟩) hS0 ?rrbft2
                  case hrbft2 => (intro w _; go_simp; try (with_reducible rfl))
                  try simp only [Act.put, List.setIfInBounds_toArray, List.set_cons_zero, List.set_cons_succ]
                  refine takeG (some 110) (i := 4) (v := ?vrbft4) rfl rfl (by kernel_rfl) (by kernel_rfl) (by kernel_rfl) (fun _ _ _ h => h) (Or.inl ⟨by rfl, ?hrbft4⟩) hS0 ?rrbft4
                  case hrbft4 => (intro w _; go_simp; try (with_reducible rfl))
                  try simp only [Act.put, List.setIfInBounds_toArray, List.set_cons_zero, List.set_cons_succ]
                  refine wpAnyH_ready (rs := [3]) (by kernel_rfl) (by simp) ?_
                  refine AllReadyH.cons rfl (fun K hK => ?_) AllReadyH.nil
                  go_simp
                  refine (C1.out _).mono ?_
                  rintro e y1 ⟨rfl, j1⟩
                  show K _ _
                  have s1 := below_then hS0 j1
                  refine hK.out _ _ s1 (fun _ => ?_)
                  clear hK K
                  refine takeG (some 111) (i := 5) (v := ?vrbft5) rfl rfl (by kernel_rfl) (by kernel_rfl) (by kernel_rfl) (fun _ _ _ h => h) (Or.inl ⟨by rfl, ?hrbft5⟩) s1 ?rrbft5
                  case hrbft5 => (intro w _; go_simp; try (with_reducible rfl))
                  try simp only [Act.put, List.setIfInBounds_toArray, List.set_cons_zero, List.set_cons_succ]
                  refine takeG (some 112) (i := 6) (v := ?vrbft6) rfl rfl (by kernel_rfl) (by kernel_rfl) (by kernel_rfl) (fun _ _ _ h => h) (Or.inl ⟨by rfl, ?hrbft6⟩) s1 ?rrbft6
                  case hrbft6 => (intro w _; go_simp; try (with_reducible rfl))
                  try simp only [Act.put, List.setIfInBounds_toArray, List.set_cons_zero, List.set_cons_succ]
                  refine takeG (some 113) (i := 7) (v := _) rfl rfl (by kernel_rfl) (by kernel_rfl) (by kernel_rfl) (fun _ _ _ h => h) (yields_rel (by rfl) _ rfl rfl HR9.out) s1 ?_
                  try simp only [Act.put, List.setIfInBounds_toArray, List.set_cons_zero, List.set_cons_succ]
                  refine takeG (some 114) (i := 8) (v := ?vrbft8) rfl rfl (by kernel_rfl) (by kernel_rfl) (by kernel_rfl) (fun _ _ _ h => h) (Or.inl ⟨by rfl, ?hrbft8⟩) s1 ?rrbft8
                  case hrbft8 => (intro w _; go_simp; try (with_reducible rfl))
                  try simp only [Act.put, List.setIfInBounds_toArray, List.set_cons_zero, List.set_cons_succ]
                  refine takeG (some 116) (i := 10) (v := ?vrbft10) rfl rfl (by kernel_rfl) (by kernel_rfl) (by kernel_rfl) (fun _ _ _ h => h) (Or.inl ⟨by rfl, ?hrbft10⟩) s1 ?rrbft10
                  case hrbft10 => (intro w _; go_simp; try (with_reducible rfl))
                  try simp only [Act.put, List.setIfInBounds_toArray, List.set_cons_zero, List.set_cons_succ]
                  refine takeG (some 118) (i := 12) (v := _) rfl rfl (by kernel_rfl) (by kernel_rfl) (by kernel_rfl) (fun _ _ _ h => h) (yields_rel (by rfl) _ rfl rfl HR9.out) s1 ?_
                  try simp only [Act.put, List.setIfInBounds_toArray, List.set_cons_zero, List.set_cons_succ]
                  refine takeG (some 119) (i := 13) (v := ?vrbft13) rfl rfl (by kernel_rfl) (by kernel_rfl) (by kernel_rfl) (fun _ _ _ h => h) (Or.inl ⟨by rfl, ?hrbft13⟩) s1 ?rrbft13
                  case hrbft13 => (intro w _; go_simp; try (with_reducible rfl))
                  try simp only [Act.put, List.setIfInBounds_toArray, List.set_cons_zero, List.set_cons_succ]
                  refine takeG (some 120) (i := 14) (v := ?vrbft14) rfl rfl (by kernel_rfl) (by kernel_rfl) (by kernel_rfl) (fun _ _ _ h => h) (Or.inl ⟨by rfl, ?hrbft14⟩) s1 ?rrbft14
                  case hrbft14 => (intro w _; go_simp; try (with_reducible rfl))
                  try simp only [Act.put, List.setIfInBounds_toArray, List.set_cons_zero, List.set_cons_succ]
                  refine wpAnyH_ready (rs := [9]) (by kernel_rfl) (by simp) ?_
                  refine AllReadyH.cons rfl (fun K hK => ?_) AllReadyH.nil
                  go_simp
                  refine (C2.out _).mono ?_
                  rintro e y2 ⟨rfl, j2⟩
                  show K _ _
                  have s2 := below_then s1 j2
                  refine hK.out _ _ s2 (fun _ => ?_)
                  clear hK K
                  refine wpAnyH_ready (rs := [11]) (by kernel_rfl) (by simp) ?_
                  refine AllReadyH.cons rfl (fun K hK => ?_) AllReadyH.nil
                  go_simp
                  refine (C3.out _).mono ?_
                  rintro e yz ⟨rfl, rfl⟩
                  show K _ _
                  refine hK.out _ _ s2 (fun _ => ?_)
                  clear hK K
                  refine wpAnyH_ready (rs := [15]) (by kernel_rfl) (by simp) ?_
                  refine AllReadyH.cons rfl (fun K hK => ?_) AllReadyH.nil
                  go_simp
                  refine (C4.out _).mono ?_
                  rintro e y3 ⟨rfl, j3⟩
                  show K _ _
                  have s3 := below_then s2 j3
                  refine hK.out _ _ s3 (fun _ => ?_)
                  clear hK K
                  refine takeG (some 122) (i := 16) (v := ?vrbft16) rfl rfl (by kernel_rfl) (by kernel_rfl) (by kernel_rfl) (fun _ _ _ h => h) (Or.inl ⟨by rfl, ?hrbft16⟩) s3 ?rrbft16
                  case hrbft16 => (intro w _; go_simp; try (with_reducible rfl))
                  try simp only [Act.put, List.setIfInBounds_toArray, List.set_cons_zero, List.set_cons_succ]
                  refine takeG (some 123) (i := 17) (v := ?vrbft17) rfl rfl (by kernel_rfl) (by kernel_rfl) (by kernel_rfl) (fun _ _ _ h => h) (Or.inl ⟨by rfl, ?hrbft17⟩) s3 ?rrbft17
                  case hrbft17 => (intro w _; go_simp; try (with_reducible rfl))
                  try simp only [Act.put, List.setIfInBounds_toArray, List.set_cons_zero, List.set_cons_succ]
                  refine wpAnyH_done (by kernel_rfl) ?_ _
                  have hb := below_then hb s3
                  go_wp2_with fail
                  go_roundw
                  case rel => exact ⟨k + 1, by omega, by go_num, hb⟩
                  case measure => simp [intOf]; omega
                | false =>
                  refine wp_region_held_drew (S := Below w9.heap.size w9) (by kernel_rfl) kd (fun hS0 => ?_)
                  refine takeG (some 106) (i := 0) (v := _) rfl rfl (by kernel_rfl) (by kernel_rfl) (by kernel_rfl) (fun _ _ _ h => h) (yields_rel (by rfl) _ rfl rfl HB9.out) hS0 ?_
                  try simp only [Act.put, List.setIfInBounds_toArray, List.set_cons_zero, List.set_cons_succ]
                  refine takeG (some 107) (i := 1) (v := ?vrbff1) rfl rfl (by kernel_rfl) (by kernel_rfl) (by kernel_rfl) (fun _ _ _ h => h) (Or.inl ⟨by rfl, ?hrbff1⟩) hS0 ?rrbff1
                  case hrbff1 => (intro w _; go_simp; try (with_reducible rfl))
                  try simp only [Act.put, List.setIfInBounds_toArray, List.set_cons_zero, List.set_cons_succ]
                  refine takeG (some 108) (i := 2) (v := ?vrbff2) rfl rfl (by kernel_rfl) (by kernel_rfl) (by kernel_rfl) (fun _ _ _ h => h) (Or.inl ⟨by rfl, ?hrbff2⟩) hS0 ?rrbff2
                  case hrbff2 => (intro w _; go_simp; try (with_reducible rfl))
                  try simp only [Act.put, List.setIfInBounds_toArray, List.set_cons_zero, List.set_cons_succ]
                  refine takeG (some 110) (i := 4) (v := ?vrbff4) rfl rfl (by kernel_rfl) (by kernel_rfl) (by kernel_rfl) (fun _ _ _ h => h) (Or.inl ⟨by rfl, ?hrbff4⟩) hS0 ?rrbff4
                  case hrbff4 => (intro w _; go_simp; try (with_reducible rfl))
                  try simp only [Act.put, List.setIfInBounds_toArray, List.set_cons_zero, List.set_cons_succ]
                  refine wpAnyH_ready (rs := [3]) (by kernel_rfl) (by simp) ?_
                  refine AllReadyH.cons rfl (fun K hK => ?_) AllReadyH.nil
                  go_simp
                  refine (C1.out _).mono ?_
                  rintro e y1 ⟨rfl, j1⟩
                  show K _ _
                  have s1 := below_then hS0 j1
                  refine hK.out _ _ s1 (fun _ => ?_)
                  clear hK K
                  refine takeG (some 111) (i := 5) (v := ?vrbff5) rfl rfl (by kernel_rfl) (by kernel_rfl) (by kernel_rfl) (fun _ _ _ h => h) (Or.inl ⟨by rfl, ?hrbff5⟩) s1 ?rrbff5
                  case hrbff5 => (intro w _; go_simp; try (with_reducible rfl))
                  try simp only [Act.put, List.setIfInBounds_toArray, List.set_cons_zero, List.set_cons_succ]
                  refine takeG (some 112) (i := 6) (v := ?vrbff6) rfl rfl (by kernel_rfl) (by kernel_rfl) (by kernel_rfl) (fun _ _ _ h => h) (Or.inl ⟨by rfl, ?hrbff6⟩) s1 ?rrbff6
                  case hrbff6 => (intro w _; go_simp; try (with_reducible rfl))
                  try simp only [Act.put, List.setIfInBounds_toArray, List.set_cons_zero, List.set_cons_succ]
                  refine takeG (some 113) (i := 7) (v := _) rfl rfl (by kernel_rfl) (by kernel_rfl) (by kernel_rfl) (fun _ _ _ h => h) (yields_rel (by rfl) _ rfl rfl HR9.out) s1 ?_
                  try simp only [Act.put, List.setIfInBounds_toArray, List.set_cons_zero, List.set_cons_succ]
                  refine takeG (some 114) (i := 8) (v := ?vrbff8) rfl rfl (by kernel_rfl) (by kernel_rfl) (by kernel_rfl) (fun _ _ _ h => h) (Or.inl ⟨by rfl, ?hrbff8⟩) s1 ?rrbff8
                  case hrbff8 => (intro w _; go_simp; try (with_reducible rfl))
                  try simp only [Act.put, List.setIfInBounds_toArray, List.set_cons_zero, List.set_cons_succ]
                  refine takeG (some 116) (i := 10) (v := ?vrbff10) rfl rfl (by kernel_rfl) (by kernel_rfl) (by kernel_rfl) (fun _ _ _ h => h) (Or.inl ⟨by rfl, ?hrbff10⟩) s1 ?rrbff10
                  case hrbff10 => (intro w _; go_simp; try (with_reducible rfl))
                  try simp only [Act.put, List.setIfInBounds_toArray, List.set_cons_zero, List.set_cons_succ]
                  refine takeG (some 118) (i := 12) (v := _) rfl rfl (by kernel_rfl) (by kernel_rfl) (by kernel_rfl) (fun _ _ _ h => h) (yields_rel (by rfl) _ rfl rfl HR9.out) s1 ?_
                  try simp only [Act.put, List.setIfInBounds_toArray, List.set_cons_zero, List.set_cons_succ]
                  refine takeG (some 119) (i := 13) (v := ?vrbff13) rfl rfl (by kernel_rfl) (by kernel_rfl) (by kernel_rfl) (fun _ _ _ h => h) (Or.inl ⟨by rfl, ?hrbff13⟩) s1 ?rrbff13
                  case hrbff13 => (intro w _; go_simp; try (with_reducible rfl))
                  try simp only [Act.put, List.setIfInBounds_toArray, List.set_cons_zero, List.set_cons_succ]
                  refine takeG (some 120) (i := 14) (v := ?vrbff14) rfl rfl (by kernel_rfl) (by kernel_rfl) (by kernel_rfl) (fun _ _ _ h => h) (Or.inl ⟨by rfl, ?hrbff14⟩) s1 ?rrbff14
                  case hrbff14 => (intro w _; go_simp; try (with_reducible rfl))
                  try simp only [Act.put, List.setIfInBounds_toArray, List.set_cons_zero, List.set_cons_succ]
                  refine wpAnyH_ready (rs := [9]) (by kernel_rfl) (by simp) ?_
                  refine AllReadyH.cons rfl (fun K hK => ?_) AllReadyH.nil
                  go_simp
                  refine (C2.out _).mono ?_
                  rintro e y2 ⟨rfl, j2⟩
                  show K _ _
                  have s2 := below_then s1 j2
                  refine hK.out _ _ s2 (fun _ => ?_)
                  clear hK K
                  refine wpAnyH_ready (rs := [11]) (by kernel_rfl) (by simp) ?_
                  refine AllReadyH.cons rfl (fun K hK => ?_) AllReadyH.nil
                  go_simp
                  refine (C3.out _).mono ?_
                  rintro e yz ⟨rfl, rfl⟩
                  show K _ _
                  refine hK.out _ _ s2 (fun _ => ?_)
                  clear hK K
                  refine wpAnyH_ready (rs := [15]) (by kernel_rfl) (by simp) ?_
                  refine AllReadyH.cons rfl (fun K hK => ?_) AllReadyH.nil
                  go_simp
                  refine (C4.out _).mono ?_
                  rintro e y3 ⟨rfl, j3⟩
                  show K _ _
                  have s3 := below_then s2 j3
                  refine hK.out _ _ s3 (fun _ => ?_)
                  clear hK K
                  refine takeG (some 122) (i := 16) (v := ?vrbff16) rfl rfl (by kernel_rfl) (by kernel_rfl) (by kernel_rfl) (fun _ _ _ h => h) (Or.inl ⟨by rfl, ?hrbff16⟩) s3 ?rrbff16
                  case hrbff16 => (intro w _; go_simp; try (with_reducible rfl))
                  try simp only [Act.put, List.setIfInBounds_toArray, List.set_cons_zero, List.set_cons_succ]
                  refine takeG (some 123) (i := 17) (v := ?vrbff17) rfl rfl (by kernel_rfl) (by kernel_rfl) (by kernel_rfl) (fun _ _ _ h => h) (Or.inl ⟨by rfl, ?hrbff17⟩) s3 ?rrbff17
                  case hrbff17 => (intro w _; go_simp; try (with_reducible rfl))
                  try simp only [Act.put, List.setIfInBounds_toArray, List.set_cons_zero, List.set_cons_succ]
                  refine wpAnyH_done (by kernel_rfl) ?_ _
                  have hb := below_then hb s3
                  go_wp2_with fail
                  go_roundw
                  case rel => exact ⟨k + 1, by omega, by go_num, hb⟩
                  case measure => simp [intOf]; omega
          · have hkn : ¬ (k : Int) < (h.length : Int) := by omega
            go_wp2_with fail
            go_roundw
            case rel => exact ⟨i + 1, by omega, by go_num, hb⟩
            case measure => simp [intOf]; omega
      · have hin : ¬ (i : Int) < (h.length : Int) := by omega
        have yb := HB.out _ hb
        have yr := HR.out _ hb
        have CW := Lib.hid (fun wx => withinR_any (baseM h (x : Int)) R wx)
        rw [HI.out] at CW
        have CN := Lib.hid (fun wx => lsees_any R (-1) wx)
        rw [sees_none R] at CN
        clear HWANT CF CSE CTI
        go_wp2_with (first | (with_reducible refine wpList_load_rel yb rfl _ rfl rfl ?_) | (with_reducible refine wpList_load_rel yr rfl _ rfl rfl ?_))
        refine (CW.out _).mono ?_
        rintro e v1 ⟨rfl, g1⟩
        have hb1 := below_then hb g1
        have yr1 := HR.out _ hb1
        clear yb yr CW
        go_wp2_with (with_reducible refine wpList_load_rel_g yr1 _ rfl (by kernel_rfl) rfl ?_)
        refine (CN.out _).mono ?_
        rintro e v2 ⟨rfl, g2⟩
        have hb2 := below_then hb1 g2
        clear yr1 CN
        go_wp2_with fail
        go_ret
        exact ⟨rfl, HFIN.out _ (HF.out _ hb2)⟩
end Go.Proofs.YtkaldidcekcpnaaGreatDoor
