/- Walks and plain facts that the proof of the statement RenameBack uses, joined: HisG OrdJ OrdF OrdK OrdM OrdO OrdAH LeaC OrdY HisH HisI HisJ HisK HisL HisM HisN HisO TxnI TxnJ TxnK HisP OrdR OrdS OrdX HisQ HisR OrdV OrdZ OrdAC LeaD RelS RelT LeaE RelX RelY LeaF LeaG AxiA AxiB AxiC LevA AxiD LevB LevC LevE AxiE LeaB RelU OrdAA LeaH TblA AxiF PlaA SeaC PlaB AxiG PlaC PlaH PlaI PlaF AxiH OrdP LesA LesB AxhA PlaD PlaG PlaJ PlaK PlaL PlaM MemG MemB MemE FueA FueB FueC FueF PlaE MemA MemC BruB SeaA SeaE OrdAJ MemD MemF SeaF AxhG AxhL BruA BruC BruD PlaQ BruE SeaG SeaB SeaH SeaI OrdL PlaN SeaJ SeaK LesC OrdAB AxhB AxhC BruJ BruP BruQ BruR BruU BruF BruG BruH BruI PlaP LeaI LeaJ TopA BruK BruV BruZ BrcA BrcC BruW BruX AxhN BruY BrcB SeaL IsoA IsoB CnoA SrtA CnoB CanA TblB TblC CanB CanC CanD CanE CanF CanG HisW HisY OrdAG CanH RenA RenB RenC ArgN SeqA BoxN RenD RenE RenG. Conditions: each theorem's own. -/
import Derived.Test.YtipmfhgdeghmjaaProg
import Derived.BigQuiet
import Derived.Deep.QuietTactic
import Derived.Deep.MidRow
import Derived.Deep.RegionHeld
import Derived.Deep.CutRange
import Derived.Laws.StructEq
import Derived.Deep.RegionHeld3
import Derived.Deep.AppendLies
import Derived.Deep.LoopGhost
import Derived.ChangeKeysEq
import Derived.Deep.RegionLaw
import Derived.Great.BuildSlice
import Derived.KernelRfl
import Derived.Laws.Bits128
import Derived.WalkKit
import Derived.WalkSpells
import Derived.WalkLawsBesides
import Derived.Lib.Hide
import Derived.Laws.Tables
import Derived.Laws.CopyOwn
import Derived.OwnWalk
import Derived.Deep.OwnRows
import Derived.Maps.OwnSet
import Derived.DeepKeys4
import Derived.Laws.BytesArg
import Derived.OneCell
import Derived.RangeFuncNested
import Derived.RangeFuncCalls
import Derived.RangeFuncLeaves
import Derived.RangeFuncBound
import Derived.Shelf.Abstract
import Derived.OwnWalkIn
import Derived.TacticsInMore
import Derived.LoopNIn
import Derived.LoopIn
import Derived.ArgAppend
import Derived.Deep.Upon
import Derived.Shelf.SortM.Plain
import Derived.Deep.SlicePairs
import Derived.Lib.SmallJoins
import Derived.RangeFuncBox
import Derived.Maps.AppendAt
import Derived.Maps.OwnIn
import Derived.Test.YtipmfhgdeghmjaaPRenameBack0
namespace Go.Proofs.Ytipmfhgdeghmjaa
set_option maxHeartbeats 32000000
set_option maxRecDepth 100000
set_option linter.unusedSimpArgs false
set_option linter.unusedVariables false
open Lib (hid)
section
open Go.RowKit
def rightB (h : List TxnV) : Bool := partsB h && (valuesB h && (stampsB h && sesB h))
def checkI (h : List TxnV) : Int := if 64 < h.length ∨ 1024 < opsN h then 3 else if rightB h then 0 else 2
theorem opsN_short : ∀ (h : List TxnV), Short h → opsN h ≤ h.length * 6000000000000
 | [], _ => by simp [opsN]
 | t :: h, hs => by
  have h1 := opsN_short h (fun u hu => hs u (List.mem_cons_of_mem _ hu))
  have h2 := hs t List.mem_cons_self
  unfold opsN at *
  simp only [List.map_cons, List.sum_cons, List.length_cons]
  omega
theorem parts_keys {h : List TxnV} (hp : partsB h = true) : ∀ t ∈ h, keysIn t.l := by
 intro t ht
 have := List.all_eq_true.1 hp t ht
 unfold mayT at this
 simp only [Bool.and_eq_true] at this
 exact allM_keys this.2
theorem hcheck_any (va : Value) (h : List TxnV) (w : World) (hT : Txns w va h) (hok : ∀ t ∈ h, t.ok) (hsh : Short h) :
  Calls Try.prog 13 #[va] w fun e w' => e = .returned (.int .i64 (checkI h)) ∧ Below w.heap.size w w' := by
 obtain ⟨ao, cap, rfl, hal⟩ := hT.form
 by_cases hbig : 64 < h.length
 ·have hbig' : (64 : Int) < (h.length : Int) := by omega
  have H : Hid ((3 : Int) = checkI h) := hid (by unfold checkI; rw [if_pos (.inl hbig)])
  go_enter Try.func13, Try.ntmps13
  go_wp2_with fail
  go_ret
  exact ⟨ret_int H.out, Below.refl _ _⟩
 have hbf : decide ((64 : Int) < (h.length : Int)) = false := by simp; omega
 have hle := opsN_short h hsh
 have CO := hid (hops_any _ h w hT (by omega))
 have HT := hid (fun wx (hx : Below w.heap.size w wx) => hT.below hx)
 have HOK := hid hok
 clear hT hok hsh
 go_enter Try.func13, Try.ntmps13
 go_wp2_with fail
 refine (CO.out).mono ?_
 rintro e w1 ⟨rfl, hb1⟩
 clear CO
 by_cases hov : 1024 < opsN h
 ·have hov' : (1024 : Int) < (opsN h : Int) := by omega
  have H : Hid ((3 : Int) = checkI h) := hid (by unfold checkI; rw [if_pos (.inr hov)])
  go_wp2_with fail
  go_ret
  exact ⟨ret_int H.out, hb1⟩
 have hov' : decide ((1024 : Int) < (opsN h : Int)) = false := by simp; omega
 have HCK : Hid (checkI h = if rightB h then 0 else 2) := hid (by unfold checkI; rw [if_neg (by omega)])
 have CP := hid (parts_any _ h w1 (HT.out _ hb1))
 cases hp : partsB h
 ·have H : Hid ((2 : Int) = checkI h) := hid (by rw [HCK.out]; unfold rightB; rw [hp]; rfl)
  rw [hp] at CP
  clear hp
  go_wp2_with fail
  refine (CP.out).mono ?_
  rintro e w2 ⟨rfl, hb2⟩
  have hb3 := below_then hb1 hb2
  go_wp2_with fail
  go_ret
  exact ⟨ret_int H.out, hb3⟩
 rw [hp] at CP
 have HKS := hid (parts_keys hp)
 have HR1 : Hid (rightB h = (valuesB h && (stampsB h && sesB h))) := hid (by unfold rightB; rw [hp]; rfl)
 clear hp
 go_wp2_with fail
 refine (CP.out).mono ?_
 rintro e w2 ⟨rfl, hb2⟩
 have hb3 := below_then hb1 hb2
 have CV := hid (values_any _ h w2 (HT.out _ hb3) HOK.out HKS.out (by omega) (by omega))
 clear CP hb1 hb2
 cases hv : valuesB h
 ·have H : Hid ((2 : Int) = checkI h) := hid (by rw [HCK.out, HR1.out, hv]; rfl)
  rw [hv] at CV
  clear hv
  go_wp2_with fail
  refine (CV.out).mono ?_
  rintro e w4 ⟨rfl, hb4⟩
  have hb5 := below_then hb3 hb4
  go_wp2_with fail
  go_ret
  exact ⟨ret_int H.out, hb5⟩
 rw [hv] at CV
 have HR2 : Hid (rightB h = (stampsB h && sesB h)) := hid (by rw [HR1.out, hv]; rfl)
 clear hv HR1
 go_wp2_with fail
 refine (CV.out).mono ?_
 rintro e w4 ⟨rfl, hb4⟩
 have hb5 := below_then hb3 hb4
 have CS := hid (stamps_any _ h w4 (HT.out _ hb5) HOK.out (by omega))
 clear CV hb3 hb4
 cases hs : stampsB h
 ·have H : Hid ((2 : Int) = checkI h) := hid (by rw [HCK.out, HR2.out, hs]; rfl)
  rw [hs] at CS
  clear hs
  go_wp2_with fail
  refine (CS.out).mono ?_
  rintro e w6 ⟨rfl, hb6⟩
  have hb7 := below_then hb5 hb6
  go_wp2_with fail
  go_ret
  exact ⟨ret_int H.out, hb7⟩
 rw [hs] at CS
 have HR3 : Hid (rightB h = sesB h) := hid (by rw [HR2.out, hs]; rfl)
 clear hs HR2
 go_wp2_with fail
 refine (CS.out).mono ?_
 rintro e w6 ⟨rfl, hb6⟩
 have hb7 := below_then hb5 hb6
 have CE := hid (sessions_any _ h w6 (HT.out _ hb7) HOK.out (by omega))
 clear CS hb5 hb6
 cases hse : sesB h
 ·have H : Hid ((2 : Int) = checkI h) := hid (by rw [HCK.out, HR3.out, hse]; rfl)
  rw [hse] at CE
  clear hse
  go_wp2_with fail
  refine (CE.out).mono ?_
  rintro e w8 ⟨rfl, hb8⟩
  have hb9 := below_then hb7 hb8
  go_wp2_with fail
  go_ret
  exact ⟨ret_int H.out, hb9⟩
 ·have H : Hid ((0 : Int) = checkI h) := hid (by rw [HCK.out, HR3.out, hse]; rfl)
  rw [hse] at CE
  clear hse
  go_wp2_with fail
  refine (CE.out).mono ?_
  rintro e w8 ⟨rfl, hb8⟩
  have hb9 := below_then hb7 hb8
  go_wp2_with fail
  go_ret
  exact ⟨ret_int H.out, hb9⟩
end

section
open Go.RowKit
theorem owns_apart {w : World} {b1 b2 : Nat} {e1 e2 : TypeId} {s1 s2 : Nat} {v1 v2 : Value} {n1 n2 : Nat} {x1 x2 : List Value} (h1 : w.ownsRow b1 e1 s1 v1 n1 x1) (h2 : w.ownsRow b2 e2 s2 v2 n2 x2) (he : e1 ≠ e2) : v1.ownBlock = none ∨ v1.ownBlock ≠ v2.ownBlock := by
 obtain ⟨_, h1⟩ := h1
 obtain ⟨_, h2⟩ := h2
 rcases h1 with ⟨rfl, _⟩ | ⟨g1, c1, cur1, rfl, _, hh1, _⟩
 ·exact .inl rfl
 ·right
  rcases h2 with ⟨rfl, _⟩ | ⟨g2, c2, cur2, rfl, _, hh2, _⟩
  ·simp [Value.ownBlock]
  ·intro e
   simp [Value.ownBlock] at e
   subst e
   rw [hh1] at hh2
   injection hh2 with hh2
   injection hh2 with _ hh2
   exact he hh2
abbrev KRow := Value × List Int
abbrev RRow := Value × List (Int × Int)
section
variable {b : Nat} {w : World} {vk vr : Value} {K : List KRow} {R : List RRow}
end
end

section
open Go.RowKit
theorem takeG {P : Program} {ops : Array Oper} {Q : Exit → Act → World → Prop} {md : Region.Mode} {S : World → Prop} (d : Option Tmp) {i : Nat} {oi : Oper} {v : Value} {fuel : Nat} {listed : Array Bool} {a : Act} {w : World} (hi : ops[i]? = some oi) (hd : oi.dst = d)
  (hs : Region.noSelect ops = true) (hf : Region.free md ops listed i = true) (hr : (Region.ready md ops listed).contains i = true)
  (hQ : ∀ c a w, Q (.panic c) (a.put oi.dst v) w → Q (.panic c) a w) (hy : YieldsIf P ops S oi v a) (hS : S w)
  (h : wpAnyH P md ops Q S fuel (listed.setIfInBounds i true) (a.put d v) w) : wpAnyH P md ops Q S (fuel + 1) listed a w := by
 subst hd; exact wpAnyH_take hi hs hf hr hQ hy hS h
end

section
open Go.RowKit
theorem mayop_any (wr : Bool) (key val : Int) (w : World) :
  Calls Try.prog 37 #[.agg #[.bool wr, .int .i64 key, .int .i64 val]] w fun e w' => e = .returned (.bool (mayO ⟨wr, key, val⟩)) ∧ Below w.heap.size w w' := by
 have hi : mayO ⟨wr, key, val⟩ = true ↔ (0 ≤ key ∧ key < 64) ∧ (0 ≤ val ∧ val ≤ 2147483647) ∧ (wr = true → val ≠ 0) := mayO_iff ⟨wr, key, val⟩
 have hb := box_below w (.cells #[.bool wr, .int .i64 key, .int .i64 val] 42)
 have NO : Hid (¬ ((0 ≤ key ∧ key < 64) ∧ (0 ≤ val ∧ val ≤ 2147483647) ∧ (wr = true → val ≠ 0)) → false = mayO ⟨wr, key, val⟩) := hid (fun h => by
  cases hm : mayO ⟨wr, key, val⟩
  ·rfl
  ·exact absurd (hi.1 hm) h)
 by_cases d1 : key < 0
 ·have H := hid (NO.out (by omega))
  go_enter Try.func37, Try.ntmps37
  go_wp2_with fail
  go_ret
  exact ⟨ret_b H.out, hb⟩
 by_cases d2 : (63 : Int) < key
 ·have H := hid (NO.out (by omega))
  go_enter Try.func37, Try.ntmps37
  go_wp2_with fail
  go_ret
  exact ⟨ret_b H.out, hb⟩
 by_cases d3 : val < 0
 ·have H := hid (NO.out (by omega))
  go_enter Try.func37, Try.ntmps37
  go_wp2_with fail
  go_ret
  exact ⟨ret_b H.out, hb⟩
 by_cases d4 : (2147483647 : Int) < val
 ·have H := hid (NO.out (by omega))
  go_enter Try.func37, Try.ntmps37
  go_wp2_with fail
  go_ret
  exact ⟨ret_b H.out, hb⟩
 cases wr
 ·have H : Hid (true = mayO ⟨false, key, val⟩) := hid (hi.2 ⟨by omega, by omega, fun h => by cases h⟩).symm
  clear hi NO
  go_enter Try.func37, Try.ntmps37
  go_wp2_with fail
  go_ret
  exact ⟨ret_b H.out, hb⟩
 ·by_cases d5 : val = 0
  ·have H := hid (NO.out (fun h => h.2.2 rfl d5))
   subst d5
   clear hi NO
   go_enter Try.func37, Try.ntmps37
   go_wp2_with fail
   go_ret
   exact ⟨ret_b H.out, hb⟩
  ·have H : Hid (true = mayO ⟨true, key, val⟩) := hid (hi.2 ⟨by omega, by omega, fun _ => d5⟩).symm
   have d6 : (val != 0) = true := by simpa using d5
   clear hi NO d5
   go_enter Try.func37, Try.ntmps37
   go_wp2_with fail
   go_ret
   exact ⟨ret_b H.out, hb⟩
theorem maytxn_any (s b c : Int) (va : Value) (l : List OpV) (w : World) (ha : Ops w va l) :
  Calls Try.prog 23 #[.agg #[.int .i64 s, .int .i64 b, .int .i64 c, va]] w fun e w' => e = .returned (.bool (mayT s b c l)) ∧ Below w.heap.size w w' := by
 obtain ⟨ao, cap, rfl, hal⟩ := ha.form
 have hb0 := (Below.refl w.heap.size w).alloc (Nat.le_refl _) (.cells #[.int .i64 s, .int .i64 b, .int .i64 c, .slice ao l.length cap] 38)
 have hA0 := At.new w (.cells #[.int .i64 s, .int .i64 b, .int .i64 c, .slice ao l.length cap] 38)
 have NO : Hid (¬ (0 ≤ s ∧ s < 64 ∧ 0 ≤ b ∧ b < c ∧ c ≤ 2147483647 ∧ 1 ≤ l.length ∧ l.length ≤ 64) → false = mayT s b c l) := hid (fun h => (mayT_no h).symm)
 by_cases d1 : s < 0
 ·have H := hid (NO.out (by omega))
  go_enter Try.func23, Try.ntmps23
  go_wp2_with fail
  go_ret
  exact ⟨ret_b H.out, hb0⟩
 by_cases d2 : (63 : Int) < s
 ·have H := hid (NO.out (by omega))
  go_enter Try.func23, Try.ntmps23
  go_wp2_with fail
  go_ret
  exact ⟨ret_b H.out, hb0⟩
 by_cases d3 : b < 0
 ·have H := hid (NO.out (by omega))
  go_enter Try.func23, Try.ntmps23
  go_wp2_with fail
  go_ret
  exact ⟨ret_b H.out, hb0⟩
 by_cases d4 : c ≤ b
 ·have H := hid (NO.out (by omega))
  go_enter Try.func23, Try.ntmps23
  go_wp2_with fail
  go_ret
  exact ⟨ret_b H.out, hb0⟩
 by_cases d5 : (2147483647 : Int) < c
 ·have H := hid (NO.out (by omega))
  go_enter Try.func23, Try.ntmps23
  go_wp2_with fail
  go_ret
  exact ⟨ret_b H.out, hb0⟩
 by_cases d6 : (l.length : Int) < 1
 ·have H := hid (NO.out (by omega))
  go_enter Try.func23, Try.ntmps23
  go_wp2_with fail
  go_ret
  exact ⟨ret_b H.out, hb0⟩
 by_cases d7 : (64 : Int) < (l.length : Int)
 ·have H := hid (NO.out (by omega))
  go_enter Try.func23, Try.ntmps23
  go_wp2_with fail
  go_ret
  exact ⟨ret_b H.out, hb0⟩
 have YES : Hid (mayT s b c l = allM l) := hid (mayT_yes (by omega))
 clear NO
 go_enter Try.func23, Try.ntmps23
 go_wp2_with fail
 clear d1 d2 d3 d4 d5 d6 d7
 go_loopw [3] (fun i wr => ∃ k : Nat, k ≤ l.length ∧ i = .int .i64 k ∧ allM (l.take k) = true ∧ At wr w.heap.size (.cells #[.int .i64 s, .int .i64 b, .int .i64 c, .slice ao l.length cap] 38) ∧ Below w.heap.size w wr) (fun i _ => l.length - (intOf i).toNat)
 case atStart => exact ⟨0, by omega, rfl, rfl, hA0, hb0⟩
 case round =>
  obtain ⟨k, hk, rfl, hal2, hA, hb⟩ := hrel
  have HA := hid hal2
  clear hal2 hb0 hA0
  obtain ⟨q0, q1, q2, q3⟩ := hA.cells4
  by_cases hlt : k < l.length
  ·have hki : (k : Int) < (l.length : Int) := by omega
   obtain ⟨g, o, hao, c0, c1, c2⟩ := (ha.below hb).at hlt
   cases hao
   have HS := hid (allM_succ l k hlt)
   have HNO := hid (allM_no l k hlt)
   generalize l[k] = x at *
   obtain ⟨xw, xk, xv⟩ := x
   try simp only at c0 c1 c2
   have CR := hid (mayop_any xw xk xv wr)
   generalize mayO ⟨xw, xk, xv⟩ = q at *
   go_wp2_with fail
   refine (CR.out).mono ?_
   rintro e w1 ⟨rfl, hb1⟩
   have hb2 := below_then hb hb1
   have hA1 := hA.below hb1
   clear CR q0 q1 q2 q3
   cases q
   ·have H : Hid (false = mayT s b c l) := hid (by rw [YES.out, HNO.out rfl])
    go_wp2_with fail
    go_ret
    exact ⟨ret_b H.out, hb2⟩
   ·have H : Hid (allM (l.take (k + 1)) = true) := hid (by rw [HS.out, HA.out]; rfl)
    go_wp2_with fail
    go_roundw
    case rel => exact ⟨k + 1, by omega, by go_num, H.out, hA1, hb2⟩
    case measure => simp [intOf]; omega
  ·have hkl : k = l.length := by omega
   have H : Hid (true = mayT s b c l) := hid (by have := HA.out; rw [hkl, List.take_length] at this; rw [YES.out, this])
   go_wp2_with fail
   go_ret
   exact ⟨ret_b H.out, hb⟩
def tmO (x : Int) (l : List OpV) : Nat := (wv l).count x
def tmH (x : Int) (h : List TxnV) : Nat := (wvH h).count x
theorem tmO_succ (x : Int) (l : List OpV) (k : Nat) (hk : k < l.length) : tmO x (l.take (k + 1)) = tmO x (l.take k) + (if l[k].wr = true ∧ l[k].val = x then 1 else 0) := by
 unfold tmO
 rw [take_snoc l k hk, wv_snoc, List.count_append]
 cases hw : l[k].wr
 ·simp
 ·by_cases e : l[k].val = x <;> simp [e]
theorem tmH_succ (x : Int) (h : List TxnV) (k : Nat) (hk : k < h.length) : tmH x (h.take (k + 1)) = tmH x (h.take k) + tmO x h[k].l := by
 unfold tmH tmO; rw [wvH_succ h k hk, List.count_append]
theorem tmO_le (x : Int) (l : List OpV) (k : Nat) : tmO x (l.take k) ≤ k := by
 unfold tmO
 have h1 := List.count_le_length (a := x) (l := wv (l.take k))
 have h2 := wv_len (l.take k)
 rw [List.length_take] at h2
 omega
theorem tmH_le (x : Int) (h : List TxnV) : tmH x h ≤ opsN h := by
 unfold tmH
 have h1 := List.count_le_length (a := x) (l := wvH h)
 have h2 : (wvH h).length ≤ opsN h := by
  unfold wvH opsN
  rw [List.length_flatMap]
  clear h1
  induction h with
  | nil => simp
  | cons t h ih =>
   have := wv_len t.l
   simp only [List.map_cons, List.sum_cons]
   omega
 omega
theorem times_any (va : Value) (h : List TxnV) (x : Int) (w : World) (hT : Txns w va h) (hn : opsN h ≤ 100000) :
  Calls Try.prog 24 #[va, .int .i64 x] w fun e w' => e = .returned (.int .i64 (tmH x h)) ∧ Below w.heap.size w w' := by
 obtain ⟨ao, cap, rfl, hal⟩ := hT.form
 go_enter Try.func24, Try.ntmps24
 go_wp2_with fail
 go_loopw [5, 6] (fun n i wr => ∃ k : Nat, k ≤ h.length ∧ i = .int .i64 k ∧ n = .int .i64 (tmH x (h.take k)) ∧ w = wr) (fun _ i _ => h.length - (intOf i).toNat)
 case atStart => exact ⟨0, by omega, rfl, by simp [tmH, wvH], rfl⟩
 case round =>
  obtain ⟨k, hk, rfl, rfl, rfl⟩ := hrel
  by_cases hlt : k < h.length
  ·have hki : (k : Int) < (h.length : Int) := by omega
   obtain ⟨g, o, hao, c0, c1, c2, c3⟩ := hT.at hlt
   cases hao
   have HS := hid (tmH_succ x h k hlt)
   have hle1 := tmH_le x (h.take k)
   have hle2 := opsN_le h k
   have hle3 := opsN_at h k hlt
   obtain ⟨ai, capi, hv, hli⟩ := (hT.ops hlt).form
   have hO := hT.ops hlt
   rw [hv] at c3 hO
   generalize h[k].l = l at *
   generalize tmH x (h.take k) = m at *
   clear hv c0 c1 c2 hT
   go_wp2_with fail
   go_loopw [5, 7] (fun n i wx => ∃ j : Nat, j ≤ l.length ∧ i = .int .i64 j ∧ n = .int .i64 ((m + tmO x (l.take j) : Nat)) ∧ w = wx) (fun _ i _ => l.length - (intOf i).toNat)
   case atStart => exact ⟨0, by omega, rfl, by simp [tmO, wv], rfl⟩
   case round =>
    obtain ⟨j, hj, rfl, rfl, rfl⟩ := hrel
    have htj := tmO_le x l j
    by_cases hltj : j < l.length
    ·have hkj : (j : Int) < (l.length : Int) := by omega
     obtain ⟨g2, o2, hao2, e0, e1, e2⟩ := hO.at hltj
     cases hao2
     have HSJ := hid (tmO_succ x l j hltj)
     generalize l[j] = y at *
     obtain ⟨yw, yk, yv⟩ := y
     try simp only at e0 e1 e2
     generalize tmO x (l.take j) = n at *
     cases yw with
     | false =>
      have H : Hid (tmO x (l.take (j + 1)) = n) := hid (by rw [HSJ.out]; simp)
      clear HSJ
      go_wp2_with fail
      go_roundw
      case rel => exact ⟨j + 1, by omega, by go_num, by rw [H.out], by first | rfl | trivial⟩
      case measure => simp [intOf]; omega
     | true =>
      by_cases hx : yv = x
      ·have H : Hid (tmO x (l.take (j + 1)) = n + 1) := hid (by rw [HSJ.out]; simp [hx])
       subst hx
       clear HSJ
       go_wp2_with fail
       go_roundw
       case rel => exact ⟨j + 1, by omega, by go_num, by rw [H.out]; go_num, by first | rfl | trivial⟩
       case measure => simp [intOf]; omega
      ·have H : Hid (tmO x (l.take (j + 1)) = n) := hid (by rw [HSJ.out]; simp [hx])
       have hx' : (yv == x) = false := by simpa using hx
       clear HSJ hx
       go_wp2_with fail
       go_roundw
       case rel => exact ⟨j + 1, by omega, by go_num, by rw [H.out], by first | rfl | trivial⟩
       case measure => simp [intOf]; omega
    ·have hj2 : j = l.length := by omega
     subst hj2
     have H : Hid (tmH x (h.take (k + 1)) = m + tmO x (l.take l.length)) := hid (by rw [HS.out, List.take_length])
     generalize tmO x (l.take l.length) = n at *
     go_wp2_with fail
     go_roundw
     case rel => exact ⟨k + 1, by omega, by go_num, by rw [H.out], by first | rfl | trivial⟩
     case measure => simp [intOf]; omega
  ·have hkl : k = h.length := by omega
   subst hkl
   have H : Hid ((tmH x (h.take h.length) : Int) = tmH x h) := hid (by rw [List.take_length])
   generalize tmH x (h.take h.length) = n at *
   go_wp2_with fail
   go_ret
   exact ⟨ret_int H.out, Below.refl _ _⟩
end

section
open Go.RowKit
def isWr (key x : Int) (o : OpV) : Bool := o.wr && (o.key == key && o.val == x)
def wrI (key x : Int) (h : List TxnV) : Int := match h.findIdx? (fun t => t.l.any (isWr key x)) with
 | some i => i
 | none => -1
theorem wrI_hit {key x : Int} {h : List TxnV} {k j : Nat} (hk : k < h.length) (hj : j < h[k].l.length) (hn : ∀ i, ∀ hi : i < k, (h[i]'(by omega)).l.any (isWr key x) = false) (hh : isWr key x h[k].l[j] = true) : wrI key x h = k := by
 unfold wrI
 have : h.findIdx? (fun t => t.l.any (isWr key x)) = some k := by
  rw [List.findIdx?_eq_some_iff_getElem]
  exact ⟨hk, List.any_eq_true.2 ⟨_, List.getElem_mem hj, hh⟩, fun i hi => by rw [hn i hi]; simp⟩
 rw [this]
theorem wrI_none {key x : Int} {h : List TxnV} (hn : ∀ i, ∀ hi : i < h.length, h[i].l.any (isWr key x) = false) : wrI key x h = -1 := by
 unfold wrI
 have : h.findIdx? (fun t => t.l.any (isWr key x)) = none := by
  rw [List.findIdx?_eq_none_iff]
  intro t ht
  obtain ⟨i, hi, rfl⟩ := List.getElem_of_mem ht
  exact hn i hi
 rw [this]
theorem wrI_nonneg {key x : Int} {h : List TxnV} : wrI key x h < 0 ↔ ∀ t ∈ h, ∀ o ∈ t.l, isWr key x o = false := by
 unfold wrI
 cases hf : h.findIdx? (fun t => t.l.any (isWr key x)) with
 | none =>
  rw [List.findIdx?_eq_none_iff] at hf
  simp only [Int.reduceNeg, Int.reduceLT, true_iff]
  intro t ht o ho
  have := List.any_eq_false.1 (hf t ht) o ho
  simpa using this
 | some i =>
  rw [List.findIdx?_eq_some_iff_getElem] at hf
  obtain ⟨hi, h1, _⟩ := hf
  constructor
  ·intro h2; simp only at h2; omega
  ·intro h2
   obtain ⟨o, ho, hw⟩ := List.any_eq_true.1 h1
   rw [h2 _ (List.getElem_mem hi) o ho] at hw
   cases hw
theorem writer_any (va : Value) (h : List TxnV) (key x : Int) (w : World) (hT : Txns w va h) :
  Calls Try.prog 25 #[va, .int .i64 key, .int .i64 x] w fun e w' => e = .returned (.int .i64 (wrI key x h)) ∧ Below w.heap.size w w' := by
 obtain ⟨ao, cap, rfl, hal⟩ := hT.form
 have HT := hid (fun wx (hx : Below w.heap.size w wx) => hT.below hx)
 have HHIT : Hid (∀ k j, ∀ hk : k < h.length, ∀ hj : j < h[k].l.length, (∀ i, ∀ hi : i < k, (h[i]'(by omega)).l.any (isWr key x) = false) → isWr key x h[k].l[j] = true → (k : Int) = wrI key x h) := hid (fun k j hk hj hn hh => (wrI_hit hk hj hn hh).symm)
 have HNONE : Hid ((∀ i, ∀ hi : i < h.length, h[i].l.any (isWr key x) = false) → (-1 : Int) = wrI key x h) := hid (fun hn => (wrI_none hn).symm)
 clear hT
 go_enter Try.func25, Try.ntmps25
 go_wp2_with fail
 go_loopw [7] (fun i wr => ∃ k : Nat, k ≤ h.length ∧ i = .int .i64 k ∧ (∀ i, ∀ _ : i < k, ∀ hi2 : i < h.length, h[i].l.any (isWr key x) = false) ∧ Below w.heap.size w wr) (fun i _ => h.length - (intOf i).toNat)
 case atStart => exact ⟨0, by omega, rfl, by omega, Below.refl _ _⟩
 case round =>
  obtain ⟨k, hk, rfl, hN, hb⟩ := hrel
  have HN := hid hN
  clear hN
  by_cases hlt : k < h.length
  ·have hki : (k : Int) < (h.length : Int) := by omega
   obtain ⟨g, o, hao, c0, c1, c2, c3⟩ := (HT.out _ hb).at hlt
   cases hao
   have HOP := hid (fun wx (hx : Below w.heap.size w wx) => (HT.out wx hx).ops hlt)
   have HAT := hid (fun wx (hx : Below w.heap.size w wx) => (HT.out wx hx).at hlt)
   have HHK := hid (fun j hj hh => HHIT.out k j hlt hj (fun i hi => HN.out i hi (by omega)) hh)
   have HLK : Hid (h[k].l.any (isWr key x) = false → ∀ i, ∀ _ : i < k + 1, ∀ hi2 : i < h.length, h[i].l.any (isWr key x) = false) := hid (fun hh i hi hi2 => by
    rcases Nat.lt_or_eq_of_le (Nat.le_of_lt_succ hi) with h1 | rfl
    ·exact HN.out i h1 hi2
    ·exact hh)
   obtain ⟨ai, capi, hv, hli⟩ := ((HT.out _ hb).ops hlt).form
   rw [hv] at HOP c3 HAT
   generalize h[k].l = l at *
   clear hv c0 c1 c2 c3 HHIT HNONE
   go_wp2_with fail
   go_loopw [8] (fun i wx => ∃ j : Nat, j ≤ l.length ∧ i = .int .i64 j ∧ ((l.take j).any (isWr key x) = false) ∧ Below w.heap.size w wx) (fun i _ => l.length - (intOf i).toNat)
   case atStart => exact ⟨0, by omega, rfl, rfl, hb⟩
   case round =>
    obtain ⟨j, hj, rfl, hA, hb2⟩ := hrel
    have HA := hid hA
    clear hA hb
    obtain ⟨_, _, hao, c0, c1, c2, c3⟩ := HAT.out _ hb2
    cases hao
    clear c0 c1 c2
    by_cases hltj : j < l.length
    ·have hkj : (j : Int) < (l.length : Int) := by omega
     obtain ⟨g2, o2, hao2, e0, e1, e2⟩ := (HOP.out _ hb2).at hltj
     cases hao2
     have HS : Hid ((l.take (j + 1)).any (isWr key x) = ((l.take j).any (isWr key x) || isWr key x l[j])) := hid (by rw [take_snoc l j hltj, List.any_append]; simp)
     have HH := hid (HHK.out j hltj)
     generalize l[j] = y at *
     obtain ⟨yw, yk, yv⟩ := y
     try simp only at e0 e1 e2
     have hb3 := hb2.alloc hb2.size (.cells #[.bool yw, .int .i64 yk, .int .i64 yv] 42)
     clear HHK
     cases yw with
     | false =>
      have H : Hid ((l.take (j + 1)).any (isWr key x) = false) := hid (by rw [HS.out, HA.out]; rfl)
      clear HS HH
      go_wp2_with fail
      go_roundw
      case rel => exact ⟨j + 1, by omega, by go_num, H.out, hb3⟩
      case measure => simp [intOf]; omega
     | true =>
      by_cases hyk : yk = key
      ·subst hyk
       by_cases hyv : yv = x
       ·have H := hid (HH.out (by subst hyv; unfold isWr; simp))
        subst hyv
        clear HS HH
        go_wp2_with fail
        go_ret
        exact ⟨ret_int H.out, hb3⟩
       ·have H : Hid ((l.take (j + 1)).any (isWr yk x) = false) := hid (by rw [HS.out, HA.out]; unfold isWr; simp [hyv])
        have hyv' : (yv == x) = false := by simpa using hyv
        clear HS HH hyv
        go_wp2_with fail
        go_roundw
        case rel => exact ⟨j + 1, by omega, by go_num, H.out, hb3⟩
        case measure => simp [intOf]; omega
      ·have H : Hid ((l.take (j + 1)).any (isWr key x) = false) := hid (by rw [HS.out, HA.out]; unfold isWr; simp [hyk])
       have hyk' : (yk == key) = false := by simpa using hyk
       clear HS HH hyk
       go_wp2_with fail
       go_roundw
       case rel => exact ⟨j + 1, by omega, by go_num, H.out, hb3⟩
       case measure => simp [intOf]; omega
    ·have hj2 : j = l.length := by omega
     subst hj2
     have H := hid (HLK.out (by have := HA.out; rwa [List.take_length] at this))
     go_wp2_with fail
     go_roundw
     case rel => exact ⟨k + 1, by omega, by go_num, H.out, hb2⟩
     case measure => simp [intOf]; omega
  ·have hkl : k = h.length := by omega
   subst hkl
   have H := hid (HNONE.out (fun i hi => HN.out i hi hi))
   clear HHIT HNONE
   go_wp2_with fail
   go_ret
   exact ⟨ret_int H.out, hb⟩
end

section
open Go.RowKit
def apartB (a t : TxnV) : Bool := (a.b != t.b && (a.b != t.c && (a.c != t.b && a.c != t.c))) && !(a.s == t.s && decide (t.b < a.c))
def opR (h : List TxnV) (o : OpV) : Bool := if o.wr then tmH o.val h == 1 else o.val == 0 || !decide (wrI o.key o.val h < 0)
def rowR (h : List TxnV) (k : Nat) (t : TxnV) : Bool := mayT t.s t.b t.c t.l && ((h.take k).all (fun a => apartB a t) && t.l.all (opR h))
def mayRef (h : List TxnV) : Bool := (List.range h.length).all fun k => match h[k]? with
 | some t => rowR h k t
 | none => true
theorem mayRef_no {h : List TxnV} {k : Nat} (hk : k < h.length) (hn : rowR h k h[k] = false) : mayRef h = false := by
 unfold mayRef
 rw [List.all_eq_false]
 exact ⟨k, List.mem_range.2 hk, by rw [List.getElem?_eq_getElem hk]; simp [hn]⟩
theorem mayRef_yes {h : List TxnV} (hn : ∀ k, ∀ hk : k < h.length, rowR h k h[k] = true) : mayRef h = true := by
 unfold mayRef
 rw [List.all_eq_true]
 intro k hk
 have := List.mem_range.1 hk
 rw [List.getElem?_eq_getElem this]; exact hn k this
theorem rowR_a {h : List TxnV} {k : Nat} {t : TxnV} (hn : mayT t.s t.b t.c t.l = false) : rowR h k t = false := by unfold rowR; rw [hn]; rfl
theorem rowR_b {h : List TxnV} {k : Nat} {t : TxnV} {j : Nat} (hj : j < k) (hk : k ≤ h.length) (hn : apartB (h[j]'(by omega)) t = false) : rowR h k t = false := by
 unfold rowR
 have : (h.take k).all (fun a => apartB a t) = false := List.all_eq_false.2 ⟨h[j]'(by omega), by rw [List.mem_take_iff_getElem]; exact ⟨j, by omega, rfl⟩, by simp [hn]⟩
 rw [this]; simp
theorem rowR_c {h : List TxnV} {k : Nat} {t : TxnV} {j : Nat} (hj : j < t.l.length) (hn : opR h t.l[j] = false) : rowR h k t = false := by
 unfold rowR
 have : t.l.all (opR h) = false := List.all_eq_false.2 ⟨t.l[j], List.getElem_mem hj, by simp [hn]⟩
 rw [this]; simp
theorem rmay_any (va : Value) (h : List TxnV) (w : World) (hT : Txns w va h) (hn : opsN h ≤ 100000) :
  Calls Try.prog 12 #[va] w fun e w' => e = .returned (.bool (mayRef h)) ∧ Below w.heap.size w w' := by
 obtain ⟨ao, cap, rfl, hal⟩ := hT.form
 have HT := hid (fun wx (hx : Below w.heap.size w wx) => hT.below hx)
 have HNO : Hid (∀ k, ∀ hk : k < h.length, rowR h k h[k] = false → false = mayRef h) := hid (fun k hk hh => (mayRef_no hk hh).symm)
 have HTM : Hid (∀ x wx, Below w.heap.size w wx → Calls Try.prog 24 #[.slice ao h.length cap, .int .i64 x] wx fun e w' => e = .returned (.int .i64 (tmH x h)) ∧ Below wx.heap.size wx w') := hid (fun x wx hx => times_any _ h x wx (hT.below hx) hn)
 have HWR : Hid (∀ key x wx, Below w.heap.size w wx → Calls Try.prog 25 #[.slice ao h.length cap, .int .i64 key, .int .i64 x] wx fun e w' => e = .returned (.int .i64 (wrI key x h)) ∧ Below wx.heap.size wx w') := hid (fun key x wx hx => writer_any _ h key x wx (hT.below hx))
 clear hT
 go_enter Try.func12, Try.ntmps12
 go_wp2_with fail
 go_loopw [3] (fun i wr => ∃ k : Nat, k ≤ h.length ∧ i = .int .i64 k ∧ (∀ j, ∀ _ : j < k, ∀ hj : j < h.length, rowR h j h[j] = true) ∧ Below w.heap.size w wr) (fun i _ => h.length - (intOf i).toNat)
 case atStart => exact ⟨0, by omega, rfl, by omega, Below.refl _ _⟩
 case round =>
  obtain ⟨k, hk, rfl, hN, hb⟩ := hrel
  have HN := hid hN
  clear hN
  by_cases hlt : k < h.length
  ·have hki : (k : Int) < (h.length : Int) := by omega
   obtain ⟨g, o, hao, c0, c1, c2, c3⟩ := (HT.out _ hb).at hlt
   cases hao
   have HOP := hid (fun wx (hx : Below w.heap.size w wx) => (HT.out wx hx).ops hlt)
   have HAT := hid (fun wx (hx : Below w.heap.size w wx) => (HT.out wx hx).at hlt)
   have HAJ := hid (fun wx (hx : Below w.heap.size w wx) j (hj : j < h.length) => (HT.out wx hx).at hj)
   have HNK := hid (HNO.out k hlt)
   have HLK : Hid (rowR h k h[k] = true → ∀ i, ∀ _ : i < k + 1, ∀ hi2 : i < h.length, rowR h i h[i] = true) := hid (fun hh i hi hi2 => by
    rcases Nat.lt_or_eq_of_le (Nat.le_of_lt_succ hi) with h1 | rfl
    ·exact HN.out i h1 hi2
    ·exact hh)
   have HJV : Hid (∀ wx, Below w.heap.size w wx → ∀ j, ∀ hj : j < h.length, ∃ a' m' c', (h[j]).v = .slice a' m' c') := hid (fun wx hx j hj => by
    obtain ⟨a', c', hv', _⟩ := ((HT.out wx hx).ops hj).form
    exact ⟨a', _, c', hv'⟩)
   generalize ht : h[k] = t at *
   have HTK := hid ht
   clear ht
   obtain ⟨s, b, c, v, l⟩ := t
   simp only at c0 c1 c2 c3 HOP HAT
   obtain ⟨ai, capi, rfl, hli⟩ := (HOP.out _ hb).form
   have CM := hid (maytxn_any s b c _ l wr (HOP.out _ hb))
   clear HN
   cases hm : mayT s b c l
   ·have H := hid (HNK.out (rowR_a hm))
    rw [hm] at CM
    clear hm HNK HLK HNO
    go_wp2_with fail
    refine (CM.out).mono ?_
    rintro e w1 ⟨rfl, hb1⟩
    have hb2 := below_then hb hb1
    go_wp2_with fail
    go_ret
    exact ⟨ret_b H.out, hb2⟩
   rw [hm] at CM
   have HM := hid hm
   clear hm
   go_wp2_with fail
   refine (CM.out).mono ?_
   rintro e w1 ⟨rfl, hb1⟩
   have hb2 := below_then hb hb1
   clear CM hb hb1 c0 c1 c2 c3
   go_wp2_with fail
   go_loopw [4] (fun i wx => ∃ j : Nat, j ≤ k ∧ i = .int .i64 j ∧ ((h.take j).all (fun a => apartB a ⟨s, b, c, .slice ai l.length capi, l⟩) = true) ∧ Below w.heap.size w wx) (fun i _ => k - (intOf i).toNat)
   case atStart => exact ⟨0, by omega, rfl, rfl, hb2⟩
   case round =>
    obtain ⟨j, hj, rfl, hA, hb3⟩ := hrel
    have HA := hid hA
    clear hA hb2
    by_cases hltj : j < k
    ·have hkj : (j : Int) < (k : Int) := by omega
     have hjl : j < h.length := by omega
     have hjl' : (j : Int) < (h.length : Int) := by omega
     obtain ⟨_, _, hao, c0, c1, c2, c3⟩ := HAJ.out _ hb3 j hjl
     cases hao
     have HS : Hid ((h.take (j + 1)).all (fun a => apartB a ⟨s, b, c, .slice ai l.length capi, l⟩) = ((h.take j).all (fun a => apartB a ⟨s, b, c, .slice ai l.length capi, l⟩) && apartB h[j] ⟨s, b, c, .slice ai l.length capi, l⟩)) := hid (by rw [List.take_succ_eq_append_getElem hjl, List.all_append]; simp)
     have HB := hid (fun hh => HNK.out (rowR_b hltj hk hh))
     obtain ⟨a1, m1, cap1, hv1⟩ := HJV.out _ hb3 j hjl
     rw [hv1] at c3
     generalize h[j] = u at *
     obtain ⟨us, ub, uc, uv, ul⟩ := u
     simp only at c0 c1 c2 hv1
     subst hv1
     have hb4 := hb3.alloc hb3.size (.cells #[.int .i64 us, .int .i64 ub, .int .i64 uc, .slice a1 m1 cap1] 38)
     have hb5 := hb4.alloc hb4.size (.cells #[.int .i64 s, .int .i64 b, .int .i64 c, .slice ai l.length capi] 38)
     obtain ⟨_, _, hao, e0, e1, e2, e3⟩ := HAT.out _ hb4
     cases hao
     have HAP : Hid (apartB ⟨us, ub, uc, .slice a1 m1 cap1, ul⟩ ⟨s, b, c, .slice ai l.length capi, l⟩ = ((ub != b && (ub != c && (uc != b && uc != c))) && !(us == s && decide (b < uc)))) := hid rfl
     generalize apartB ⟨us, ub, uc, .slice a1 m1 cap1, ul⟩ ⟨s, b, c, .slice ai l.length capi, l⟩ = q at *
     cases b1 : ub == b
     case true =>
      have H := hid (HB.out (by rw [HAP.out]; simp [bne, b1]))
      clear HLK HNO HNK HB HAP HS
      go_wp2_with fail
      go_ret
      exact ⟨ret_b H.out, hb5⟩
     cases b2 : ub == c
     case true =>
      have H := hid (HB.out (by rw [HAP.out]; simp [bne, b1, b2]))
      clear HLK HNO HNK HB HAP HS
      go_wp2_with fail
      go_ret
      exact ⟨ret_b H.out, hb5⟩
     cases b3 : uc == b
     case true =>
      have H := hid (HB.out (by rw [HAP.out]; simp [bne, b1, b2, b3]))
      clear HLK HNO HNK HB HAP HS
      go_wp2_with fail
      go_ret
      exact ⟨ret_b H.out, hb5⟩
     cases b4 : uc == c
     case true =>
      have H := hid (HB.out (by rw [HAP.out]; simp [bne, b1, b2, b3, b4]))
      clear HLK HNO HNK HB HAP HS
      go_wp2_with fail
      go_ret
      exact ⟨ret_b H.out, hb5⟩
     cases b5 : us == s
     case false =>
      have H : Hid ((h.take (j + 1)).all (fun a => apartB a ⟨s, b, c, .slice ai l.length capi, l⟩) = true) := hid (by rw [HS.out, HA.out, HAP.out]; simp [bne, b1, b2, b3, b4, b5])
      clear HB HAP HS
      go_wp2_with fail
      go_roundw
      case rel => exact ⟨j + 1, by omega, by go_num, H.out, hb5⟩
      case measure => simp [intOf]; omega
     by_cases d6 : b < uc
     ·have H := hid (HB.out (by rw [HAP.out]; simp [bne, b1, b2, b3, b4, b5, d6]))
      clear HLK HNO HNK HB HAP HS
      go_wp2_with fail
      go_ret
      exact ⟨ret_b H.out, hb5⟩
     ·have H : Hid ((h.take (j + 1)).all (fun a => apartB a ⟨s, b, c, .slice ai l.length capi, l⟩) = true) := hid (by rw [HS.out, HA.out, HAP.out]; simp [bne, b1, b2, b3, b4, b5, d6])
      clear HB HAP HS
      go_wp2_with fail
      go_roundw
      case rel => exact ⟨j + 1, by omega, by go_num, H.out, hb5⟩
      case measure => simp [intOf]; omega
    ·have hjk : j = k := by omega
     subst hjk
     have HRO : Hid (rowR h j ⟨s, b, c, .slice ai l.length capi, l⟩ = l.all (opR h)) := hid (by unfold rowR; rw [HM.out, HA.out]; rfl)
     have HOO := hid (fun i hi hh => HNK.out (rowR_c (j := i) hi hh))
     clear HNK HM HA HJV HAJ
     go_wp2_with fail
     go_loopw [7] (fun i wx => ∃ m : Nat, m ≤ l.length ∧ i = .int .i64 m ∧ (l.take m).all (opR h) = true ∧ Below w.heap.size w wx) (fun i _ => l.length - (intOf i).toNat)
     case atStart => exact ⟨0, by omega, rfl, rfl, hb3⟩
     case round =>
      obtain ⟨m, hm, rfl, hA, hb4⟩ := hrel
      have HA := hid hA
      clear hA hb3
      obtain ⟨_, _, hao, c0, c1, c2, c3⟩ := HAT.out _ hb4
      cases hao
      clear c0 c1 c2
      by_cases hltm : m < l.length
      ·have hkm : (m : Int) < (l.length : Int) := by omega
       obtain ⟨g2, o2, hao2, e0, e1, e2⟩ := (HOP.out _ hb4).at hltm
       cases hao2
       have HS : Hid ((l.take (m + 1)).all (opR h) = ((l.take m).all (opR h) && opR h l[m])) := hid (by rw [take_snoc l m hltm, List.all_append]; simp)
       have HB := hid (HOO.out m hltm)
       generalize l[m] = y at *
       obtain ⟨yw, yk, yv⟩ := y
       try simp only at e0 e1 e2
       have hb5 := hb4.alloc hb4.size (.cells #[.bool yw, .int .i64 yk, .int .i64 yv] 42)
       have HOR : Hid (opR h ⟨yw, yk, yv⟩ = if yw then tmH yv h == 1 else yv == 0 || !decide (wrI yk yv h < 0)) := hid rfl
       generalize opR h ⟨yw, yk, yv⟩ = q at *
       cases yw with
       | true =>
        simp only [if_true] at HOR
        have CT := hid (HTM.out yv _ hb5)
        generalize tmH yv h = n at *
        cases hn1 : n == 1
        ·have H := hid (HB.out (by rw [HOR.out, hn1]))
         have hn2 : ((n : Int) != 1) = true := by simp at hn1 ⊢; omega
         clear HLK HNO HOO HB HOR HS hn1
         go_wp2_with fail
         refine (CT.out).mono ?_
         rintro e w6 ⟨rfl, hb6⟩
         have hb7 := below_then hb5 hb6
         go_wp2_with fail
         go_ret
         exact ⟨ret_b H.out, hb7⟩
        ·have H : Hid ((l.take (m + 1)).all (opR h) = true) := hid (by rw [HS.out, HA.out, HOR.out, hn1]; rfl)
         obtain rfl : n = 1 := by simpa using hn1
         change Hid (Calls _ _ _ _ fun e w' => e = .returned (.int .i64 1) ∧ _) at CT
         clear HB HOR HS hn1
         obtain ⟨x0, x1, x2⟩ := opBlock wr (.bool true) (.int .i64 yk) (.int .i64 yv) 42
         go_wp2_with fail
         refine (CT.out).mono ?_
         rintro e w6 ⟨rfl, hb6⟩
         have hb7 := below_then hb5 hb6
         have z0 := (hb6.cell (p := ⟨wr.heap.size, 0, none⟩) (block_lt x0)).trans x0
         have z1 := (hb6.cell (p := ⟨wr.heap.size, 1, none⟩) (block_lt x1)).trans x1
         have z2 := (hb6.cell (p := ⟨wr.heap.size, 2, none⟩) (block_lt x2)).trans x2
         clear x0 x1 x2
         go_wp2_with fail
         go_roundw
         case rel => exact ⟨m + 1, by omega, by go_num, H.out, hb7⟩
         case measure => simp [intOf]; omega
       | false =>
        simp only [Bool.false_eq_true, if_false] at HOR
        cases hz : yv == 0
        ·have hz2 : (yv != 0) = true := by simp [bne, hz]
         have CW := hid (HWR.out yk yv _ hb5)
         generalize wrI yk yv h = n at *
         by_cases hneg : n < 0
         ·have H := hid (HB.out (by rw [HOR.out, hz]; simp [hneg]))
          clear HLK HNO HOO HB HOR HS
          go_wp2_with fail
          refine (CW.out).mono ?_
          rintro e w6 ⟨rfl, hb6⟩
          have hb7 := below_then hb5 hb6
          go_wp2_with fail
          go_ret
          exact ⟨ret_b H.out, hb7⟩
         ·have H : Hid ((l.take (m + 1)).all (opR h) = true) := hid (by rw [HS.out, HA.out, HOR.out, hz]; simp [hneg])
          clear HB HOR HS
          go_wp2_with fail
          refine (CW.out).mono ?_
          rintro e w6 ⟨rfl, hb6⟩
          have hb7 := below_then hb5 hb6
          go_wp2_with fail
          go_roundw
          case rel => exact ⟨m + 1, by omega, by go_num, H.out, hb7⟩
          case measure => simp [intOf]; omega
        ·have hz2 : (yv != 0) = false := by simp [bne, hz]
         have H : Hid ((l.take (m + 1)).all (opR h) = true) := hid (by rw [HS.out, HA.out, HOR.out, hz]; rfl)
         clear HB HOR HS
         go_wp2_with fail
         go_roundw
         case rel => exact ⟨m + 1, by omega, by go_num, H.out, hb5⟩
         case measure => simp [intOf]; omega
      ·have hm2 : m = l.length := by omega
       subst hm2
       have H := hid (HLK.out (by rw [HRO.out]; have := HA.out; rwa [List.take_length] at this))
       go_wp2_with fail
       go_roundw
       case rel => exact ⟨j + 1, by omega, by go_num, H.out, hb4⟩
       case measure => simp [intOf]; omega
  ·have hkl : k = h.length := by omega
   subst hkl
   have H : Hid (true = mayRef h) := hid (mayRef_yes (fun k hk => HN.out k hk hk)).symm
   clear HNO HTM HWR
   go_wp2_with fail
   go_ret
   exact ⟨ret_b H.out, hb⟩
end

section
open Go.RowKit
def wrs (h : List TxnV) : List OpV := h.flatMap fun t => t.l.filter (·.wr)
theorem wvH_map (h : List TxnV) : wvH h = (wrs h).map (·.val) := by unfold wvH wrs wv; rw [List.map_flatMap]
theorem wrs_mem {h : List TxnV} {o : OpV} : o ∈ wrs h ↔ ∃ t ∈ h, o ∈ t.l ∧ o.wr = true := by unfold wrs; simp
theorem inj_val : ∀ {L : List OpV}, (L.map (·.val)).Nodup → ∀ {o p : OpV}, o ∈ L → p ∈ L → o.val = p.val → o = p
 | a :: L, hd, o, p, ho, hp, e => by
  rw [List.map_cons, List.nodup_cons] at hd
  rcases List.mem_cons.1 ho with rfl | ho
  ·rcases List.mem_cons.1 hp with rfl | hp
   ·rfl
   ·exact absurd (List.mem_map.2 ⟨p, hp, e.symm⟩) hd.1
  ·rcases List.mem_cons.1 hp with hpe | hp
   ·exact absurd (List.mem_map.2 ⟨o, ho, by rw [e, hpe]⟩) hd.1
   ·exact inj_val hd.2 ho hp e
theorem okW_inj {h : List TxnV} (hw : okW h = true) {o p : OpV} (ho : o ∈ wrs h) (hp : p ∈ wrs h) (e : o.val = p.val) : o = p := by
 unfold okW at hw
 rw [decide_eq_true_eq, wvH_map] at hw
 exact inj_val hw ho hp e
theorem okW_count {h : List TxnV} : okW h = true ↔ ∀ t ∈ h, ∀ o ∈ t.l, o.wr = true → tmH o.val h = 1 := by
 unfold okW tmH
 rw [decide_eq_true_eq]
 constructor
 ·intro hd t ht o ho hw
  rw [List.Nodup.count hd, if_pos]
  rw [wvH_map]
  exact List.mem_map.2 ⟨o, wrs_mem.2 ⟨t, ht, ho, hw⟩, rfl⟩
 ·intro hc
  rw [List.nodup_iff_count]
  intro x
  by_cases hx : x ∈ wvH h
  ·have hx2 := hx
   rw [wvH_map] at hx2
   obtain ⟨o, ho, rfl⟩ := List.mem_map.1 hx2
   obtain ⟨t, ht, ho2, hw⟩ := wrs_mem.1 ho
   exact Nat.le_of_eq (hc t ht o ho2 hw)
  ·rw [List.count_eq_zero_of_not_mem hx]; omega
def Real (h : List TxnV) (F : Int → Option WV) : Prop := ∀ x u, F x = some u → ∃ o ∈ wrs h, o.val = x ∧ o.key = u.key
theorem real_put {h : List TxnV} {F : Int → Option WV} (hF : Real h F) {o : OpV} (ho : o ∈ wrs h) (i : Int) (b : Bool) : Real h (putF F o.val ⟨i, o.key, b⟩) := by
 intro x u hx
 unfold putF at hx
 split at hx
 ·rename_i e
  cases hx
  exact ⟨o, ho, e.symm, rfl⟩
 ·exact hF x u hx
theorem real_add {h : List TxnV} (i : Int) : ∀ (l : List OpV) (F : Int → Option WV), Real h F → (∀ o ∈ l, o.wr = true → o ∈ wrs h) → Real h (addF i F l)
 | [], F, hF, _ => hF
 | a :: l, F, hF, hl => by
  show Real h (addF i (addOne i F a) l)
  refine real_add i l _ ?_ (fun o ho => hl o (List.mem_cons_of_mem _ ho))
  unfold addOne
  split
  ·rename_i hw
   exact real_put hF (hl a List.mem_cons_self hw) i false
  ·exact hF
theorem real_fin {h : List TxnV} (i : Int) : ∀ (l : List OpV) (F : Int → Option WV), Real h F → (∀ o ∈ l, o ∈ wrs h) → Real h (finF i F l)
 | [], F, hF, _ => hF
 | a :: l, F, hF, hl => by
  show Real h (finF i (putF F a.val ⟨i, a.key, true⟩) l)
  exact real_fin i l _ (real_put hF (hl a List.mem_cons_self) i true) (fun o ho => hl o (List.mem_cons_of_mem _ ho))
theorem refWrites_mem {l : List OpV} {o : OpV} (h : o ∈ refWrites l) : o ∈ l ∧ o.wr = true := by
 unfold refWrites at h
 obtain ⟨k, _, hk⟩ := upTo_mem.1 h
 have := lastW_key (l := l) (x := k) hk
 exact ⟨this.2.2, this.2.1⟩
theorem real_wr (h : List TxnV) : ∀ k, k ≤ h.length → Real h (wrTo h k)
 | 0, _ => fun x u hx => by simp [wrTo] at hx
 | k + 1, hk => by
  have hlt : k < h.length := by omega
  rw [wrTo_succ, opsAt_eq hlt]
  have hm : ∀ o ∈ h[k].l, o.wr = true → o ∈ wrs h := fun o ho hw => wrs_mem.2 ⟨_, List.getElem_mem hlt, ho, hw⟩
  exact real_fin _ _ _ (real_add _ _ _ (real_wr h k (by omega)) hm) (fun o ho => hm o (refWrites_mem ho).1 (refWrites_mem ho).2)
theorem dom_add (i : Int) : ∀ (l : List OpV) (F : Int → Option WV) (x : Int), (addF i F l x).isSome = ((F x).isSome || decide (x ∈ wv l))
 | [], F, x => by simp [addF, wv]
 | a :: l, F, x => by
  show (addF i (addOne i F a) l x).isSome = _
  rw [dom_add i l]
  have hc : wv (a :: l) = (if a.wr then [a.val] else []) ++ wv l := by
   unfold wv
   cases hw : a.wr <;> simp [hw]
  rw [hc]
  unfold addOne putF
  cases hw : a.wr
  ·simp
  ·by_cases e : x = a.val <;> simp [e]
theorem dom_fin (i : Int) : ∀ (l : List OpV) (F : Int → Option WV) (x : Int), (finF i F l x).isSome = ((F x).isSome || decide (x ∈ l.map (·.val)))
 | [], F, x => by simp [finF]
 | a :: l, F, x => by
  show (finF i (putF F a.val ⟨i, a.key, true⟩) l x).isSome = _
  rw [dom_fin i l]
  unfold putF
  by_cases e : x = a.val <;> simp [e]
theorem dom_wr (h : List TxnV) : ∀ k, k ≤ h.length → ∀ x, (wrTo h k x).isSome = decide (x ∈ wvH (h.take k))
 | 0, _ => fun x => by simp [wrTo, wvH]
 | k + 1, hk => fun x => by
  have hlt : k < h.length := by omega
  rw [wrTo_succ, opsAt_eq hlt, dom_fin, dom_add, dom_wr h k (by omega), wvH_succ h k hlt]
  have : x ∈ (refWrites h[k].l).map (·.val) → x ∈ wv h[k].l := fun hx => by
   obtain ⟨o, ho, rfl⟩ := List.mem_map.1 hx
   exact wv_mem.2 ⟨o, (refWrites_mem ho).1, (refWrites_mem ho).2, rfl⟩
  rw [Bool.eq_iff_iff]
  simp only [Bool.or_eq_true, decide_eq_true_eq, List.mem_append]
  constructor
  ·rintro ((h1 | h1) | h1)
   ·exact .inl h1
   ·exact .inr h1
   ·exact .inr (this h1)
  ·rintro (h1 | h1)
   ·exact .inl (.inl h1)
   ·exact .inl (.inr h1)
theorem rd_iff {h : List TxnV} (hw : okW h = true) (o : OpV) : rdOk (wrTo h h.length) o = (o.wr || o.val == 0 || !decide (wrI o.key o.val h < 0)) := by
 unfold rdOk
 cases hv : (o.wr || o.val == 0)
 ·rw [Bool.false_or, Bool.false_or]
  have hd := dom_wr h h.length (Nat.le_refl _) o.val
  rw [List.take_length] at hd
  cases hF : wrTo h h.length o.val with
  | none =>
   rw [hF] at hd
   simp only
   symm
   rw [Bool.not_eq_false', decide_eq_true_eq, wrI_nonneg]
   intro t ht p hp
   unfold isWr
   cases hpw : p.wr
   ·rfl
   ·have hne : ¬ p.val = o.val := fun e => by
     have : o.val ∈ wvH h := by rw [wvH_map]; exact List.mem_map.2 ⟨p, wrs_mem.2 ⟨t, ht, hp, hpw⟩, e⟩
     simp [this] at hd
    simp [hne]
  | some u =>
   obtain ⟨p, hp, e1, e2⟩ := real_wr h h.length (Nat.le_refl _) _ _ hF
   simp only
   rw [Bool.eq_iff_iff, beq_iff_eq, Bool.not_eq_true', decide_eq_false_iff_not, wrI_nonneg]
   constructor
   ·intro e hn
    obtain ⟨t, ht, hp2, hpw⟩ := wrs_mem.1 hp
    have := hn t ht p hp2
    unfold isWr at this
    simp [hpw, e1, e2, e] at this
   ·intro hn
    have : ∃ q ∈ wrs h, q.key = o.key ∧ q.val = o.val := Classical.byContradiction fun hno => hn fun t ht q hq => by
     unfold isWr
     cases hqw : q.wr
     ·rfl
     ·cases hqk : q.key == o.key
      ·rfl
      ·cases hqv : q.val == o.val
       ·rfl
       ·exact absurd ⟨q, wrs_mem.2 ⟨t, ht, hq, hqw⟩, by simpa using hqk, by simpa using hqv⟩ hno
    obtain ⟨q, hq, e3, e4⟩ := this
    have := okW_inj hw hp hq (by rw [e1, e4])
    subst this
    rw [← e2, e3]
 ·rfl
def Apart (a t : TxnV) : Prop := a.b ≠ t.b ∧ a.b ≠ t.c ∧ a.c ≠ t.b ∧ a.c ≠ t.c
theorem apartB_iff (a t : TxnV) : apartB a t = true ↔ Apart a t ∧ ¬ (a.s = t.s ∧ t.b < a.c) := by
 unfold apartB Apart
 simp only [Bool.and_eq_true, bne_iff_ne, Bool.not_eq_true', Bool.and_eq_false_iff, beq_eq_false_iff_ne, decide_eq_false_iff_not, Classical.not_and_iff_not_or_not, ne_eq]
theorem stL_mem {h : List TxnV} {x : Int} : x ∈ stL h ↔ ∃ t ∈ h, x = t.b ∨ x = t.c := by unfold stL; simp
theorem st_take {h : List TxnV} {k : Nat} (hd : (stL (h.take k)).Nodup) : ∀ i j, ∀ hj : j < k, ∀ hk : k ≤ h.length, ∀ hi : i < j, Apart (h[i]'(by omega)) (h[j]'(by omega)) := by
 intro i j hj hk hi
 have e : stL (h.take k) = stL (h.take (j + 1)) ++ stL ((h.take k).drop (j + 1)) := by
  unfold stL
  rw [← List.flatMap_append]
  congr 1
  rw [show h.take (j + 1) = (h.take k).take (j + 1) from by rw [List.take_take]; congr 1; omega]
  exact (List.take_append_drop _ _).symm
 rw [e] at hd
 have h1 := (List.nodup_append.1 hd).1
 rw [stL_succ h j (by omega)] at h1
 have h2 := (List.nodup_append.1 h1).2.2
 have mem : h[i]'(by omega) ∈ h.take j := by rw [List.mem_take_iff_getElem]; exact ⟨i, by omega, rfl⟩
 have mb : (h[i]'(by omega)).b ∈ stL (h.take j) := stL_mem.2 ⟨_, mem, .inl rfl⟩
 have mc : (h[i]'(by omega)).c ∈ stL (h.take j) := stL_mem.2 ⟨_, mem, .inr rfl⟩
 exact ⟨h2 _ mb _ (by simp), h2 _ mb _ (by simp), h2 _ mc _ (by simp), h2 _ mc _ (by simp)⟩
theorem st_nodup {h : List TxnV} (hbc : ∀ t ∈ h, t.b < t.c) (ha : ∀ i j, ∀ hj : j < h.length, ∀ hi : i < j, Apart (h[i]'(by omega)) h[j]) : ∀ k, k ≤ h.length → (stL (h.take k)).Nodup
 | 0, _ => by simp [stL]
 | k + 1, hk => by
  have hlt : k < h.length := by omega
  rw [stL_succ h k hlt, List.nodup_append]
  refine ⟨st_nodup hbc ha k (by omega), ?_, ?_⟩
  ·have := hbc _ (List.getElem_mem hlt)
   simp; omega
  ·intro x hx y hy
   obtain ⟨t, ht, hxt⟩ := stL_mem.1 hx
   rw [List.mem_take_iff_getElem] at ht
   obtain ⟨i, hi, rfl⟩ := ht
   have hA := ha i k hlt (by omega)
   unfold Apart at hA
   simp at hy
   rcases hxt with rfl | rfl <;> rcases hy with rfl | rfl
   ·exact hA.1
   ·exact hA.2.1
   ·exact hA.2.2.1
   ·exact hA.2.2.2
end

section
open Go.RowKit
theorem endF_find (h : List TxnV) (s : Int) : ∀ k, k ≤ h.length → match endF (h.take k) s with
  | none => ∀ j, ∀ hj : j < k, ∀ hk : k ≤ h.length, (h[j]'(by omega)).s ≠ s
  | some e => ∃ m, ∃ hm : m < k, ∃ hk : k ≤ h.length, (h[m]'(by omega)).s = s ∧ (h[m]'(by omega)).c = e ∧ ∀ j, ∀ hj : j < k, m < j → (h[j]'(by omega)).s ≠ s
 | 0, _ => by simp [endF]
 | k + 1, hk => by
  have hlt : k < h.length := by omega
  have ih := endF_find h s k (by omega)
  rw [endF_succ h k hlt]
  unfold putF
  by_cases e : s = h[k].s
  ·rw [if_pos e]
   exact ⟨k, by omega, hk, e.symm, rfl, fun j hj hmj => by omega⟩
  ·rw [if_neg e]
   cases hF : endF (h.take k) s with
   | none =>
    rw [hF] at ih
    intro j hj hk2
    rcases Nat.lt_or_eq_of_le (Nat.le_of_lt_succ hj) with h1 | rfl
    ·exact ih j h1 (by omega)
    ·exact fun e2 => e e2.symm
   | some c =>
    rw [hF] at ih
    obtain ⟨m, hm, hk2, h1, h2, h3⟩ := ih
    refine ⟨m, by omega, hk, h1, h2, fun j hj hmj => ?_⟩
    rcases Nat.lt_or_eq_of_le (Nat.le_of_lt_succ hj) with h4 | rfl
    ·exact h3 j h4 hmj
    ·exact fun e2 => e e2.symm
theorem ses_all {h : List TxnV} (hs : sesB h = true) (hbc : ∀ t ∈ h, t.b < t.c) : ∀ j, ∀ hj : j < h.length, ∀ i, ∀ hi : i < j, (h[i]'(by omega)).s = h[j].s → (h[i]'(by omega)).c < h[j].b := by
 intro j
 induction j using Nat.strongRecOn with
 | ind j ih =>
  intro hj i hi e
  have h1 := List.all_eq_true.1 hs j (List.mem_range.2 hj)
  rw [sesOk_at hj] at h1
  have h2 := endF_find h h[j].s j (by omega)
  cases hF : endF (h.take j) h[j].s with
  | none =>
   rw [hF] at h2
   exact absurd e (h2 i hi (by omega))
  | some c =>
   rw [hF] at h1 h2
   obtain ⟨m, hm, hk2, e1, e2, e3⟩ := h2
   simp only [decide_eq_true_eq] at h1
   rcases Nat.lt_trichotomy i m with h4 | rfl | h4
   ·have h5 := ih m hm (by omega) i h4 (by rw [e1]; exact e)
    have h6 := hbc _ (List.getElem_mem (show m < h.length by omega))
    omega
   ·omega
   ·exact absurd e (e3 i hi h4)
theorem ses_mk {h : List TxnV} (ha : ∀ j, ∀ hj : j < h.length, ∀ i, ∀ hi : i < j, (h[i]'(by omega)).s = h[j].s → (h[i]'(by omega)).c < h[j].b) : sesB h = true := by
 refine sesB_all fun j hj => ?_
 rw [sesOk_at hj]
 have h2 := endF_find h h[j].s j (by omega)
 cases hF : endF (h.take j) h[j].s with
 | none => rfl
 | some c =>
  rw [hF] at h2
  obtain ⟨m, hm, hk2, e1, e2, e3⟩ := h2
  simp only [decide_eq_true_eq]
  rw [← e2]; exact ha j hj m hm e1
theorem mayT_bc {t : TxnV} (h : mayT t.s t.b t.c t.l = true) : t.b < t.c := by
 unfold mayT at h
 simp only [Bool.and_eq_true, decide_eq_true_eq] at h
 exact h.1.2.2.2.1
theorem right_ref (h : List TxnV) : rightB h = mayRef h := by
 rw [Bool.eq_iff_iff]
 constructor
 ·intro hr
  unfold rightB at hr
  simp only [Bool.and_eq_true] at hr
  obtain ⟨hp, hv, hst, hse⟩ := hr
  unfold valuesB at hv
  simp only [Bool.and_eq_true] at hv
  obtain ⟨hw, hro⟩ := hv
  have hP : ∀ t ∈ h, mayT t.s t.b t.c t.l = true := List.all_eq_true.1 hp
  have hbc : ∀ t ∈ h, t.b < t.c := fun t ht => mayT_bc (hP t ht)
  refine mayRef_yes fun k hk => ?_
  unfold rowR
  rw [hP _ (List.getElem_mem hk), Bool.true_and, Bool.and_eq_true]
  constructor
  ·rw [List.all_eq_true]
   intro a ha
   rw [List.mem_take_iff_getElem] at ha
   obtain ⟨i, hi, rfl⟩ := ha
   rw [apartB_iff]
   unfold stampsB at hst
   rw [decide_eq_true_eq, ← List.take_length (l := h)] at hst
   refine ⟨st_take hst i k hk (Nat.le_refl _) (by omega), fun hh => ?_⟩
   have := ses_all hse hbc k hk i (by omega) hh.1
   omega
  ·rw [List.all_eq_true]
   intro o ho
   unfold opR
   cases how : o.wr
   ·have h1 := List.all_eq_true.1 (List.all_eq_true.1 hro _ (List.getElem_mem hk)) o ho
    rw [rd_iff hw o, how] at h1
    simpa using h1
   ·simp only [if_true, beq_iff_eq]
    exact okW_count.1 hw _ (List.getElem_mem hk) o ho how
 ·intro hm
  have hrow : ∀ k, ∀ hk : k < h.length, rowR h k h[k] = true := fun k hk => by
   have := List.all_eq_true.1 hm k (List.mem_range.2 hk)
   rwa [List.getElem?_eq_getElem hk] at this
  have hP : ∀ t ∈ h, mayT t.s t.b t.c t.l = true := fun t ht => by
   obtain ⟨k, hk, rfl⟩ := List.getElem_of_mem ht
   have := hrow k hk
   unfold rowR at this
   simp only [Bool.and_eq_true] at this
   exact this.1
  have hbc : ∀ t ∈ h, t.b < t.c := fun t ht => mayT_bc (hP t ht)
  have hA : ∀ i j, ∀ hj : j < h.length, ∀ hi : i < j, Apart (h[i]'(by omega)) h[j] ∧ ¬ ((h[i]'(by omega)).s = h[j].s ∧ h[j].b < (h[i]'(by omega)).c) := fun i j hj hi => by
   have := hrow j hj
   unfold rowR at this
   simp only [Bool.and_eq_true] at this
   exact (apartB_iff _ _).1 (List.all_eq_true.1 this.2.1 _ (by rw [List.mem_take_iff_getElem]; exact ⟨i, by omega, rfl⟩))
  have hO : ∀ t ∈ h, ∀ o ∈ t.l, opR h o = true := fun t ht => by
   obtain ⟨k, hk, rfl⟩ := List.getElem_of_mem ht
   have := hrow k hk
   unfold rowR at this
   simp only [Bool.and_eq_true] at this
   exact List.all_eq_true.1 this.2.2
  have hw : okW h = true := okW_count.2 fun t ht o ho how => by
   have := hO t ht o ho
   unfold opR at this
   rw [how] at this
   simpa using this
  unfold rightB
  simp only [Bool.and_eq_true]
  refine ⟨List.all_eq_true.2 hP, ?_, ?_, ?_⟩
  ·unfold valuesB
   rw [hw, Bool.true_and, List.all_eq_true]
   intro t ht
   unfold rowOk
   rw [List.all_eq_true]
   intro o ho
   rw [rd_iff hw o]
   have := hO t ht o ho
   unfold opR at this
   cases how : o.wr
   ·rw [how] at this
    simpa using this
   ·rfl
  ·unfold stampsB
   rw [decide_eq_true_eq]
   have := st_nodup hbc (fun i j hj hi => (hA i j hj hi).1) h.length (Nat.le_refl _)
   rwa [List.take_length] at this
  ·refine ses_mk fun j hj i hi e => ?_
   obtain ⟨h1, h2⟩ := hA i j hj hi
   have h3 : ¬ h[j].b < (h[i]'(by omega)).c := fun hh => h2 ⟨e, hh⟩
   have h4 := h1.2.2.1
   omega
def checkR (h : List TxnV) : Int := if 64 < h.length ∨ 1024 < opsN h then 3 else if mayRef h then 0 else 2
theorem check_ref (h : List TxnV) : checkI h = checkR h := by unfold checkI checkR; rw [right_ref]
end

section
open Go.RowKit
theorem rcheck_any (va : Value) (h : List TxnV) (w : World) (hT : Txns w va h) (hsh : Short h) :
  Calls Try.prog 5 #[va] w fun e w' => e = .returned (.int .i64 (checkR h)) ∧ Below w.heap.size w w' := by
 obtain ⟨ao, cap, rfl, hal⟩ := hT.form
 by_cases hbig : 64 < h.length
 ·have hbig' : (64 : Int) < (h.length : Int) := by omega
  have H : Hid ((3 : Int) = checkR h) := hid (by unfold checkR; rw [if_pos (.inl hbig)])
  go_enter Try.func5, Try.ntmps5
  go_wp2_with fail
  go_ret
  exact ⟨ret_int H.out, Below.refl _ _⟩
 have hbf : decide ((64 : Int) < (h.length : Int)) = false := by simp; omega
 have hle := opsN_short h hsh
 have CO := hid (count_any _ h w hT (by omega))
 have HT := hid (fun wx (hx : Below w.heap.size w wx) => hT.below hx)
 clear hT hsh
 go_enter Try.func5, Try.ntmps5
 go_wp2_with fail
 refine (CO.out).mono ?_
 rintro e w1 ⟨rfl, hb1⟩
 clear CO
 by_cases hov : 1024 < opsN h
 ·have hov' : (1024 : Int) < (opsN h : Int) := by omega
  have H : Hid ((3 : Int) = checkR h) := hid (by unfold checkR; rw [if_pos (.inr hov)])
  go_wp2_with fail
  go_ret
  exact ⟨ret_int H.out, hb1⟩
 have hov' : decide ((1024 : Int) < (opsN h : Int)) = false := by simp; omega
 have HCK : Hid (checkR h = if mayRef h then 0 else 2) := hid (by unfold checkR; rw [if_neg (by omega)])
 have CM := hid (rmay_any _ h w1 (HT.out _ hb1) (by omega))
 generalize mayRef h = q at *
 go_wp2_with fail
 refine (CM.out).mono ?_
 rintro e w2 ⟨rfl, hb2⟩
 have hb3 := below_then hb1 hb2
 clear CM
 cases q
 ·have H : Hid ((2 : Int) = checkR h) := hid (by rw [HCK.out]; rfl)
  go_wp2_with fail
  go_ret
  exact ⟨ret_int H.out, hb3⟩
 ·have H : Hid ((0 : Int) = checkR h) := hid (by rw [HCK.out]; rfl)
  go_wp2_with fail
  go_ret
  exact ⟨ret_int H.out, hb3⟩
end

section
open Go.RowKit
def kV (p : Nat) (s : ByteArray) : Value := .agg #[.int .u64 (p : Int), .string s]
section
variable {w : World} {b n : Nat} {f : Nat → ByteArray → Bool}
end
section
variable {ops : Array Oper} {rest : List Oper} {o : Oper} {a : Act} {Q : Exit → Act → World → Prop} (w : World)
end
end

section
open Go.RowKit
instance memDec (q : Nat × ByteArray) (M : List (Nat × ByteArray)) : Decidable (q ∈ M) := @List.instDecidableMemOfLawfulBEq _ instBEqOfDecidableEq inferInstance q M
section
variable {h : List TxnV} {C n : Nat}
abbrev Srch := Option (List Nat) × List (Nat × ByteArray) × Nat
section
variable {F : List Nat → List (Nat × ByteArray) → Srch} {r : List Nat} {st : Srch} {j : Nat}
end
end
end

section
open Go.RowKit
theorem roomy {F : Fence} (hd : F.depth = none) (k : Nat) : F.room k := fun d h => by rw [hd] at h; cases h
theorem round_depth {F : Fence} (hd : F.depth = none) {m m' : Nat} {P : Program} {l : Nat} {f : FuncId} {tmps : Array Value} {assign body : Code} {w : World} {R : Ending → World → Prop}
  (h : RoundIn F m P l f tmps assign body w R) : RoundIn F m' P l f tmps assign body w R := ⟨h.1, fun c cs _ => h.2 c cs (roomy hd _)⟩
theorem yield_depth {F : Fence} (hd : F.depth = none) {m : Nat} (m' : Nat) {P : Program} {l : Nat} {args : Array Value} {W : World} {R : Ending → World → Prop} (h : YieldAt F m P l args W R) : YieldAt F m' P l args W R := by
 obtain ⟨fn, tmps, assign, body, hy, hR⟩ := h
 exact ⟨fn, tmps, assign, body, hy, round_depth hd hR⟩
end

section
open Go.RowKit
def renO (κ ν : Int → Int) (o : OpV) : OpV := ⟨o.wr, κ o.key, ν o.val⟩
def KeyIn (h : List TxnV) (k : Int) : Prop := ∃ t ∈ h, ∃ o ∈ t.l, o.key = k
def ValIn (h : List TxnV) (v : Int) : Prop := v = 0 ∨ ∃ t ∈ h, ∃ o ∈ t.l, o.val = v
section
variable {κ ν : Int → Int} {l : List OpV} {K V : Int → Prop}
end
section
variable {h x : List TxnV} {π ρ : Nat → Nat} {κ ν : Int → Int}
end
section
variable {h x : List TxnV} {π ρ : Nat → Nat} {κ ν : Int → Int}
end
end

section
open Go.RowKit
abbrev ETx := Int × Int × Int × List OpV
def renE (f τ κ ν : Int → Int) (e : ETx) : ETx := (f e.1, τ e.2.1, τ e.2.2.1, e.2.2.2.map (renO κ ν))
def sesE (E : List ETx) : List Int := E.map (·.1)
def stE (E : List ETx) : List Int := E.flatMap fun e => [e.2.1, e.2.2.1]
def keyE (E : List ETx) : List Int := E.flatMap fun e => e.2.2.2.map (·.key)
def valA (E : List ETx) : List Int := E.flatMap fun e => e.2.2.2.map (·.val)
theorem sesE_mem {E : List ETx} {e : ETx} (he : e ∈ E) : e.1 ∈ sesE E := List.mem_map_of_mem he
end

section
open Go.RowKit
theorem check_rightB {h : List TxnV} (hc : checkI h = 0) : partsB h = true ∧ valuesB h = true ∧ stampsB h = true ∧ sesB h = true := by
 unfold checkI at hc
 split at hc
 ·cases hc
 ·split at hc
  ·rename_i hr
   unfold rightB at hr
   simp only [Bool.and_eq_true] at hr
   exact ⟨hr.1, hr.2.1, hr.2.2.1, hr.2.2.2⟩
  ·cases hc
theorem may_at {h : List TxnV} (hp : partsB h = true) {t : TxnV} (ht : t ∈ h) : (0 ≤ t.s ∧ t.s < 64 ∧ 0 ≤ t.b ∧ t.b < t.c ∧ t.c ≤ 2147483647 ∧ 1 ≤ t.l.length ∧ t.l.length ≤ 64) ∧ ∀ o ∈ t.l, mayO o = true := by
 have h1 := List.all_eq_true.1 hp t ht
 unfold mayT at h1
 rw [Bool.and_eq_true, decide_eq_true_eq] at h1
 exact ⟨h1.1, fun o ho => List.all_eq_true.1 h1.2 o ho⟩
section
variable {h s c : List TxnV} {f τ κ ν : Int → Int}
end
section
variable {h c : List TxnV} {f τ κ ν : Int → Int} {π ρ : Nat → Nat}
end
section
variable {h s c : List TxnV}
theorem stE_txE (s : List TxnV) : stE (s.map txE) = stL s := by unfold stE stL; rw [List.flatMap_map]; rfl
theorem keyE_iff {s : List TxnV} {k : Int} : k ∈ keyE (s.map txE) ↔ KeyIn s k := by
 unfold keyE KeyIn
 rw [List.flatMap_map, List.mem_flatMap]
 exact ⟨fun ⟨t, ht, hk⟩ => by obtain ⟨o, ho, e⟩ := List.mem_map.1 hk; exact ⟨t, ht, o, ho, e⟩, fun ⟨t, ht, o, ho, e⟩ => ⟨t, ht, List.mem_map.2 ⟨o, ho, e⟩⟩⟩
theorem valA_iff {s : List TxnV} {v : Int} : v ∈ valA (s.map txE) ↔ ∃ t ∈ s, ∃ o ∈ t.l, o.val = v := by
 unfold valA
 rw [List.flatMap_map, List.mem_flatMap]
 exact ⟨fun ⟨t, ht, hk⟩ => by obtain ⟨o, ho, e⟩ := List.mem_map.1 hk; exact ⟨t, ht, o, ho, e⟩, fun ⟨t, ht, o, ho, e⟩ => ⟨t, ht, List.mem_map.2 ⟨o, ho, e⟩⟩⟩
theorem KeyIn.perm (hp : s.Perm h) {k : Int} (q : KeyIn h k) : KeyIn s k := by
 obtain ⟨t, ht, r⟩ := q; exact ⟨t, hp.mem_iff.2 ht, r⟩
theorem ValIn.perm (hp : s.Perm h) {k : Int} (q : ValIn h k) : ValIn s k := q.imp id fun ⟨t, ht, r⟩ => ⟨t, hp.mem_iff.2 ht, r⟩
theorem valA_len (s : List TxnV) : (valA (s.map txE)).length = opsN s := by
 unfold valA opsN
 rw [List.flatMap_map, List.length_flatMap]
 congr 1
 exact List.map_congr_left fun t _ => by simp [txE]
end
end

section
open Go.RowKit Go.Lib Go.Sort Go.Shelf
structure TxS where
 s : Int
 b : Int
 c : Int
 ao : Option Addr
 n : Nat
 cp : Nat
 l : List OpV
instance : Inhabited TxS := ⟨⟨0, 0, 0, none, 0, 0, []⟩⟩
end

section
open Go.RowKit
theorem below_app0 {B B' : Nat} {W wr w1 : World} {o : Obj} {e : TypeId} {n size : Nat} {v : Value} {xs : List Value} (hb : Below B W wr) (hB : B ≤ W.heap.size) (hown : wr.ownsRow B' e size v n xs) (hBB : B ≤ B')
  (hg : (wr.alloc o).grownBy w1 v.ownBlock) : Below B W w1 :=
 (hb.alloc (Nat.le_trans hB hb.size) o).grown hg (by have := hb.size; simp; omega) fun k hk => Nat.le_trans hBB (hown.lt k hk).1
end

section
open Go.RowKit Go.Lib Go.Sort Go.Shelf
theorem holdsI {w : World} {g : Nat} {cur : Array Value} {e : TypeId} {l : List Int} (hb : w.heap[g]? = some (.cells cur e (0, 0))) (ht : cur.toList.take l.length = l.map (Value.int .i64)) : Holds (Value.int .i64) w g 0 l.toArray := by
 intro j hj
 have hj' : j < l.length := by simpa using hj
 refine ⟨?_, by simp [World.frozen?, hb]⟩
 have h1 : (cur.toList.take l.length)[j]? = (l.map (Value.int .i64))[j]? := by rw [ht]
 rw [List.getElem?_take_of_lt hj'] at h1
 simp only [World.cell?, hb, Nat.zero_add]
 simp only [Option.isSome_none, Bool.false_eq_true, if_false]
 rw [← Array.getElem?_toList, h1]
 simp [hj']
theorem take_putI (cur : Array Value) (l : List Int) (h : l.length ≤ cur.size) : (putCells (Value.int .i64) 0 l.toArray cur).toList.take l.length = l.map (Value.int .i64) := by
 apply List.ext_getElem?
 intro j
 by_cases hj : j < l.length
 ·rw [List.getElem?_take_of_lt hj, Array.getElem?_toList]
  simp [putCells, hj, show j < cur.size by omega]
 ·rw [List.getElem?_take_eq_none (by omega), List.getElem?_eq_none (by simp; omega)]
theorem isorted {w : World} {base g cap n : Nat} {os : Array Obj} {l ts : List Int} (hl : ts.length = l.length) (h : w.ownsRow base 3 1 (.slice (some ⟨g, 0, none⟩) l.length cap) l.length (l.map (Value.int .i64))) :
  (grow (putRow (Value.int .i64) (Sort.ahead w n) g 0 ts.toArray) os).ownsRow base 3 1 (.slice (some ⟨g, 0, none⟩) l.length cap) l.length (ts.map (Value.int .i64)) ∧ w.grownBy (grow (putRow (Value.int .i64) (Sort.ahead w n) g 0 ts.toArray) os) (some g) := by
 obtain ⟨h1, h2⟩ := h
 rcases h2 with ⟨h2, _⟩ | ⟨g', cap', cur, e1, e2, hb, e3, e4, e5, e6⟩
 ·cases h2
 cases e1
 have hg : g < w.heap.size := (Array.getElem?_eq_some_iff.1 hb).1
 have hh : (grow (putRow (Value.int .i64) (Sort.ahead w n) g 0 ts.toArray) os).heap[g]? = some (.cells (putCells (Value.int .i64) 0 ts.toArray cur) 3 (0, 0)) := by
  rw [heap_grown (by simpa using hg)]
  simp [putRow, mapBlock, Sort.ahead, Array.getElem?_modify, hb, onCells]
 refine ⟨⟨by simp [hl], .inr ⟨g, cap, _, rfl, e2, hh, by omega, e4, by simp [putCells, e5], ?_⟩⟩, rfl, rfl, rfl, by simp, fun k hk hne => ?_⟩
 ·have := take_putI cur ts (by omega)
  rw [hl] at this
  simpa using this
 ·rw [heap_grown (by simpa using hk)]
  have : g ≠ k := fun e => hne (by rw [e])
  simp [putRow, mapBlock, Sort.ahead, Array.getElem?_modify, this]
theorem isort_own (base : Nat) (v : Value) (l : List Int) (w : World) (hO : w.ownsRow base 3 1 v l.length (l.map (Value.int .i64))) (hl : l.length ≤ 1000000) :
  Calls Try.prog 41 #[v] w fun e w' => e = .returned (.tuple #[]) ∧ w'.ownsRow base 3 1 v l.length ((l.mergeSort fun x y => decide (x ≤ y)).map (Value.int .i64)) ∧ w.grownBy w' v.ownBlock := by
 have hO2 := hO
 obtain ⟨h1, h2⟩ := hO2
 rcases h2 with ⟨rfl, h2⟩ | ⟨g, cap, cur, rfl, e2, hb, e3, e4, e5, e6⟩
 ·have hl0 : l.length = 0 := by simpa using h2
  have : l = [] := List.eq_nil_of_length_eq_zero hl0
  subst this
  refine (AnyM.slices_Sort_int_none Try.sortInt none 0 w).mono ?_
  rintro e w' ⟨rfl, rfl⟩
  refine ⟨rfl, ?_, rfl, rfl, rfl, Nat.le_refl _, fun _ _ _ => rfl⟩
  simpa using hO
 ·refine (AnyM.slices_Sort_int Try.sortInt g 0 cap l w (holdsI hb (by simpa using e6)) (Array.getElem?_eq_some_iff.1 hb).1 (by omega)).mono ?_
  rintro e w' ⟨rfl, n, os, rfl⟩
  obtain ⟨q1, q2⟩ := isorted (n := n) (os := os) (ts := l.mergeSort fun x y => decide (x ≤ y)) (by simp) hO
  exact ⟨rfl, q1, q2⟩
end

section
open Go.RowKit
theorem stL_len (h : List TxnV) : (stL h).length = 2 * h.length := by
 unfold stL
 induction h with
 | nil => rfl
 | cons t h ih => rw [List.flatMap_cons, List.length_append, ih]; simp; omega
end

section
open Go.RowKit
def sTo (s : List TxnV) (i : Nat) : List Int := (sesE (s.map txE)).take i
def kTo (s : List TxnV) (i k : Nat) : List Int := keyE ((s.map txE).take i) ++ ((opsAt s i).take k).map (·.key)
def vTo (s : List TxnV) (i k : Nat) : List Int := valA ((s.map txE).take i) ++ ((opsAt s i).take k).map (·.val)
section
variable {s : List TxnV} {i k : Nat}
theorem sTo_succ (hi : i < s.length) : sTo s (i + 1) = sTo s i ++ [s[i].s] := by
 unfold sTo
 rw [List.take_succ_eq_append_getElem (by unfold sesE; simpa using hi)]
 congr 1
 unfold sesE
 simp [txE]
theorem kTo_succ (hk : k < (opsAt s i).length) : kTo s i (k + 1) = kTo s i k ++ [(opsAt s i)[k].key] := by
 unfold kTo
 rw [List.take_succ_eq_append_getElem hk, List.map_append, List.append_assoc]; rfl
theorem vTo_succ (hk : k < (opsAt s i).length) : vTo s i (k + 1) = vTo s i k ++ [(opsAt s i)[k].val] := by
 unfold vTo
 rw [List.take_succ_eq_append_getElem hk, List.map_append, List.append_assoc]; rfl
theorem take_txE (hi : i < s.length) : (s.map txE).take (i + 1) = (s.map txE).take i ++ [txE s[i]] := by
 rw [List.take_succ_eq_append_getElem (by simpa using hi)]; simp
theorem kTo_done (hi : i < s.length) : kTo s i (opsAt s i).length = kTo s (i + 1) 0 := by
 unfold kTo
 rw [take_txE hi, List.take_length, List.take_zero, List.map_nil, List.append_nil, opsAt_eq hi]
 unfold keyE
 rw [List.flatMap_append]; simp [txE]
theorem vTo_done (hi : i < s.length) : vTo s i (opsAt s i).length = vTo s (i + 1) 0 := by
 unfold vTo
 rw [take_txE hi, List.take_length, List.take_zero, List.map_nil, List.append_nil, opsAt_eq hi]
 unfold valA
 rw [List.flatMap_append]; simp [txE]
end
end

section
open Go.RowKit
def zT (t : TxnV) : TxnV := ⟨t.s, t.b, t.c, .slice none 0 0, t.l⟩
theorem zT_of {c h : List TxnV} (e : c.map txE = h.map txE) : c.map zT = h.map zT := by
 have k : ∀ l : List TxnV, l.map zT = (l.map txE).map fun q => (⟨q.1, q.2.1, q.2.2.1, .slice none 0 0, q.2.2.2⟩ : TxnV) := fun l => by rw [List.map_map]; rfl
 rw [k, k, e]
theorem opsN_z (h : List TxnV) : opsN (h.map zT) = opsN h := by unfold opsN; rw [List.map_map]; rfl
theorem partsB_z (h : List TxnV) : partsB (h.map zT) = partsB h := by unfold partsB; rw [List.all_map]; rfl
theorem wvH_z (h : List TxnV) : wvH (h.map zT) = wvH h := by unfold wvH; rw [List.flatMap_map]; rfl
theorem opsAt_z (h : List TxnV) (k : Nat) : opsAt (h.map zT) k = opsAt h k := by unfold opsAt; rw [List.getElem?_map]; cases h[k]? <;> rfl
theorem wrTo_z (h : List TxnV) (k : Nat) : wrTo (h.map zT) k = wrTo h k := by
 unfold wrTo
 congr 1
 funext F j
 rw [opsAt_z]
theorem valuesB_z (h : List TxnV) : valuesB (h.map zT) = valuesB h := by
 unfold valuesB okW
 rw [wvH_z, List.all_map, List.length_map, wrTo_z]; rfl
theorem stampsB_z (h : List TxnV) : stampsB (h.map zT) = stampsB h := by
 have : stL (h.map zT) = stL h := by unfold stL; rw [List.flatMap_map]; rfl
 unfold stampsB; rw [this]
theorem endF_z (h : List TxnV) : endF (h.map zT) = endF h := by
 funext x
 unfold endF
 rw [List.filter_map, List.getLast?_map, Option.map_map]; rfl
theorem sesOk_z (h : List TxnV) (k : Nat) : sesOk (h.map zT) k = sesOk h k := by
 unfold sesOk
 rw [List.getElem?_map, ← List.map_take, endF_z]
 cases h[k]? <;> rfl
theorem sesB_z (h : List TxnV) : sesB (h.map zT) = sesB h := by
 unfold sesB
 rw [List.length_map]
 congr 1
 funext k
 exact sesOk_z h k
theorem checkI_z (h : List TxnV) : checkI (h.map zT) = checkI h := by
 unfold checkI rightB
 rw [List.length_map, opsN_z, partsB_z, valuesB_z, stampsB_z, sesB_z]
theorem checkI_txE {c h : List TxnV} (e : c.map txE = h.map txE) : checkI c = checkI h := by
 rw [← checkI_z c, ← checkI_z h, zT_of e]
theorem checkI_right {h : List TxnV} (e : checkI h = 0) : h.length ≤ 64 ∧ opsN h ≤ 1024 ∧ ∀ t ∈ h, mayT t.s t.b t.c t.l = true := by
 unfold checkI at e
 split at e
 ·cases e
 ·split at e
  ·rename_i h1 h2
   refine ⟨by omega, by omega, ?_⟩
   unfold rightB at h2
   simp only [Bool.and_eq_true] at h2
   exact List.all_eq_true.1 h2.1
  ·cases e
end

section
open Go.RowKit
def OwnH (w : World) (b0 : Nat) (v : Value) (c : List TxnV) : Prop := OwnT w b0 v c ∧ (∀ t ∈ c, Own w b0 t.v t.l) ∧ c.Pairwise ApartT
section
variable {w w' : World} {b0 base : Nat} {v v' u : Value} {c : List TxnV}
theorem OwnH.below (h : OwnH w b0 v c) (hb : Below w.heap.size w w') : OwnH w' b0 v c := ⟨h.1.below hb, fun t ht => (h.2.1 t ht).below hb, h.2.2⟩
theorem OwnH.nil (w : World) (b0 : Nat) : OwnH w b0 (.slice none 0 0) [] := ⟨⟨rfl, .inl ⟨rfl, rfl⟩⟩, by simp, List.Pairwise.nil⟩
theorem OwnH.txns (h : OwnH w b0 v c) : Txns w v c := ⟨h.1.row, fun t ht => (h.2.1 t ht).ops⟩
theorem ownH_apart {b1 : Nat} {l : List OpV} (h : OwnT w b0 v c) (k : Own w b1 u l) : u.ownBlock = none ∨ u.ownBlock ≠ v.ownBlock := owns_apart k h (by decide)
theorem OwnH.add {s b d : Int} {l : List OpV} (h : OwnH w b0 v c) (hu : Own w base u l) (hlt : ∀ t ∈ c, ∀ g, t.v.ownBlock = some g → g < base) (hb : b0 ≤ base) (hO : OwnT w' b0 v' (c ++ [⟨s, b, d, u, l⟩])) (hg : w.grownBy w' v.ownBlock) : OwnH w' b0 v' (c ++ [⟨s, b, d, u, l⟩]) := by
 refine ⟨hO, fun t ht => ?_, ?_⟩
 ·rcases List.mem_append.1 ht with ht | ht
  ·exact World.ownsRow.kept (h.2.1 t ht) hg (ownH_apart h.1 (h.2.1 t ht))
  ·obtain rfl := List.mem_singleton.1 ht
   exact World.ownsRow.kept (hu.base hb) hg (ownH_apart h.1 hu)
 ·rw [List.pairwise_append]
  refine ⟨h.2.2, List.pairwise_singleton _ _, fun t ht x hx => ?_⟩
  obtain rfl := List.mem_singleton.1 hx
  intro g h1 h2
  have q1 := hlt t ht g h1
  have q2 := (World.ownsRow.lt hu g h2).1
  omega
theorem OwnH.lt (h : OwnH w b0 v c) : ∀ t ∈ c, ∀ g, t.v.ownBlock = some g → g < w.heap.size := fun t ht g hg => (World.ownsRow.lt (h.2.1 t ht) g hg).2
end
section
variable {w w' : World} {gv b0 k : Nat} {D : List TxnV}
end
end

section
open Go.RowKit
theorem putI_run {α : Type} {e : α → Value} {P : Program} {k el t : TypeId} {b n c : Nat} {f : Int → Option α} {w : World} (hk : P.underlying k = some (.int .i64)) (ht : P.underlying t = some (.map k el)) (hown : MapI e P k w b n f c) (hn : n < maxLen) {key : Int} (hkey : InI key) (val : α) :
  ∃ w', (Instr.mapUpdate t (.map (some b)) (.int .i64 key) (e val)).run P w = .ok () w' ∧ MapI e P k w' b (n + 1) (putF f key val) (if (f key).isSome then c else c + 1) ∧ w.grownBy w' (some b) := by
 obtain ⟨D, hD, hs, ht2⟩ := hown
 obtain ⟨w', hrun, h1, h2⟩ := hD.update (Maps.int_keyed hk) ht hn (keyOf_I hk hkey) (rdE_mk e val)
 refine ⟨w', hrun, ⟨_, h1, ?_, fun y hy => ?_⟩, h2⟩
 ·rw [Maps.size_put (hD.tidy (Maps.int_keyed hk)), (ht2 key hkey).1, hs]
 ·by_cases he : y = key
  ·subst he
   rw [putF_same]
   exact ⟨Maps.has_put_same hD.isMap (isKey_I y) _, fun u hu z => by cases hu; exact Maps.atKey_put_same hD.isMap (isKey_I y) _ _⟩
  ·have hne : Lit.int .i64 y ≠ .int .i64 key := fun h => he (by cases h; rfl)
   rw [putF_other f val he]
   exact ⟨(Maps.has_put_other hne _).trans (ht2 y hy).1, fun u hu z => (Maps.atKey_put_other hne _ _).trans ((ht2 y hy).2 u hu z)⟩
section
variable {s : List TxnV} {g cap base base2 bM bS bK bV nM cM : Nat} {i k iO iS kK kV : Nat} {W : World}
end
end

section
open Go.RowKit
def NmI (w : World) (v : Value) (F : Int → Option Int) : Prop := (v = .map none ∧ F = fun _ => none) ∨ ∃ b n c, v = .map (some b) ∧ MapI eI Try.prog 3 w b n F c
theorem NmI.below {w w' : World} {v : Value} {F : Int → Option Int} (h : NmI w v F) (hb : Below w.heap.size w w') : NmI w' v F := by
 rcases h with ⟨rfl, rfl⟩ | ⟨b, n, c, rfl, hM⟩
 ·exact .inl ⟨rfl, rfl⟩
 ·exact .inr ⟨b, n, c, rfl, hM.below hb⟩
def nmF (F : Int → Option Int) (x : Int) : Int := (F x).getD x
theorem nil_look (x : Int) (w : World) : Sem.run Try.prog (Instr.lookup 32 (.map none) (.int .i64 x) true) w = .ok (.tuple #[.int .i64 0, .bool false]) w := by kernel_rfl
theorem rname_any (v : Value) (F : Int → Option Int) (x : Int) (w : World) (hN : NmI w v F) (hx : InI x) :
  Calls Try.prog 43 #[v, .int .i64 x] w fun e w' => e = .returned (.int .i64 (nmF F x)) ∧ w = w' := by
 rcases hN with ⟨rfl, rfl⟩ | ⟨b, n, c, rfl, hM⟩
 ·have HV : Hid (nmF (fun _ => none) x = x) := hid rfl
  rw [HV.out]
  have hlk := nil_look x
  go_enter Try.func43, Try.ntmps43
  go_wp2_with fail
  go_ret
  exact ⟨rfl, rfl⟩
 ·cases hv : F x with
  | none =>
   have HV : Hid (nmF F x = x) := hid (by unfold nmF; rw [hv]; rfl)
   rw [HV.out]
   go_enter Try.func43, Try.ntmps43
   go_wp2_with (first | (at_lookup; refine wpList_lookI_ok _ rfl _ _ 32 rfl 3 3 keyI mapII 0 (zeroI _) _ _ _ _ rfl hM _ rfl hx ?_; rw [hv]; simp only [Option.getD_none, Option.isSome_none, eI]) | go_in)
   go_ret
   exact ⟨rfl, rfl⟩
  | some y =>
   have HV : Hid (nmF F x = y) := hid (by unfold nmF; rw [hv]; rfl)
   rw [HV.out]
   go_enter Try.func43, Try.ntmps43
   go_wp2_with (first | (at_lookup; refine wpList_lookI_ok _ rfl _ _ 32 rfl 3 3 keyI mapII 0 (zeroI _) _ _ _ _ rfl hM _ rfl hx ?_; rw [hv]; simp only [Option.getD_some, Option.isSome_some, eI]) | go_in)
   go_ret
   exact ⟨rfl, rfl⟩
def apartP (F : Int → Option Int) (l : List Int) : Prop := ∀ a ∈ l, ∀ b ∈ l, nmF F a = nmF F b → a = b
instance (F : Int → Option Int) (l : List Int) : Decidable (apartP F l) := by unfold apartP; infer_instance
def whoF (F : Int → Option Int) : List Int → Int → Option Int
 | [], _ => none
 | a :: l, y => if nmF F a = y then some a else whoF F l y
theorem whoF_put (F : Int → Option Int) (l : List Int) (x : Int) : putF (whoF F l) (nmF F x) x = whoF F (x :: l) := by
 funext y
 unfold putF
 rw [whoF]
 by_cases e : y = nmF F x
 ·rw [if_pos e, if_pos e.symm]
 ·rw [if_neg e, if_neg (fun q => e q.symm)]
theorem whoF_some {F : Int → Option Int} : ∀ {l : List Int} {y a : Int}, whoF F l y = some a → a ∈ l ∧ nmF F a = y
 | b :: l, y, a, h => by
  rw [whoF] at h
  by_cases e : nmF F b = y
  ·rw [if_pos e] at h; cases h; exact ⟨List.mem_cons_self .., e⟩
  ·rw [if_neg e] at h; exact ⟨List.mem_cons_of_mem _ (whoF_some h).1, (whoF_some h).2⟩
theorem whoF_none {F : Int → Option Int} : ∀ {l : List Int} {y : Int}, whoF F l y = none → ∀ a ∈ l, nmF F a ≠ y
 | b :: l, y, h, a, ha => by
  rw [whoF] at h
  by_cases e : nmF F b = y
  ·rw [if_pos e] at h; cases h
  ·rw [if_neg e] at h
   rcases List.mem_cons.1 ha with rfl | ha
   ·exact e
   ·exact whoF_none h a ha
theorem apart_more {F : Int → Option Int} {l : List Int} {x : Int} (h : apartP F l) (hw : whoF F l (nmF F x) = none ∨ whoF F l (nmF F x) = some x) : apartP F (x :: l) := by
 have key : ∀ a ∈ l, nmF F a = nmF F x → a = x := fun a ha e => by
  rcases hw with hw | hw
  ·exact absurd e (whoF_none hw a ha)
  ·obtain ⟨h1, _⟩ := whoF_some hw
   exact h a ha x h1 e
 intro a ha b hb e
 rcases List.mem_cons.1 ha with ea | ha2
 ·rcases List.mem_cons.1 hb with eb | hb2
  ·rw [ea, eb]
  ·rw [ea] at e ⊢
   exact (key b hb2 e.symm).symm
 ·rcases List.mem_cons.1 hb with eb | hb2
  ·rw [eb] at e ⊢
   exact key a ha2 e
  ·exact h a ha2 b hb2 e
theorem apart_not {F : Int → Option Int} {l m : List Int} {x a : Int} (hm : ∀ b, b ∈ l → b ∈ m) (hx : x ∈ m) (hw : whoF F l (nmF F x) = some a) (hne : a ≠ x) : ¬ apartP F m := fun h => by
 obtain ⟨h1, h2⟩ := whoF_some hw
 exact hne (h a (hm a h1) x hx h2)
end

section
open Go.RowKit
theorem apart_perm {F : Int → Option Int} {l m : List Int} (h : ∀ b, b ∈ l ↔ b ∈ m) (q : apartP F l) : apartP F m := fun a ha b hb e => q a ((h a).2 ha) b ((h b).2 hb) e
theorem rapart_any (v va : Value) (F : Int → Option Int) (l : List Int) (w : World) (hN : NmI w v F) (hI : Ints w va l) (hl : ∀ x ∈ l, InI x ∧ InI (nmF F x)) (hn : l.length ≤ 100000) :
  Calls Try.prog 34 #[v, va] w fun e w' => e = .returned (.bool (decide (apartP F l))) ∧ Below w.heap.size w w' := by
 obtain ⟨ao, cap, rfl, hal⟩ := hI.form
 have HI := hid (fun wx (hx : Below w.heap.size w wx) => hI.below hx)
 have CN := hid (fun x wx (hx : Below w.heap.size w wx) (hi : InI x) => rname_any v F x wx (hN.below hx) hi)
 have HL := hid hl
 have hm0 := MapI.made eI Try.prog 3 w
 have hb1 := hid (box_below w (.map #[] 0))
 have hmm := @run_makeMap Try.prog
 clear hI hN hl
 go_enter Try.func34, Try.ntmps34
 go_wp2_with fail
 clear hmm
 go_loopw [14] (fun i wr => ∃ (k n c : Nat), k ≤ l.length ∧ i = .int .i64 (k : Int) ∧ n ≤ k ∧ Hid (apartP F (l.take k).reverse) ∧ MapI eI Try.prog 3 wr w.heap.size n (whoF F (l.take k).reverse) c ∧ Hid (Below w.heap.size w wr)) (fun i _ => l.length - (intOf i).toNat)
 case atStart => exact ⟨0, 0, 0, by omega, rfl, by omega, hid (fun a ha => by cases ha), hm0, hb1⟩
 case round =>
  obtain ⟨k, n, c, hk, rfl, hnk, HA, hM, HB⟩ := hrel
  clear hm0
  by_cases hlt : k < l.length
  ·have hki : (k : Int) < (l.length : Int) := by omega
   obtain ⟨g, o, hao, hc⟩ := (HI.out _ HB.out).at hlt
   cases hao
   have hxl := HL.out l[k] (List.getElem_mem hlt)
   have CN1 := hid (CN.out l[k] wr HB.out hxl.1)
   have HS : Hid ((l.take (k + 1)).reverse = l[k] :: (l.take k).reverse) := hid (by rw [List.take_succ_eq_append_getElem hlt]; simp)
   have HIN : Hid (∀ b, b ∈ (l.take k).reverse → b ∈ l) := hid (fun b hb => List.mem_of_mem_take (List.mem_reverse.1 hb))
   have HXM := hid (List.getElem_mem hlt)
   have hsz := HB.out.size
   have hxn := hxl.2
   clear hxl
   generalize l[k] = x at *
   have HW := hid (whoF_put F (l.take k).reverse x)
   have HMO := hid (fun h hw => apart_more (x := x) (F := F) (l := (l.take k).reverse) h hw)
   have HNO := hid (fun a hw hne => apart_not (F := F) (a := a) HIN.out HXM.out hw hne)
   generalize (l.take k).reverse = R at *
   obtain ⟨y, hy⟩ : ∃ y, nmF F x = y := ⟨_, rfl⟩
   rw [hy] at CN1 hxn HW HMO HNO
   clear hy
   cases hv : whoF F R y with
   | none =>
    have HA2 := hid (HMO.out HA.out (.inl hv))
    clear HNO HMO
    go_wp2_with fail
    refine CN1.out.mono ?_
    rintro e wq ⟨rfl, rfl⟩
    go_wp2_with (first | (at_lookup; refine wpList_lookI_ok _ rfl _ _ 32 rfl 3 3 keyI mapII 0 (zeroI _) _ _ _ _ rfl hM _ rfl hxn ?_; rw [hv]; simp only [Option.getD_none, Option.isSome_none, eI]) | (at_mapUpdate; refine wpList_putI _ rfl _ _ _ 32 rfl 3 3 keyI mapII _ _ _ _ rfl hM (by unfold maxLen; omega) _ rfl hxn x rfl ?_; intro w1 hM4 hgm; go_frame) | go_in)
    have HB8 := hid (HB.out.grown hgm HB.out.size (fun j hj => by cases hj; omega))
    rw [HW.out] at hM4
    go_wp2_with fail
    go_roundw
    case rel => exact ⟨k + 1, n + 1, _, by omega, by go_num, by omega, by rw [HS.out]; exact HA2, by rw [HS.out]; exact hM4, HB8⟩
    case measure => simp [intOf]; omega
   | some a =>
    by_cases hax : a = x
    ·subst hax
     have HA2 := hid (HMO.out HA.out (.inr hv))
     have hqq : (a != a) = false := by simp
     clear HNO HMO
     go_wp2_with fail
     refine CN1.out.mono ?_
     rintro e wq ⟨rfl, rfl⟩
     go_wp2_with (first | (at_lookup; refine wpList_lookI_ok _ rfl _ _ 32 rfl 3 3 keyI mapII 0 (zeroI _) _ _ _ _ rfl hM _ rfl hxn ?_; rw [hv]; simp only [Option.getD_some, Option.isSome_some, eI]) | (at_mapUpdate; refine wpList_putI _ rfl _ _ _ 32 rfl 3 3 keyI mapII _ _ _ _ rfl hM (by unfold maxLen; omega) _ rfl hxn a rfl ?_; intro w1 hM4 hgm; go_frame) | go_in)
     have HB8 := hid (HB.out.grown hgm HB.out.size (fun j hj => by cases hj; omega))
     rw [HW.out] at hM4
     go_wp2_with fail
     go_roundw
     case rel => exact ⟨k + 1, n + 1, _, by omega, by go_num, by omega, by rw [HS.out]; exact HA2, by rw [HS.out]; exact hM4, HB8⟩
     case measure => simp [intOf]; omega
    ·have hqq : (a != x) = true := by simpa using hax
     have HF : Hid (false = decide (apartP F l)) := hid (by rw [decide_eq_false (HNO.out a hv hax)])
     clear HNO HMO
     go_wp2_with fail
     refine CN1.out.mono ?_
     rintro e wq ⟨rfl, rfl⟩
     go_wp2_with (first | (at_lookup; refine wpList_lookI_ok _ rfl _ _ 32 rfl 3 3 keyI mapII 0 (zeroI _) _ _ _ _ rfl hM _ rfl hxn ?_; rw [hv]; simp only [Option.getD_some, Option.isSome_some, eI]) | go_in)
     go_ret
     exact ⟨ret_b HF.out, HB.out⟩
  ·obtain rfl : k = l.length := by omega
   have hki : ¬ (l.length : Int) < (l.length : Int) := by omega
   have HT : Hid (true = decide (apartP F l)) := hid (by
    have h1 := HA.out
    rw [List.take_length] at h1
    rw [decide_eq_true (apart_perm (fun b => List.mem_reverse) h1)])
   go_wp2_with fail
   go_ret
   exact ⟨ret_b HT.out, HB.out⟩
end

section
open Go.RowKit
def ofF (l : List (Int × Int)) : Int → Option Int := l.foldl (fun f p => putF f p.1 p.2) (fun _ => none)
theorem ofF_snoc (l : List (Int × Int)) (p : Int × Int) : ofF (l ++ [p]) = putF (ofF l) p.1 p.2 := by unfold ofF; rw [List.foldl_append]; rfl
def PrN (w : World) (v : Value) (l : List (Int × Int)) : Prop := Row w v l.length 2 (frV l)
theorem PrN.below {w w' : World} {v : Value} {l : List (Int × Int)} (h : PrN w v l) (hb : Below w.heap.size w w') : PrN w' v l := Row.below h hb
theorem PrN.form {w : World} {v : Value} {l : List (Int × Int)} (h : PrN w v l) : ∃ ao cap, v = .slice ao l.length cap ∧ l.length ≤ 9223372036854775807 := by
 obtain ⟨_, ao, cap, rfl, hm, _, _⟩ := h
 exact ⟨ao, cap, rfl, Nat.le_trans hm.1 hm.2⟩
theorem frV_two : ∀ (l : List (Int × Int)) (k : Nat) (hk : k < l.length), (frV l)[k * 2]? = some (.int .i64 l[k].1) ∧ (frV l)[k * 2 + 1]? = some (.int .i64 l[k].2)
 | a :: l, 0, _ => ⟨rfl, rfl⟩
 | a :: l, k + 1, hk => by
  obtain ⟨h0, h1⟩ := frV_two l k (by simpa using hk)
  have e : ∀ j, (frV (a :: l))[(k + 1) * 2 + j]? = (frV l)[k * 2 + j]? := fun j => by
   unfold frV
   rw [List.flatMap_cons, show (k + 1) * 2 + j = 2 + (k * 2 + j) from by omega]
   rw [List.getElem?_append_right (by simp)]
   congr 1
   simp
  exact ⟨(e 0).trans h0, (e 1).trans h1⟩
theorem PrN.at {w : World} {ao : Option Addr} {n cap : Nat} {l : List (Int × Int)} (h : PrN w (.slice ao n cap) l) {k : Nat} (hk : k < l.length) : ∃ g o, ao = some ⟨g, o, none⟩ ∧ w.cell? ⟨g, o + k * 2, none⟩ = some (.int .i64 l[k].1) ∧ w.cell? ⟨g, o + k * 2 + 1, none⟩ = some (.int .i64 l[k].2) := by
 obtain ⟨_, ao', cap', he, _, _, hc⟩ := h
 cases he
 obtain ⟨b, off, e, hcell⟩ := hc (by omega)
 obtain ⟨h0, h1⟩ := frV_two l k hk
 refine ⟨b, off, e, ?_, ?_⟩
 ·rw [hcell (k * 2) (by omega)]; exact h0
 ·rw [show off + k * 2 + 1 = off + (k * 2 + 1) from by omega, hcell (k * 2 + 1) (by omega)]; exact h1
theorem lof21_any (va : Value) (l : List (Int × Int)) (w : World) (hP : PrN w va l) (hl : ∀ p ∈ l, InI p.1) (hn : l.length ≤ 100000) :
  Calls Try.prog 19 #[va] w fun e w' => (∃ b n c, e = .returned (.map (some b)) ∧ n ≤ l.length ∧ w.heap.size ≤ b ∧ MapI eI Try.prog 3 w' b n (ofF l) c) ∧ Below w.heap.size w w' := by
 obtain ⟨ao, cap, rfl, hal⟩ := hP.form
 have HP := hid (fun wx (hx : Below w.heap.size w wx) => hP.below hx)
 have HL := hid hl
 have hm0 := MapI.made eI Try.prog 3 w
 have hb1 := hid (box_below w (.map #[] 0))
 have hmm := @run_makeMap Try.prog
 clear hP hl
 go_enter Try.func19, Try.ntmps19
 go_wp2_with fail
 clear hmm
 go_loopw [9] (fun i wr => ∃ (k n c : Nat), k ≤ l.length ∧ i = .int .i64 (k : Int) ∧ n ≤ k ∧ MapI eI Try.prog 3 wr w.heap.size n (ofF (l.take k)) c ∧ Hid (Below w.heap.size w wr)) (fun i _ => l.length - (intOf i).toNat)
 case atStart => exact ⟨0, 0, 0, by omega, rfl, by omega, hm0, hb1⟩
 case round =>
  obtain ⟨k, n, c, hk, rfl, hnk, hM, HB⟩ := hrel
  clear hm0
  by_cases hlt : k < l.length
  ·have hki : (k : Int) < (l.length : Int) := by omega
   obtain ⟨g, o, hao, c0, c1⟩ := (HP.out _ HB.out).at hlt
   cases hao
   have hkx := HL.out l[k] (List.getElem_mem hlt)
   have HS : Hid (ofF (l.take (k + 1)) = putF (ofF (l.take k)) l[k].1 l[k].2) := hid (by rw [List.take_succ_eq_append_getElem hlt, ofF_snoc])
   generalize l[k] = p at *
   obtain ⟨x, y⟩ := p
   simp only at c0 c1 hkx HS
   have hM1 := hM.alloc (.cells #[.int .i64 x, .int .i64 y] 40)
   have HB1 := hid (HB.out.alloc HB.out.size (.cells #[.int .i64 x, .int .i64 y] 40))
   have hsz := HB.out.size
   clear hM HB
   go_wp2_with (first | (at_mapUpdate; refine wpList_putI _ rfl _ _ _ 32 rfl 3 3 keyI mapII _ _ _ _ rfl hM1 (by unfold maxLen; omega) _ rfl hkx y rfl ?_; intro w1 hM4 hgm; go_frame) | go_in)
   have HB8 := hid (HB1.out.grown hgm HB1.out.size (fun j hj => by cases hj; omega))
   rw [← HS.out] at hM4
   go_wp2_with fail
   go_roundw
   case rel => exact ⟨k + 1, n + 1, _, by omega, by go_num, by omega, hM4, HB8⟩
   case measure => simp [intOf]; omega
  ·obtain rfl : k = l.length := by omega
   have hki : ¬ (l.length : Int) < (l.length : Int) := by omega
   rw [List.take_length] at hM
   have HM := hid hM
   clear hM
   go_wp2_with fail
   go_ret
   first | exact ⟨⟨_, rfl, n, by omega, Nat.le_refl _, c, HM.out⟩, HB.out⟩ | exact ⟨⟨_, n, c, rfl, by omega, Nat.le_refl _, HM.out⟩, HB.out⟩ | exact ⟨⟨n, by omega, Nat.le_refl _, c, HM.out⟩, HB.out⟩ | exact ⟨⟨n, by omega, c, HM.out⟩, HB.out⟩
end

section
open Go.ChangeShapes Go.WideShapes Go.ChangeAt Go.RowKit Go.Deep
theorem array5N {α : Type} {cs : Array α} (h : cs.size = 5) : ∃ c0 c1 c2 c3 c4, cs = #[c0, c1, c2, c3, c4] := by
 obtain ⟨l⟩ := cs
 match l, h with
 | [c0, c1, c2, c3, c4], _ => exact ⟨c0, c1, c2, c3, c4, rfl⟩
theorem cellsPairN : Try.prog.cellsOf 40 = 2 := by kernel_rfl
theorem cellsIntN : Try.prog.cellsOf 3 = 1 := by kernel_rfl
theorem cellsNames : Try.prog.cellsOf 26 = 5 := by kernel_rfl
theorem frN_len : ∀ (l : List (Int × Int)), (frV l).length = l.length * 2
 | [] => rfl
 | a :: l => by
  have := frN_len l
  unfold frV at this ⊢
  rw [List.flatMap_cons, List.length_append, this]; simp; omega
theorem prn_of_cells {H : Type} {enc : TypeId × Value → H} {W : World} {v : Value} {fuel : Nat} {x : DataW H × List MemPlace}
  (hf : DataW.trod enc Try.prog W 0 (fun _ => true) true fuel 23 [v] = some x) : ∃ l, PrN W v l ∧ (∀ p ∈ l, IntOk p.1 ∧ IntOk p.2) ∧ ((∀ n ∈ DataW.weights Try.prog 23 x.1, n ≤ reachBytes) → l.length ≤ 9000000000000) := by
 rcases open_slice_pairs Try.underlying23 Try.underlying40 cellsPairN rfl rfl cellsIntN cellsIntN hf with ⟨hcs, hx⟩ | ⟨a, len', cap', m, n, V0, V1, D0, D1, P0, P1, hcs, hb, hl, hm, hmm, hx, hi⟩
 ·obtain rfl : v = .slice none 0 0 := by simpa using hcs
  exact ⟨[], ⟨rfl, none, 0, rfl, by simp, (fun _ => ⟨rfl, rfl⟩), (fun h => by simp at h)⟩, (fun p hp => by cases hp), by simp⟩
 ·obtain ⟨len, cap, rfl, rfl⟩ : ∃ len cap, len = len' ∧ cap = cap' := ⟨_, _, rfl, rfl⟩
  obtain rfl : v = .slice (some a) len cap := by simpa using hcs
  simp only [if_true] at hmm
  have h0 : ∀ i, ∃ z : Int, i < len → V0 i = .int .i64 z ∧ IntOk z := fun i => by
   by_cases hlt : i < len
   ·obtain ⟨_, _, ht, _⟩ := hi i (by omega)
    obtain ⟨z, hc, _, hw⟩ := DataW.trod_int Try.underlying3 ht
    exact ⟨z, fun _ => ⟨by simpa using hc, bounds_i64 hw⟩⟩
   ·exact ⟨0, fun h => absurd h hlt⟩
  have h1 : ∀ i, ∃ z : Int, i < len → V1 i = .int .i64 z ∧ IntOk z := fun i => by
   by_cases hlt : i < len
   ·obtain ⟨_, _, _, ht⟩ := hi i (by omega)
    obtain ⟨z, hc, _, hw⟩ := DataW.trod_int Try.underlying3 ht
    exact ⟨z, fun _ => ⟨by simpa using hc, bounds_i64 hw⟩⟩
   ·exact ⟨0, fun h => absurd h hlt⟩
  obtain ⟨Z0, hZ0⟩ := Classical.skolem.1 h0
  obtain ⟨Z1, hZ1⟩ := Classical.skolem.1 h1
  have hlen : ((List.range len).map fun i => ((Z0 i, Z1 i) : Int × Int)).length = len := by simp
  have hel : ∀ (i : Nat) (h : i < ((List.range len).map fun i => ((Z0 i, Z1 i) : Int × Int)).length), ((List.range len).map fun i => ((Z0 i, Z1 i) : Int × Int))[i] = (Z0 i, Z1 i) := fun i h => by simp
  have hok : ∀ p ∈ (List.range len).map fun i => ((Z0 i, Z1 i) : Int × Int), IntOk p.1 ∧ IntOk p.2 := fun p hp => by
   obtain ⟨i, hi', rfl⟩ := List.mem_map.1 hp
   exact ⟨(hZ0 i (List.mem_range.1 hi')).2, (hZ1 i (List.mem_range.1 hi')).2⟩
  have hwl : (∀ n ∈ DataW.weights Try.prog 23 x.1, n ≤ reachBytes) → ((List.range len).map fun i => ((Z0 i, Z1 i) : Int × Int)).length ≤ 9000000000000 := by
   intro hw
   rw [hlen]
   have hb16 : Try.prog.bytesOf 40 = 16 := by kernel_rfl
   rw [hx] at hw
   simp only [DataW.weights, Try.underlying23] at hw
   have := hw _ List.mem_cons_self
   rw [hb16] at this
   unfold reachBytes at this
   simp at this
   omega
  refine ⟨(List.range len).map fun i => ((Z0 i, Z1 i) : Int × Int), ?_, hok, hwl⟩
  clear hok hwl
  generalize (List.range len).map (fun i => ((Z0 i, Z1 i) : Int × Int)) = l at *
  subst hlen
  refine ⟨frN_len l, some a, cap, rfl, ⟨hl, hm⟩, (fun h => by cases h), fun hn => ?_⟩
  obtain ⟨b, off, spot⟩ := a
  have hspot : spot = none := by simpa [Addr.add] using World.cell?_spot (hi 0 (by omega)).1
  subst hspot
  refine ⟨b, off, rfl, fun i hii => ?_⟩
  have hk : i / 2 < l.length := by omega
  obtain ⟨c0, c1, _, _⟩ := hi (i / 2) (by omega)
  rw [Addr.add_lit, (hZ0 _ hk).1] at c0
  rw [Addr.add_lit, (hZ1 _ hk).1] at c1
  obtain ⟨e0, e1⟩ := frV_two l (i / 2) hk
  rw [hel _ hk] at e0 e1
  rcases Nat.mod_two_eq_zero_or_one i with h | h
  ·have ei : i = i / 2 * 2 := by omega
   rw [show (frV l)[i]? = (frV l)[i / 2 * 2]? from by rw [← ei], e0, ← c0]; congr 2; omega
  ·have ei : i = i / 2 * 2 + 1 := by omega
   rw [show (frV l)[i]? = (frV l)[i / 2 * 2 + 1]? from by rw [← ei], e1, ← c1]; congr 2; omega
theorem names_of_trod {H : Type} {enc : TypeId × Value → H} {W : World} {base : Nat} {v : Value} {d : DataW H} {p : List MemPlace}
  (hval : Value.okWide Try.prog W .any base 26 v) (h : DataW.Trod enc Try.prog W 0 (fun _ => true) true 26 v d p) (hwt : ∀ n ∈ DataW.weights Try.prog 26 d, n ≤ reachBytes) :
  ∃ (vk vs vv vt vo : Value) (lk ls lv lt : List (Int × Int)) (L : List Int), v = .agg #[vk, vs, vv, vt, vo] ∧ (PrN W vk lk ∧ ∀ p ∈ lk, IntOk p.1 ∧ IntOk p.2) ∧ (PrN W vs ls ∧ ∀ p ∈ ls, IntOk p.1 ∧ IntOk p.2) ∧ (PrN W vv lv ∧ ∀ p ∈ lv, IntOk p.1 ∧ IntOk p.2) ∧ (PrN W vt lt ∧ ∀ p ∈ lt, IntOk p.1 ∧ IntOk p.2) ∧ Ints W vo L ∧ lk.length ≤ 9000000000000 ∧ ls.length ≤ 9000000000000 ∧ lv.length ≤ 9000000000000 ∧ lt.length ≤ 9000000000000 := by
 obtain ⟨cs, rfl, hsz⟩ := okWide_struct Try.underlying26 hval
 obtain ⟨c0, c1, c2, c3, c4, rfl⟩ := array5N (hsz.trans cellsNames)
 obtain ⟨fuel, hf⟩ := h
 obtain ⟨xs, n, _, hx, hl, hlen, hf⟩ := DataW.trod_struct Try.underlying26 hf
 have h0 := hf 0 _ rfl
 have h1 := hf 1 _ rfl
 have h2 := hf 2 _ rfl
 have h3 := hf 3 _ rfl
 have h4 := hf 4 _ rfl
 match xs, hlen with
 | [y0, y1, y2, y3, y4], _ =>
  simp [Value.cells] at h0 h1 h2 h3 h4
  have hd := congrArg Prod.fst hx
  have hd : d = .agg ([y0, y1, y2, y3, y4].map (·.1)) := hd
  have hin : ∀ i (hi : i < 4) n, n ∈ DataW.weights Try.prog 23 ([y0, y1, y2, y3, y4][i]'(by simp; omega)).1 → n ≤ reachBytes := fun i hi n hn => hwt n (by
   rw [hd]
   simp only [DataW.weights, Try.underlying26, DataW.weightsEach, List.map_cons, List.map_nil]
   match i, hi with
   | 0, _ => simp at hn; simp [hn]
   | 1, _ => simp at hn; simp [hn]
   | 2, _ => simp at hn; simp [hn]
   | 3, _ => simp at hn; simp [hn])
  obtain ⟨lk, hk, ik, nk⟩ := prn_of_cells h0
  obtain ⟨ls, hs, is, ns⟩ := prn_of_cells h1
  obtain ⟨lv, hv, iv, nv⟩ := prn_of_cells h2
  obtain ⟨lt, ht, it, nt⟩ := prn_of_cells h3
  obtain ⟨L, ho⟩ := ints_of_cells h4
  exact ⟨c0, c1, c2, c3, c4, lk, ls, lv, lt, L, rfl, ⟨hk, ik⟩, ⟨hs, is⟩, ⟨hv, iv⟩, ⟨ht, it⟩, ho, nk (hin 0 (by omega)), ns (hin 1 (by omega)), nv (hin 2 (by omega)), nt (hin 3 (by omega))⟩
end

section
open Go.RowKit
structure KeepLaw (B : Nat) (Kp : (Nat → Prop) → Nat → World → World → Prop) : Prop where
 put : ∀ {X D A l o r}, B ≤ l → l < D → A.heap[l]? = some (.loop r) → Kp X D A (A.putObj l o)
 trans : ∀ {X D A B C}, Kp X D A B → Kp X D B C → Kp X D A C
 mono : ∀ {X D E A B}, Kp X D A B → D ≤ E → Kp X E A B
 same : ∀ {X D A B k o}, Kp X D A B → D ≤ k → ¬ X k → A.heap[k]? = some o → o.isCells = false → B.heap[k]? = some o
structure KeepsX (D : Nat) (X : Nat → Prop) (A B : World) : Prop where
 os : B.os = A.os
 tape : B.tape = A.tape
 output : B.output = A.output
 size : A.heap.size ≤ B.heap.size
 same : ∀ k, k < D ∨ X k → k < A.heap.size → B.heap[k]? = A.heap[k]?
theorem KeepsX.trans {D : Nat} {X : Nat → Prop} {A B C : World} (h : KeepsX D X A B) (k : KeepsX D X B C) : KeepsX D X A C :=
 ⟨k.os.trans h.os, k.tape.trans h.tape, k.output.trans h.output, Nat.le_trans h.size k.size, fun j hj hl => (k.same j hj (Nat.lt_of_lt_of_le hl h.size)).trans (h.same j hj hl)⟩
theorem KeepsX.of_below {D : Nat} {X : Nat → Prop} {A B : World} (h : Below A.heap.size A B) : KeepsX D X A B := ⟨h.os, h.tape, h.output, h.size, fun k _ hk => h.block k hk⟩
theorem KeepsX.below {D : Nat} {X : Nat → Prop} {A B : World} (h : KeepsX D X A B) (hD : D ≤ A.heap.size) : Below D A B := ⟨h.os, h.tape, h.output, h.size, fun k hk => h.same k (.inl hk) (by omega)⟩
theorem KeepsX.put {D l : Nat} {X : Nat → Prop} (A : World) (o : Obj) (hl : D ≤ l) (hX : ¬ X l) : KeepsX D X A (A.putObj l o) :=
 ⟨(grownBy_putObj' A l o).os, (grownBy_putObj' A l o).tape, (grownBy_putObj' A l o).output, (grownBy_putObj' A l o).size, fun k hk _ => World.putObj_heap_other (fun e => by subst e; exact hk.elim (fun h => by omega) hX)⟩
def StaysX {α : Type} (D : Nat) (J : (Nat → Prop) → List α → World → Prop) : Prop := ∀ X pre A B, J X pre A → KeepsX D X A B → J X pre B
def SeqOf {α : Type} (H : Nat → (Nat → Prop) → World → Value → α → Prop) (Kp : (Nat → Prop) → Nat → World → World → Prop) (F : Fence) (n : Nat) (P : Program) (g : Nat) (pb lb : Array Value) (L : List α) (w : World) : Prop :=
 ∀ (l : Nat) (J : (Nat → Prop) → List α → World → Prop) (Jx : List α → World → Prop) (W : World), KeepsX w.heap.size (fun _ => False) w W → StaysX W.heap.size J →
  (∀ X pre v r A, J X pre A → H W.heap.size X A v r → (∀ k, X k → W.heap.size ≤ k) → (pre ++ [r]) <+: L → YieldAt F (n - 1) P l #[v] A fun e B =>
   (e = .returned (.bool true) ∧ (∃ X', J X' (pre ++ [r]) B ∧ ∀ k, X' k → X k ∨ (A.heap.size ≤ k ∧ k < B.heap.size)) ∧ Kp X W.heap.size A B) ∨ (e = .returned (.bool false) ∧ Jx (pre ++ [r]) B ∧ Kp X W.heap.size A B)) →
  J (fun _ => False) [] W →
  CallsIn F n P g (pb ++ #[.func (.yield l) #[] #[]] ++ lb) W fun e B => (∃ v, e = .returned v) ∧ ((∃ X, J X L B) ∨ ∃ pre, pre <+: L ∧ Jx pre B)
def roundEndO {α : Type} (Kp : (Nat → Prop) → Nat → World → World → Prop) (D : Nat) (I : (Nat → Prop) → List α → World → Prop) (Ix : Code → List α → World → Prop) (X : Nat → Prop) (xs : List α) (W : World) : Exit → Act → World → Prop
 | .normal, _, B => (∃ X', I X' xs B ∧ ∀ k, X' k → X k ∨ (W.heap.size ≤ k ∧ k < B.heap.size)) ∧ Kp X D W B
 | .ret, _, B => Kp X D W B ∧ Ix .ret xs B
 | .exit id, _, B => Kp X D W B ∧ Ix (.exit id) xs B
 | _, _, _ => False
def KpN (N : Nat → Prop) (X : Nat → Prop) (D : Nat) (A B : World) : Prop := A.heap.size ≤ B.heap.size ∧ ∀ k, N k ∨ D ≤ k → ¬ X k → k < A.heap.size → B.heap[k]? = A.heap[k]?
theorem kpN_law {N : Nat → Prop} {B : Nat} (hN : ∀ k, N k → k < B) : KeepLaw B (KpN N) :=
 ⟨fun {X D A l o r} hB hl _ => ⟨Nat.le_of_eq World.putObj_size.symm, fun k hk _ _ => World.putObj_heap_other (fun e => by subst e; exact hk.elim (fun q => by have := hN _ q; omega) (fun q => by omega))⟩,
  fun h k => ⟨Nat.le_trans h.1 k.1, fun j hj hX hl => (k.2 j hj hX (Nat.lt_of_lt_of_le hl h.1)).trans (h.2 j hj hX hl)⟩,
  fun h e => ⟨h.1, fun j hj => h.2 j (hj.imp id (fun q => Nat.le_trans e q))⟩, fun h hk hX e _ => (h.2 _ (.inr hk) hX (Array.getElem?_eq_some_iff.1 e).1).trans e⟩
theorem KpN.of_grown {N X : Nat → Prop} {D : Nat} {A B : World} {row : Option Nat} (h : A.grownBy B row) (hr : ∀ j, row = some j → (¬ N j ∧ j < D) ∨ X j) : KpN N X D A B :=
 ⟨h.size, fun k hk hX hl => h.block k hl (fun e => (hr k e.symm).elim (fun q => hk.elim q.1 (fun z => by omega)) hX)⟩
theorem KpN.trans {N X : Nat → Prop} {D : Nat} {A B C : World} (h : KpN N X D A B) (k : KpN N X D B C) : KpN N X D A C :=
 ⟨Nat.le_trans h.1 k.1, fun j hj hX hl => (k.2 j hj hX (Nat.lt_of_lt_of_le hl h.1)).trans (h.2 j hj hX hl)⟩
theorem KpN.of_below {N X : Nat → Prop} {D : Nat} {A B : World} (h : Below A.heap.size A B) : KpN N X D A B := ⟨h.size, fun k _ _ hk => h.block k hk⟩
section
variable {α : Type} {H : Nat → (Nat → Prop) → World → Value → α → Prop} {Kp : (Nat → Prop) → Nat → World → World → Prop}
theorem range_of (hH : ∀ {D X W v x l o r}, H D X W v x → l < D → W.heap[l]? = some (.loop r) → H D X (W.putObj l o) v x)
  {F : Fence} {n : Nat} {P : Program} {g : Operand} {ps : Array Tmp} {assign body : Code} {Q : Exit → Act → World → Prop} {a : Act} {w w0 : World} {gf : Nat} {pb lb : Array Value} {L : List α}
  (hKp : KeepLaw w.heap.size Kp) (hro : F.round = none) (h1 : 1 ≤ n) (hg : a.eval g = .func (.func gf) pb lb) (hFg : F.fn gf) (eg : ∀ args w, (callFunc gf args).run P w = .ok (.enter gf args) w)
  (hseq : SeqOf H Kp F (n - 1) P gf pb lb L w0) (hb0 : KeepsX w0.heap.size (fun _ => False) w0 w) (hps : ps.size = 1)
  (I : (Nat → Prop) → List α → World → Prop) (Ix : Code → List α → World → Prop) (hI : StaysX w.heap.size I) (hIx : ∀ c pre W (r : Loop) o, Ix c pre W → W.heap[w.heap.size + 1]? = some (.loop r) → Ix c pre (W.putObj (w.heap.size + 1) o)) (h0 : I (fun _ => False) [] w) (a1 : Value → Act)
  (hassign : ∀ (l : Nat) (v : Value) (W : World) (K : Act → World → Prop), K (a1 v) W →
   assign.wpIn (F.inRound l) (n - 1 - 1) P (Exit.then K (fun _ _ _ => False)) { tmps := (ps.zip #[v]).foldl (fun t (p, v) => t.setIfInBounds p v) a.tmps, defers := [] } W)
  (hbody : ∀ (l : Nat) (X : Nat → Prop) (pre : List α) (v : Value) (r : α) (W : World), w.heap.size ≤ l → l < w.heap.size + 2 → (∃ q, W.heap[l]? = some (.loop q)) → (∀ k, X k → w.heap.size + 2 ≤ k) → I X pre W → H (w.heap.size + 2) X W v r → (pre ++ [r]) <+: L → w.heap.size + 2 ≤ W.heap.size →
   body.wpIn (F.inRound l) (n - 1 - 1) P (roundEndO Kp w.heap.size I Ix X (pre ++ [r]) W) (a1 v) W)
  (hdone : ∀ X W, I X L W → W.heap[w.heap.size]? = some (.deferred (some [])) → Q .normal { a with defers := { target := .collected w.heap.size, args := #[] } :: a.defers } W)
  (hstop : ∀ c pre W, pre <+: L → Ix c pre W → W.heap[w.heap.size]? = some (.deferred (some [])) → c.wpIn F n P Q { a with defers := { target := .collected w.heap.size, args := #[] } :: a.defers } W) :
  (Code.rangeFunc g ps assign body).wpIn F n P Q a w := by
 refine wpIn_rangeFunc fun fn hfn => ?_
 rw [hro]
 generalize hD : w.heap.size = D at *
 obtain ⟨rec, hrec⟩ : ∃ rec : LoopState → Option Code → Loop, rec = fun st pe => { state := st, pending := pe, fn, tmps := a.tmps, params := ps, assign, body, defers := D } := ⟨_, rfl⟩
 have hrun : (Instr.enterLoop fn a.tmps ps assign body none).run P w = .ok (D + 1, [{ target := .collected D, args := #[] }]) ((w.alloc (.deferred (some []))).alloc (.loop (rec .ready none))) := by
  rw [hrec, ← hD]; exact run_enterLoop_outer _ _ _ _ _
 have hbel : Below w.heap.size w ((w.alloc (.deferred (some []))).alloc (.loop (rec .ready none))) := ((Below.refl _ w).alloc (Nat.le_refl _) _).alloc (by simp) _
 have hsz : ((w.alloc (.deferred (some []))).alloc (.loop (rec .ready none))).heap.size = D + 2 := by simp [hD]
 have hl1 : ((w.alloc (.deferred (some []))).alloc (.loop (rec .ready none))).heap[D + 1]? = some (.loop (rec .ready none)) := by
  have := World.alloc_heap_new (w.alloc (.deferred (some []))) (.loop (rec .ready none))
  rwa [World.size_alloc, hD] at this
 have hd1 : ((w.alloc (.deferred (some []))).alloc (.loop (rec .ready none))).heap[D]? = some (.deferred (some [])) := by
  rw [Below.heap_alloc _ _ _ (by simp [hD])]
  have := World.alloc_heap_new w (.deferred (some []))
  rwa [hD] at this
 generalize (w.alloc (.deferred (some []))).alloc (.loop (rec .ready none)) = W1 at *
 rw [hD] at hbel
 have hput : ∀ (X : Nat → Prop) (W : World) (o : Obj), (∀ k, X k → D + 2 ≤ k) → KeepsX D X W (W.putObj (D + 1) o) := fun X W o h =>
  KeepsX.put W o (by omega) (fun q => by have := h _ q; omega)
 refine ⟨D + 1, _, W1, { target := .fn (.func gf) lb, args := pb ++ #[.func (.yield (D + 1)) #[] #[]] }, W1, gf, pb ++ #[.func (.yield (D + 1)) #[] #[]] ++ lb, W1, hrun, ?_, ?_, ?_, fun _ => h1, ?_⟩
 ·simp only [resolve, hg]; simp [go_sem]
 ·intro f' hf'; simp [Target.leads] at hf'; subst hf'; exact hFg
 ·simp [invoke, go_sem, eg]
 have hat : ∀ {X : Nat → Prop} {A B : World} {k : Nat} {o : Obj}, KeepsX W1.heap.size X A B → k < D + 2 → A.heap[k]? = some o → B.heap[k]? = some o := fun h hk e => (h.same _ (.inl (by omega)) (Array.getElem?_eq_some_iff.1 e).1).trans e
 refine (hseq (D + 1) (fun X pre W => (∀ k, X k → D + 2 ≤ k) ∧ I X pre W ∧ W.heap[D + 1]? = some (.loop (rec .ready none)) ∧ W.heap[D]? = some (.deferred (some [])))
  (fun pre W => ∃ c, Ix c pre W ∧ W.heap[D + 1]? = some (.loop (rec .done (some c))) ∧ W.heap[D]? = some (.deferred (some []))) W1
  (hb0.trans ⟨hbel.os, hbel.tape, hbel.output, hbel.size, fun j hj hl => hbel.block j (by rw [← hD]; exact hl)⟩)
  (fun X pre A B h hb => ⟨h.1, hI _ _ _ _ h.2.1 ⟨hb.os, hb.tape, hb.output, hb.size, fun k hk hl => hb.same k (hk.imp (fun q => by omega) id) hl⟩, hat hb (by omega) h.2.2.1, hat hb (by omega) h.2.2.2⟩)
  ?_ ⟨fun _ h => h.elim, hI _ _ _ _ h0 (KeepsX.of_below (by rw [hD]; exact hbel)), hl1, hd1⟩).mono ?_
 ·rintro X pre v r A ⟨hX, hi, hl, hk⟩ hr _ hpre
  rw [hsz] at hr ⊢
  have hlt : D + 1 < A.heap.size := (Array.getElem?_eq_some_iff.1 hl).1
  have hy := run_yield (P := P) (args := #[v]) hl (by rw [hrec]; exact hps.symm)
  rw [hrec] at hy
  refine ⟨fn, _, assign, body, hy, roundIn_of_wpIn hfn (hassign _ v A _ ⟨_, run_beginRound hl (by rw [hrec]), ?_⟩)⟩
  have hl2 : (A.putObj (D + 1) (.loop { rec .ready none with state := .busy })).heap[D + 1]? = some (.loop { rec .ready none with state := .busy }) := World.putObj_heap_same hlt
  have hk2 : (A.putObj (D + 1) (.loop { rec .ready none with state := .busy })).heap[D]? = some (.deferred (some [])) := (World.putObj_heap_other (by omega)).trans hk
  have hK2 := hKp.put (X := X) (D := D + 2) (A := A) (l := D + 1) (o := .loop { rec .ready none with state := .busy }) (by omega) (by omega) hl
  refine wpIn_mono (hbody _ X pre v r _ (by omega) (by omega) ⟨_, hl2⟩ hX (hI _ _ _ _ hi (hput _ _ _ hX)) (hH hr (by omega) hl) hpre (by simp; omega)) ?_
  rintro e a3 W3 hp
  have fin : ∀ (jump : Option Code), Kp X D (A.putObj (D + 1) (.loop { rec .ready none with state := .busy })) W3 →
    ∃ B, (Instr.endRound (D + 1) jump).run P W3 = .ok (.bool jump.isNone) B ∧ (∃ (r : Loop) (o : Obj), W3.heap[D + 1]? = some (.loop r) ∧ B = W3.putObj (D + 1) o) ∧ (∀ Y, (∀ k, Y k → D + 2 ≤ k) → KeepsX D Y W3 B) ∧ Kp X (D + 2) A B ∧ B.heap[D + 1]? = some (.loop (rec (if jump.isNone then .ready else .done) jump)) ∧ B.heap[D]? = some (.deferred (some [])) := fun jump hk3 => by
   have hl3 := hKp.same hk3 (by omega) (fun q => by have := hX _ q; omega) hl2 rfl
   have hd3 := hKp.same hk3 (Nat.le_refl _) (fun q => by have := hX _ q; omega) hk2 rfl
   have hlt3 := (Array.getElem?_eq_some_iff.1 hl3).1
   refine ⟨_, run_endRound (P := P) jump hl3, ⟨_, _, hl3, rfl⟩, fun Y hY => hput Y _ _ hY, hKp.trans (hKp.trans hK2 (hKp.mono hk3 (by omega))) (hKp.put (by omega) (by omega) hl3), ?_, (World.putObj_heap_other (by omega)).trans hd3⟩
   rw [World.putObj_heap_same hlt3, hrec]
  cases e with
  | normal =>
   obtain ⟨⟨X', hi3, hX'⟩, hk3⟩ := hp
   obtain ⟨B, hr, _, hb, hkb, hl4, hd4⟩ := fin none hk3
   rw [World.putObj_size] at hX'
   have hY : ∀ k, X' k → D + 2 ≤ k := fun k q => (hX' k q).elim (hX k) (fun h => by omega)
   have hsz2 := (hb X' hY).size
   exact ⟨_, B, hr, .inl ⟨rfl, ⟨X', ⟨hY, hI _ _ _ _ hi3 (hb X' hY), hl4, hd4⟩, fun k q => (hX' k q).imp id (fun h => ⟨h.1, Nat.lt_of_lt_of_le h.2 hsz2⟩)⟩, hkb⟩⟩
  | ret =>
   obtain ⟨hk3, hi3⟩ := hp
   obtain ⟨B, hr, ⟨lr, lo, hl3, hB⟩, _, hkb, hl4, hd4⟩ := fin (some .ret) hk3
   exact ⟨_, B, hr, .inr ⟨rfl, ⟨_, by rw [hB]; exact hIx _ _ _ lr lo hi3 hl3, hl4, hd4⟩, hkb⟩⟩
  | exit id =>
   obtain ⟨hk3, hi3⟩ := hp
   obtain ⟨B, hr, ⟨lr, lo, hl3, hB⟩, _, hkb, hl4, hd4⟩ := fin (some (.exit id)) hk3
   exact ⟨_, B, hr, .inr ⟨rfl, ⟨_, by rw [hB]; exact hIx _ _ _ lr lo hi3 hl3, hl4, hd4⟩, hkb⟩⟩
  | goto t => exact hp.elim
  | panic ch => exact hp.elim
  | outgrown => exact hp.elim
 ·rintro e W2 ⟨⟨v, rfl⟩, (⟨X, hX, hi, hl, hk⟩ | ⟨pre, hpre, c, hi, hl, hk⟩)⟩
  ·have hlt := (Array.getElem?_eq_some_iff.1 hl).1
   refine ⟨none, _, by have := run_endLoop (P := P) hl (by rw [hrec]; simp); rw [hrec] at this; exact this, ?_⟩
   exact hdone X _ (hI _ _ _ _ hi (hput _ _ _ hX)) ((World.putObj_heap_other (by omega)).trans hk)
  ·refine ⟨some c, _, by have := run_endLoop (P := P) hl (by rw [hrec]; simp); rw [hrec] at this; exact this, ?_⟩
   exact hstop c pre _ hpre (hIx _ _ _ _ _ hi hl) ((World.putObj_heap_other (by omega)).trans hk)
end
end

section
open Go.RowKit
def BoxN (w : World) (p : Nat) (t : TypeId) (cs : Array Value) : Prop := w.heap[p]? = some (.cells cs t (0, 0))
section
variable {w w' : World} {p : Nat} {t : TypeId} {cs : Array Value}
theorem BoxN.lt (h : BoxN w p t cs) : p < w.heap.size := (Array.getElem?_eq_some_iff.1 h).1
theorem BoxN.cell (h : BoxN w p t cs) {i : Nat} {v : Value} (hv : cs[i]? = some v) : w.cell? ⟨p, i, none⟩ = some v := by rw [cell_of_row w p i _ _ _ h]; exact hv
theorem BoxN.free (h : BoxN w p t cs) (i : Nat) : w.frozen? ⟨p, i, none⟩ = false := frozen_of_row w p i _ _ h
theorem BoxN.new (w : World) (t : TypeId) (cs : Array Value) : BoxN (w.alloc (.cells cs t)) w.heap.size t cs := World.alloc_heap_new w _
theorem BoxN.below (h : BoxN w p t cs) (hb : Below w.heap.size w w') : BoxN w' p t cs := (hb.block p h.lt).trans h
theorem BoxN.kept {row : Option Nat} (h : BoxN w p t cs) (hg : w.grownBy w' row) (hne : some p ≠ row) : BoxN w' p t cs := (hg.block p h.lt hne).trans h
theorem BoxN.set (h : BoxN w p t cs) (i : Nat) (v : Value) : BoxN (w.setCell ⟨p, i, none⟩ v) p t (cs.setIfInBounds i v) := heap_setCell_same w p i cs t v h
theorem BoxN.far (h : BoxN w p t cs) {a : Addr} (ha : p ≠ a.block) (v : Value) : BoxN (w.setCell a v) p t cs := (heap_setCell_other w a p v ha).trans h
end
theorem owns_no_box {w : World} {b : Nat} {e t : TypeId} {s n p : Nat} {v : Value} {xs : List Value} {cs : Array Value} (h : w.ownsRow b e s v n xs) (k : BoxN w p t cs) (hne : e ≠ t) : v.ownBlock = none ∨ v.ownBlock ≠ some p := by
 rcases h.2 with ⟨rfl, _⟩ | ⟨g, c, cur, rfl, _, hh, _⟩
 ·exact .inl rfl
 ·right
  intro e2
  simp [Value.ownBlock] at e2
  subst e2
  unfold BoxN at k
  rw [hh] at k
  injection k with k
  injection k with _ k
  exact hne k
theorem grown_set (w : World) (a : Addr) (u : Value) : w.grownBy (w.setCell a u) (some a.block) :=
 ⟨rfl, rfl, rfl, by simp, fun k _ hk => Below.heap_setCell w a u k (fun e => hk (by rw [e]))⟩
theorem owns_weak {w : World} {b b' : Nat} {e : TypeId} {s n : Nat} {v : Value} {xs : List Value} (h : w.ownsRow b e s v n xs) (hb : b' ≤ b) : w.ownsRow b' e s v n xs := by
 refine ⟨h.1, ?_⟩
 rcases h.2 with q | ⟨g, c, cur, e1, e2, r⟩
 ·exact .inl q
 ·exact .inr ⟨g, c, cur, e1, Nat.le_trans hb e2, r⟩
def IntO (w : World) (b : Nat) (v : Value) (L : List Int) : Prop := w.ownsRow b 3 1 v L.length (L.map (Value.int .i64))
section
variable {w w' : World} {b : Nat} {v : Value} {L : List Int}
theorem IntO.ints (h : IntO w b v L) : Ints w v L := Ints.of_owns h
theorem IntO.below (h : IntO w b v L) (hb : Below w.heap.size w w') : IntO w' b v L := owns_below h hb
theorem IntO.box {p : Nat} {t : TypeId} {cs : Array Value} (h : IntO w b v L) (k : BoxN w p t cs) (hne : 3 ≠ t) (hg : w.grownBy w' (some p)) : IntO w' b v L := World.ownsRow.kept h hg (owns_no_box h k hne)
theorem IntO.nil (w : World) (b : Nat) : IntO w b (.slice none 0 0) [] := ⟨rfl, .inl ⟨rfl, rfl⟩⟩
end
end

section
open Go.RowKit Go.Shelf
attribute [local go_sem] Oper.semAt_some
abbrev IntH : Nat → (Nat → Prop) → World → Value → Int → Prop := fun _ _ _ v x => v = .int .i64 x
theorem svalues_any (ao : Option Addr) (m cap : Nat) (w : World) :
  Calls Try.prog 32 #[.slice ao m cap] w fun e w' => e = .returned (.func (.func 42) #[] #[.pointer (some ⟨w.heap.size, 0, none⟩)]) ∧ w' = w.alloc (.cells #[.slice ao m cap] 24) := by
 go_enter Try.func32, Try.ntmps32
 go_wp2_with fail
 go_ret
 exact ⟨rfl, rfl⟩
theorem take_pre {α : Type} (l : List α) {k : Nat} (hk : k < l.length) : (l.take k ++ [l[k]]) <+: l := by
 rw [← List.take_succ_eq_append_getElem hk]; exact List.take_prefix _ _
theorem svalues_seq (n Bs : Nat) (va : Value) (xs : List Int) (w : World) (hB : Bs < w.heap.size) (hc : w.cell? ⟨Bs, 0, none⟩ = some va) (hI : Ints w va xs) :
  SeqOf IntH (KpN fun k => k < w.heap.size) Fence.wide n Try.prog 42 #[] #[.pointer (some ⟨Bs, 0, none⟩)] xs w := by
 intro l J Jx W hW hJ hY h0
 obtain ⟨ao, cap, rfl, hal⟩ := hI.form
 have hWb : Below w.heap.size w W := hW.below (Nat.le_refl _)
 have hcell := (hWb.cell (p := ⟨Bs, 0, none⟩) hB).trans hc
 have HI := hid hI
 have HW0 : Hid (∀ j, j < w.heap.size → W.heap[j]? = w.heap[j]?) := hid (fun j hj => hWb.block j hj)
 have HYL := hid (fun X pre v r A a b c d => yield_depth (m := n - 1) rfl 1 (hY X pre v r A a b c d))
 have HWS := hid hW.size
 clear hY hW hWb hc hI
 refine (callsIn_wide (n := n)).2 ((callsIn_wide (n := 2)).1 ?_)
 refine callsIn_of_wp Try.func42 rfl trivial ?_ rfl
 simp only [Try.ntmps42, List.size_toArray, List.length_cons, List.length_nil, Nat.reduceAdd, Nat.reduceSub, Array.replicate_succ, Array.replicate_zero, List.push_toArray, List.append_toArray, List.nil_append, List.cons_append]
 gi_wp2
 gi_loopw [7] (fun i wr => ∃ (k : Nat) (X : Nat → Prop), k ≤ xs.length ∧ i = .int .i64 (k : Int) ∧ Hid (J X (xs.take k) wr) ∧ Hid (∀ j, X j → W.heap.size ≤ j) ∧ Hid (∀ j, j < w.heap.size → wr.heap[j]? = w.heap[j]?) ∧ Hid (W.heap.size ≤ wr.heap.size))
  (fun i _ => xs.length - (intOf i).toNat)
 case atStart => exact ⟨0, fun _ => False, Nat.zero_le _, rfl, hid h0, hid (fun _ q => q.elim), HW0, hid (Nat.le_refl _)⟩
 case round =>
  clear h0 hcell
  obtain ⟨k, X, hk, rfl, HJ, HX, HS, HZ⟩ := hrel
  by_cases hlt : k < xs.length
  ·have hki : (k : Int) < (xs.length : Int) := by omega
   obtain ⟨g, o, hg, hcx⟩ := HI.out.at hlt
   cases hg
   have hcx := (World.cell?_of_block (HS.out g (block_lt hcx))).trans hcx
   have HT : Hid (xs.take (k + 1) = xs.take k ++ [xs[k]]) := hid (List.take_succ_eq_append_getElem hlt)
   have HP := hid (take_pre xs hlt)
   obtain ⟨fn, tmps, assign, body, hy, hR⟩ := HYL.out X (xs.take k) (.int .i64 xs[k]) xs[k] wr HJ.out rfl HX.out HP.out
   generalize xs[k] = x at *
   gi_wp2
   refine hR.mono ?_
   rintro e W3 (⟨rfl, ⟨X', hJ', hX'⟩, hk'⟩ | ⟨rfl, hx, _⟩)
   ·have HJ2 : Hid (J X' (xs.take (k + 1)) W3) := hid (by rw [HT.out]; exact hJ')
    have HX2 : Hid (∀ j, X' j → W.heap.size ≤ j) := hid (fun j q => (hX' j q).elim (HX.out j) (fun z => Nat.le_trans HZ.out z.1))
    have HS2 : Hid (∀ j, j < w.heap.size → W3.heap[j]? = w.heap[j]?) := hid (fun j hj => (hk'.2 j (.inl hj) (fun q => by have := HX.out j q; have := HWS.out; omega) (by have := HZ.out; have := HWS.out; omega)).trans (HS.out j hj))
    have HZ2 : Hid (W.heap.size ≤ W3.heap.size) := hid (Nat.le_trans HZ.out hk'.1)
    clear hJ' hX' hk' hcx
    gi_wp2
    go_roundw
    case rel => exact ⟨k + 1, X', by omega, by go_num, HJ2, HX2, HS2, HZ2⟩
    case measure => simp [intOf]; omega
   ·gi_wp2
    refine bodyPost_ret (results_none rfl _ _ _) rfl ?_
    exact ⟨⟨_, rfl⟩, .inr ⟨_, HP.out, hx⟩⟩
  ·obtain rfl : k = xs.length := by omega
   have hki : ¬ (xs.length : Int) < (xs.length : Int) := by omega
   have HJ2 : Hid (J X xs wr) := hid (by have q := HJ.out; rwa [List.take_length] at q)
   gi_wp2
   go_end0
   exact ⟨⟨_, rfl⟩, .inl ⟨X, HJ2.out⟩⟩
theorem owns_same {A B : World} {b : Nat} {e : TypeId} {s n : Nat} {v : Value} {xs : List Value} (h : A.ownsRow b e s v n xs) (hs : ∀ g, v.ownBlock = some g → B.heap[g]? = A.heap[g]?) : B.ownsRow b e s v n xs := by
 refine ⟨h.1, ?_⟩
 rcases h.2 with q | ⟨g, c, cur, e1, e2, e3, r⟩
 ·exact .inl q
 ·exact .inr ⟨g, c, cur, e1, e2, by rw [hs g (by rw [e1]; rfl)]; exact e3, r⟩
theorem owns_put {A : World} {b : Nat} {e : TypeId} {s n D : Nat} {v : Value} {xs : List Value} {o : Obj} (h : A.ownsRow b e s v n xs) (hD : A.heap[D]? = some o) (ho : o.isCells = false) (o' : Obj) : (A.putObj D o').ownsRow b e s v n xs := by
 refine owns_same h fun g hg => World.putObj_heap_other fun e => ?_
 subst e
 rcases h.2 with ⟨rfl, _⟩ | ⟨g', c, cur, rfl, _, e3, _⟩
 ·cases hg
 ·simp [Value.ownBlock] at hg
  subst hg
  rw [hD] at e3
  cases e3
  cases ho
theorem sappend_any (Bs : Nat) (va : Value) (xs : List Int) (w : World) (hB : Bs < w.heap.size) (hc : w.cell? ⟨Bs, 0, none⟩ = some va) (hI : Ints w va xs) (hn : xs.length ≤ 100000) :
  Calls Try.prog 46 #[.slice none 0 0, .func (.func 42) #[] #[.pointer (some ⟨Bs, 0, none⟩)]] w fun e w' => ∃ v, e = .returned v ∧ IntO w' w.heap.size v xs ∧ Below w.heap.size w w' := by
 obtain ⟨i0, hi, hz0, hz1, hz2⟩ := info_parts infoInt
 refine (callsIn_wide (n := 3)).1 ?_
 refine callsIn_of_wp_marks Try.func46 rfl trivial ?_ rfl
 simp only [Try.ntmps46, List.size_toArray, List.length_cons, List.length_nil, Nat.reduceAdd, Nat.reduceSub, Array.replicate_succ, Array.replicate_zero, List.push_toArray, List.append_toArray, List.nil_append, List.cons_append]
 have hbel := box_below w (.cells #[.slice none 0 0] 24)
 have hbx := Boxed.new w 24 (.slice none 0 0)
 have hs1 : (w.alloc (.cells #[.slice none 0 0] 24)).heap.size = w.heap.size + 1 := by simp
 gi_wp2_with fail
 generalize w.alloc (.cells #[.slice none 0 0] 24) = W1 at *
 refine range_of (H := IntH) (Kp := KpN fun k => k < w.heap.size) (gf := 42) (pb := #[]) (lb := #[.pointer (some ⟨Bs, 0, none⟩)]) (L := xs) (fun h _ _ => h) (kpN_law (by intro k hk; omega)) rfl (by omega) rfl trivial (fun args w => by kernel_rfl)
  (svalues_seq _ Bs va xs w hB hc hI) ⟨hbel.os, hbel.tape, hbel.output, hbel.size, fun k _ hk => hbel.block k hk⟩ rfl
  (fun X pre W => ∃ v, Boxed W w.heap.size 24 v ∧ IntO W (w.heap.size + 1) v pre ∧ (∀ b, v.ownBlock = some b → X b) ∧ Below w.heap.size w W ∧ ∃ a n c, v = .slice a n c)
  (fun _ _ _ => False) ?stay (fun _ _ _ _ _ q _ => q) ?start
  (fun v => { tmps := #[.slice none 0 0, .func (.func 42) #[] #[.pointer (some ⟨Bs, 0, none⟩)], .pointer (some ⟨w.heap.size, 0, none⟩), undef, .slice none 0 0, v, .func (.func 42) #[] #[.pointer (some ⟨Bs, 0, none⟩)], v, undef, undef, undef, undef, undef], defers := [] }) ?assign ?body ?done ?stop
 case stay =>
  rintro X pre A B ⟨v, h1, h2, h3, h4, h5⟩ hk
  refine ⟨v, (hk.same _ (.inl (by omega)) h1.lt).trans h1, owns_same h2 (fun g hg => hk.same g (.inr (h3 g hg)) (World.ownsRow.lt h2 g hg).2), h3, h4.trans ⟨hk.os, hk.tape, hk.output, hk.size, fun k q => hk.same k (.inl (by omega)) (by have := h4.size; omega)⟩, h5⟩
 case start => exact ⟨_, hbx, IntO.nil _ _, fun b e => (by cases e), hbel, ⟨_, _, _, rfl⟩⟩
 case assign =>
  intro l v W K hK
  gi_wp2
  exact hK
 case body =>
  rintro l X pre v x W hl1 hl2 _ hX ⟨v0, hbox, hO, hXb, hblw, a, m, c, rfl⟩ rfl hpre hsz
  have hpl : pre.length < xs.length := by have := hpre.length_le; simp at this; omega
  have hbc := hbox.cell
  have hbf := hbox.frozen
  have hOl := hO.1
  have HO := hid hO
  have HX := hid hX
  have HXb := hid hXb
  have HBX := hid hbox
  have HBL := hid hblw
  have hsz0 := hblw.size
  have hs1a : W1.heap.size ≤ w.heap.size + 1 := by omega
  have hs1b : w.heap.size + 1 ≤ W1.heap.size := by omega
  clear hbel hbx hs1 hO hX hXb hbox hblw hOl
  have hbe := box_below W (.cells #[.int .i64 x] 3)
  have hown : W.ownsRow (w.heap.size + 1) 3 1 (.slice a m c) pre.length (pre.map (Value.int .i64)) := HO.out
  gi_wp2_with (gi_at_builtin; refine wpListIn_append_own_at _ rfl _ _ 24 rfl (w.heap.size + 1) 3 i0 (.int .i64 0) 1 8 Try.underlying24 hi hz0 hz1 hz2 rfl (by decide) _ _ _ rfl (hown.alloc _) ⟨_, 0, none⟩ 1 1 [.int .i64 x] rfl rfl ?c1 ?c2 ?c3 ?c4 ?c5 ?_)
  try case c1 => exact cell_one_new _ _ _
  try case c2 => first | rfl | (intro u hu; simp at hu; subst hu; rfl)
  case c3 => unfold maxLen; omega
  case c4 => omega
  case c5 => simp; omega
  intro v' w1 hown' hgrow _ hat
  obtain ⟨g', cap', rfl, hg1, hg2⟩ := hown'.form (by omega)
  have hrow : ∀ j, (Value.slice a m c).ownBlock = some j → X j := HXb.out
  have hbn : some w.heap.size ≠ (Value.slice a m c).ownBlock := fun e => by have := HX.out _ (hrow _ e.symm); omega
  have hb1 : BoxN w1 w.heap.size 24 #[.slice a m c] := BoxN.kept (BoxN.below (show BoxN W w.heap.size 24 #[.slice a m c] from HBX.out) hbe) hgrow hbn
  have hbc1 := hb1.cell (i := 0) rfl
  have hbf1 := hb1.free 0
  have hgs := grown_set w1 ⟨w.heap.size, 0, none⟩ (.slice (some ⟨g', 0, none⟩) (pre.length + 1) cap')
  have HB2 := hid (hb1.set 0 (.slice (some ⟨g', 0, none⟩) (pre.length + 1) cap'))
  have HO2 : Hid (IntO (w1.setCell ⟨w.heap.size, 0, none⟩ (.slice (some ⟨g', 0, none⟩) (pre.length + 1) cap')) (w.heap.size + 1) (.slice (some ⟨g', 0, none⟩) (pre.length + 1) cap') (pre ++ [x])) := hid (by
   unfold IntO
   rw [List.map_append, List.length_append]
   exact World.ownsRow.kept hown' hgs (owns_no_box hown' hb1 (by decide)))
  have HX2 : Hid (∀ b, (Value.slice (some ⟨g', 0, none⟩) (pre.length + 1) cap').ownBlock = some b → X b ∨ (W.heap.size ≤ b ∧ b < (w1.setCell ⟨w.heap.size, 0, none⟩ (.slice (some ⟨g', 0, none⟩) (pre.length + 1) cap')).heap.size)) := hid (fun b e => by
   have hlt := (World.ownsRow.lt hown' b e).2
   rcases hat with q | q
   ·rw [q] at e; exact .inl (hrow b e)
   ·rw [q] at e; cases e; right; exact ⟨by simp, by simpa using hlt⟩)
  have HBL2 := hid (((HBL.out.alloc HBL.out.size (.cells #[.int .i64 x] 3)).grown hgrow (by simp; omega) (fun j e => by have := (World.ownsRow.lt hown j e).1; omega)).setCell (p := ⟨w.heap.size, 0, none⟩) (Nat.le_refl _) (.slice (some ⟨g', 0, none⟩) (pre.length + 1) cap'))
  have HKP := hid (((KpN.of_below (N := fun k => k < w.heap.size) (X := X) (D := W1.heap.size) hbe).trans (KpN.of_grown hgrow (fun j e => .inr (hrow j e)))).trans (KpN.of_grown hgs (fun j e => .inl (by cases e; exact ⟨Nat.lt_irrefl _, by show w.heap.size < W1.heap.size; omega⟩))))
  clear hown' hgrow hat hb1 hgs hown hbe
  gi_wp2_with fail
  exact ⟨⟨fun k => X k ∨ (W.heap.size ≤ k ∧ k < (w1.setCell ⟨w.heap.size, 0, none⟩ (.slice (some ⟨g', 0, none⟩) (pre.length + 1) cap')).heap.size), ⟨_, HB2.out, HO2.out, HX2.out, HBL2.out, _, _, _, rfl⟩, fun k q => q⟩, HKP.out⟩
 case done =>
  rintro X W ⟨v, h1, h2, h3, h4, a, m, c, rfl⟩ hK
  have hc1 := h1.cell
  have HO := hid h2
  have HB := hid h4
  have hsz := h4.size
  have HK := hid hK
  clear h1 h2 h3 h4 hbel hbx hK
  gi_wp2_with fail
  refine ⟨by simp, .inl ⟨_, _, rfl, run_takeDeferred HK.out, ?_⟩⟩
  exact ⟨_, results_tmp rfl _ _ _, _, rfl, owns_weak (owns_put HO.out HK.out rfl _) (Nat.le_succ _), HB.out.trans (belowK_b (w := w) (Nat.le_refl _) W W1.heap.size _ _ (by omega) HK.out rfl rfl)⟩
 case stop => exact fun _ _ _ _ q => q.elim
end

section
open Go.RowKit
abbrev valF (Bs : Nat) : Value := .func (.func 42) #[] #[.pointer (some ⟨Bs, 0, none⟩)]
def srtI (l : List Int) : List Int := l.mergeSort fun x y => decide (x ≤ y)
theorem scollect_any (Bs : Nat) (va : Value) (xs : List Int) (w : World) (hB : Bs < w.heap.size) (hc : w.cell? ⟨Bs, 0, none⟩ = some va) (hI : Ints w va xs) (hn : xs.length ≤ 100000) :
  Calls Try.prog 40 #[valF Bs] w fun e w' => ∃ v, e = .returned v ∧ IntO w' w.heap.size v xs ∧ Below w.heap.size w w' := by
 have CA := hid (sappend_any Bs va xs w hB hc hI hn)
 clear hB hc hI hn
 go_enter Try.func40, Try.ntmps40
 go_wp2_with fail
 refine CA.out.mono ?_
 rintro e w1 ⟨v, rfl, hO, hb⟩
 have HO := hid hO
 clear CA hO
 go_wp2_with fail
 go_ret
 exact ⟨_, rfl, HO.out, hb⟩
theorem ssorted_any (Bs : Nat) (va : Value) (xs : List Int) (w : World) (hB : Bs < w.heap.size) (hc : w.cell? ⟨Bs, 0, none⟩ = some va) (hI : Ints w va xs) (hn : xs.length ≤ 100000) :
  Calls Try.prog 31 #[valF Bs] w fun e w' => ∃ v, e = .returned v ∧ IntO w' w.heap.size v (srtI xs) ∧ Below w.heap.size w w' := by
 have CA := hid (scollect_any Bs va xs w hB hc hI hn)
 clear hB hc hI
 go_enter Try.func31, Try.ntmps31
 go_wp2_with fail
 refine CA.out.mono ?_
 rintro e w1 ⟨v, rfl, hO, hb⟩
 have CS := hid (isort_own w.heap.size v xs w1 hO (by omega))
 have HL := hid (fun b e => (World.ownsRow.lt hO b e).1)
 clear CA hO
 go_wp2_with fail
 refine CS.out.mono ?_
 rintro e w2 ⟨rfl, hO2, hg⟩
 have hb2 := hb.grown hg hb.size (fun j e => HL.out j e)
 have HO : Hid (IntO w2 w.heap.size v (srtI xs)) := hid (by
  unfold IntO srtI
  rw [List.length_mergeSort]
  exact hO2)
 clear CS hO2 hg hb
 go_wp2_with fail
 go_ret
 exact ⟨_, rfl, HO.out, hb2⟩
def wholeP (xs : List Int) (n : Nat) : Prop := xs = [] ∨ (xs.length = n ∧ ∀ k (hk : k < (srtI xs).length), (srtI xs)[k] = (k : Int))
instance (xs : List Int) (n : Nat) : Decidable (wholeP xs n) := by unfold wholeP; infer_instance
theorem rwhole_any (va : Value) (xs : List Int) (n : Nat) (w : World) (hI : Ints w va xs) (hn : xs.length ≤ 100000) :
  Calls Try.prog 14 #[va, .int .i64 (n : Int)] w fun e w' => e = .returned (.bool (decide (wholeP xs n))) ∧ Below w.heap.size w w' := by
 obtain ⟨ao, cap, rfl, hal⟩ := hI.form
 by_cases h0 : xs.length = 0
 ·have HV : Hid (true = decide (wholeP xs n)) := hid (by rw [decide_eq_true (.inl (List.eq_nil_of_length_eq_zero h0))])
  have hq : ((xs.length : Int) == 0) = true := by rw [h0]; rfl
  clear h0
  go_enter Try.func14, Try.ntmps14
  go_wp2_with fail
  go_ret
  exact ⟨ret_b HV.out, Below.refl _ _⟩
 have hne : xs ≠ [] := fun e => h0 (by rw [e]; rfl)
 have hq : ((xs.length : Int) == 0) = false := by simpa using h0
 by_cases h1 : xs.length = n
 ·have hq1 : ((xs.length : Int) != (n : Int)) = false := by simp; omega
  have HV : Hid (decide (∀ k (hk : k < (srtI xs).length), (srtI xs)[k] = (k : Int)) = decide (wholeP xs n)) := hid (by
   rw [Bool.eq_iff_iff]
   simp only [decide_eq_true_eq]
   unfold wholeP
   exact ⟨fun q => .inr ⟨h1, q⟩, fun q => (q.resolve_left hne).2⟩)
  have hsl : (srtI xs).length ≤ 100000 := by unfold srtI; rw [List.length_mergeSort]; exact hn
  have CV := hid (svalues_any ao xs.length cap w)
  have hbx := box_below w (.cells #[.slice ao xs.length cap] 24)
  have hc : (w.alloc (.cells #[.slice ao xs.length cap] 24)).cell? ⟨w.heap.size, 0, none⟩ = some (.slice ao xs.length cap) := (Boxed.new w 24 _).cell
  have CS := hid (ssorted_any w.heap.size _ xs _ (by simp) hc (hI.below hbx) hn)
  generalize srtI xs = S at *
  clear h0 hne hI hc h1
  go_enter Try.func14, Try.ntmps14
  go_wp2_with fail
  refine CV.out.mono ?_
  rintro e w1 ⟨rfl, rfl⟩
  clear CV
  go_wp2_with fail
  refine CS.out.mono ?_
  rintro e w2 ⟨v, rfl, hO, hb⟩
  have hb2 := hbx.trans (hb.mono hbx.size)
  have HI := hid hO.ints
  obtain ⟨so, sc, rfl, _⟩ := HI.out.form
  clear CS hO hb hbx
  go_wp2_with fail
  go_loopw [18] (fun i wr => ∃ k : Nat, k ≤ S.length ∧ i = .int .i64 (k : Int) ∧ Hid (∀ j (hj : j < S.length), j < k → S[j] = (j : Int)) ∧ wr = w2) (fun i _ => S.length - (intOf i).toNat)
  case atStart => exact ⟨0, by omega, rfl, hid (fun j _ h => absurd h (Nat.not_lt_zero _)), rfl⟩
  case round =>
   obtain ⟨k, hk, rfl, HN, rfl⟩ := hrel
   by_cases hlt : k < S.length
   ·have hki : (k : Int) < (S.length : Int) := by omega
    obtain ⟨g, o, hg, hcx⟩ := HI.out.at hlt
    cases hg
    have HY : Hid (S[k] = (k : Int) → ∀ j (hj : j < S.length), j < k + 1 → S[j] = (j : Int)) := hid (fun e j hj q => by
     rcases Nat.lt_or_ge j k with z | z
     ·exact HN.out j hj z
     ·obtain rfl : j = k := by omega
      exact e)
    have HF : Hid (S[k] ≠ (k : Int) → false = decide (∀ k (hk : k < S.length), S[k] = (k : Int))) := hid (fun e => by rw [decide_eq_false (fun q => e (q k hlt))])
    generalize S[k] = x at *
    by_cases hx : x = (k : Int)
    ·have HN2 := hid (HY.out hx)
     have hxq : (x != (k : Int)) = false := by simpa using hx
     clear HY HF HN hx
     go_wp2_with fail
     go_roundw
     case rel => exact ⟨k + 1, by omega, by go_num, HN2, trivial⟩
     case measure => simp [intOf]; omega
    ·have HF2 := hid (HF.out hx)
     have hxq : (x != (k : Int)) = true := by simpa using hx
     clear HY HF HN hx
     go_wp2_with fail
     go_ret
     exact ⟨ret_b (HF2.out.trans HV.out), hb2⟩
   ·obtain rfl : k = S.length := by omega
    have hki : ¬ (S.length : Int) < (S.length : Int) := by omega
    have HT : Hid (true = decide (∀ k (hk : k < S.length), S[k] = (k : Int))) := hid (by rw [decide_eq_true (fun k hk => HN.out k hk hk)])
    clear HN
    go_wp2_with fail
    go_ret
    exact ⟨ret_b (HT.out.trans HV.out), hb2⟩
 ·have hq1 : ((xs.length : Int) != (n : Int)) = true := by simp; omega
  have HV : Hid (false = decide (wholeP xs n)) := hid (by
   rw [decide_eq_false]
   rintro (q | q)
   ·exact hne q
   ·exact h1 q.1)
  clear h0 hne hI h1
  go_enter Try.func14, Try.ntmps14
  go_wp2_with fail
  go_ret
  exact ⟨ret_b HV.out, Below.refl _ _⟩
def risS (F : Int → Option Int) (S : List Int) : Prop := ∀ m (h : m + 1 < S.length), nmF F (S[m]'(Nat.lt_of_succ_lt h)) < nmF F S[m + 1]
instance (F : Int → Option Int) (S : List Int) : Decidable (risS F S) := decidable_of_iff (∀ m, m < S.length - 1 → ∀ h : m + 1 < S.length, nmF F (S[m]'(Nat.lt_of_succ_lt h)) < nmF F S[m + 1]) ⟨fun q m h => q m (by omega) h, fun q m _ h => q m h⟩
def risP (F : Int → Option Int) (L : List Int) : Prop := risS F (srtI L)
instance (F : Int → Option Int) (L : List Int) : Decidable (risP F L) := by unfold risP; infer_instance
theorem rrising_any (v va : Value) (F : Int → Option Int) (L : List Int) (w : World) (hN : NmI w v F) (hI : Ints w va L) (hl : ∀ x ∈ L, InI x) (hn : L.length ≤ 100000) :
  Calls Try.prog 35 #[v, va] w fun e w' => e = .returned (.bool (decide (risP F L))) ∧ Below w.heap.size w w' := by
 obtain ⟨ao, cap, rfl, hal⟩ := hI.form
 have HV : Hid (risP F L ↔ risS F (srtI L)) := hid Iff.rfl
 have HSI : Hid (∀ x ∈ srtI L, InI x) := hid (fun x hx => hl x ((List.mergeSort_perm _ _).mem_iff.1 hx))
 have hsl : (srtI L).length ≤ 100000 := by unfold srtI; rw [List.length_mergeSort]; exact hn
 have CV := hid (svalues_any ao L.length cap w)
 have hbx := box_below w (.cells #[.slice ao L.length cap] 24)
 have hc : (w.alloc (.cells #[.slice ao L.length cap] 24)).cell? ⟨w.heap.size, 0, none⟩ = some (.slice ao L.length cap) := (Boxed.new w 24 _).cell
 have CS := hid (ssorted_any w.heap.size _ L _ (by simp) hc (hI.below hbx) hn)
 have CN := hid (fun x wx (hx : Below w.heap.size w wx) (hi : InI x) => rname_any v F x wx (hN.below hx) hi)
 generalize srtI L = S at *
 clear hI hc hN hl
 go_enter Try.func35, Try.ntmps35
 go_wp2_with fail
 refine CV.out.mono ?_
 rintro e w1 ⟨rfl, rfl⟩
 clear CV
 go_wp2_with fail
 refine CS.out.mono ?_
 rintro e w2 ⟨v2, rfl, hO, hb⟩
 have hb2 := hid (hbx.trans (hb.mono hbx.size))
 have HI := hid hO.ints
 obtain ⟨so, sc, rfl, _⟩ := HI.out.form
 clear CS hO hb hbx
 go_wp2_with fail
 go_loopw [6] (fun i wr => ∃ k : Nat, 1 ≤ k ∧ (k ≤ S.length ∨ k = 1) ∧ i = .int .i64 (k : Int) ∧ Hid (∀ j (hj : j + 1 < S.length), j + 1 < k → nmF F (S[j]'(Nat.lt_of_succ_lt hj)) < nmF F S[j + 1]) ∧ Hid (Below w2.heap.size w2 wr)) (fun i _ => S.length - (intOf i).toNat)
 case atStart => exact ⟨1, Nat.le_refl _, .inr rfl, rfl, hid (fun j _ h2 => by omega), hid (Below.refl _ _)⟩
 case round =>
  obtain ⟨k, hk1, hk2, rfl, HN, HB⟩ := hrel
  by_cases hlt : k < S.length
  ·obtain ⟨m, rfl⟩ : ∃ m, k = m + 1 := ⟨k - 1, by omega⟩
   have hki : (m : Int) + 1 < (S.length : Int) := by omega
   have hkm : (m : Int) < (S.length : Int) := by omega
   have hwr : IntKind.i64.wrap (m : Int) = (m : Int) := by rw [IntKind.wrap_i64]; omega
   have hm0 : decide ((m : Int) < 0) = false := decide_eq_false (by omega)
   have hm1 : decide ((m : Int) + 1 < 0) = false := decide_eq_false (by omega)
   have hm2 : decide ((S.length : Int) ≤ (m : Int) + 1) = false := decide_eq_false (by omega)
   have hp0 : (0 : Int) ≤ (m : Int) + 1 := by omega
   have hp2 : ((m : Int) + 1).toNat = m + 1 := by omega
   have HI2 := HI.out.below HB.out
   obtain ⟨g, o, hg, hc1⟩ := HI2.at (k := m) (by omega)
   cases hg
   obtain ⟨g', o', hg', hc2⟩ := HI2.at hlt
   cases hg'
   have hi1 := HSI.out _ (List.getElem_mem (show m < S.length by omega))
   have hi2 := HSI.out _ (List.getElem_mem hlt)
   have HY : Hid (nmF F (S[m]'(Nat.lt_of_succ_lt hlt)) < nmF F S[m + 1] → ∀ j (hj : j + 1 < S.length), j + 1 < m + 1 + 1 → nmF F (S[j]'(Nat.lt_of_succ_lt hj)) < nmF F S[j + 1]) := hid (fun e j hj q2 => by
    rcases Nat.lt_or_ge j m with z | z
    ·exact HN.out j hj (by omega)
    ·obtain rfl : j = m := by omega
     exact e)
   have HF : Hid (¬ nmF F (S[m]'(Nat.lt_of_succ_lt hlt)) < nmF F S[m + 1] → false = decide (risP F L)) := hid (fun e => by rw [decide_eq_false (fun q => e ((HV.out.1 q) m hlt))])
   have CNQ := hid (fun x n (hi : InI x) => (CN.out x (wr.drewN n) (below_then hb2.out (below_drewN HB.out n)) hi).mono fun _ _ h => And.intro h.1 h.2.symm)
   generalize S[m + 1] = y at *
   generalize S[m] = x at *
   clear HI2 HN
   by_cases hlt2 : nmF F x < nmF F y
   ·have HN2 := hid (HY.out hlt2)
    have hd : decide (nmF F y ≤ nmF F x) = false := decide_eq_false (by omega)
    clear HY HF hlt2
    go_wp2_with fail
    go_quiet ((go_at_call 43; exact Calls.quiet_of_same (CNQ.out _ _ (by first | exact hi1 | exact hi2))))
    go_wp2_with fail
    go_roundw
    case rel => exact ⟨m + 1 + 1, by omega, .inl (by omega), by go_num, HN2, hid (below_drewN HB.out _)⟩
    case measure => simp [intOf]; omega
   ·have HF2 := hid (HF.out hlt2)
    have hd : decide (nmF F y ≤ nmF F x) = true := decide_eq_true (by omega)
    clear HY HF hlt2
    go_wp2_with fail
    go_quiet ((go_at_call 43; exact Calls.quiet_of_same (CNQ.out _ _ (by first | exact hi1 | exact hi2))))
    have hbz := below_then hb2.out (below_drewN HB.out nq)
    go_wp2_with fail
    go_ret
    exact ⟨ret_b HF2.out, hbz⟩
  ·have hki : ¬ (k : Int) < (S.length : Int) := by omega
   have HT : Hid (true = decide (risP F L)) := hid (by rw [decide_eq_true (HV.out.2 (fun j hj => HN.out j hj (by omega)))])
   have hbz := below_then hb2.out HB.out
   clear HN HV
   go_wp2_with fail
   go_ret
   exact ⟨ret_b HT.out, hbz⟩
end

section
open Go.RowKit
theorem NmI.form {w : World} {v : Value} {F : Int → Option Int} (h : NmI w v F) : ∃ m, v = .map m := by
 rcases h with ⟨rfl, _⟩ | ⟨b, n, c, rfl, _⟩ <;> exact ⟨_, rfl⟩
def InF (F : Int → Option Int) : Prop := ∀ x, InI x → InI (nmF F x)
structure NmA (w : World) (vK vS vV vT : Value) (FK FS FV FT : Int → Option Int) : Prop where
 k : NmI w vK FK
 s : NmI w vS FS
 v : NmI w vV FV
 t : NmI w vT FT
theorem NmA.below {w w' : World} {vK vS vV vT : Value} {FK FS FV FT : Int → Option Int} (h : NmA w vK vS vV vT FK FS FV FT) (hb : Below w.heap.size w w') : NmA w' vK vS vV vT FK FS FV FT := ⟨h.k.below hb, h.s.below hb, h.v.below hb, h.t.below hb⟩
def keepP (FK FS FV FT : Int → Option Int) (Lk Ls Lv Lt : List Int) : Prop := apartP FK Lk ∧ apartP FS Ls ∧ apartP FV Lv ∧ risP FT Lt
instance (FK FS FV FT : Int → Option Int) (Lk Ls Lv Lt : List Int) : Decidable (keepP FK FS FV FT Lk Ls Lv Lt) := by unfold keepP; infer_instance
theorem rnkeeps_any (vK vS vV vT vO pk ps pv pt : Value) (FK FS FV FT : Int → Option Int) (Lk Ls Lv Lt : List Int) (w : World) (hN : NmA w vK vS vV vT FK FS FV FT) (hO : ∃ a n c, vO = .slice a n c)
  (hk : Ints w pk Lk) (hs : Ints w ps Ls) (hv : Ints w pv Lv) (ht : Ints w pt Lt) (ik : ∀ x ∈ Lk, InI x) (is : ∀ x ∈ Ls, InI x) (iv : ∀ x ∈ Lv, InI x) (it : ∀ x ∈ Lt, InI x) (fk : InF FK) (fs : InF FS) (fv : InF FV)
  (nk : Lk.length ≤ 100000) (ns : Ls.length ≤ 100000) (nv : Lv.length ≤ 100000) (nt : Lt.length ≤ 100000) :
  Calls Try.prog 16 #[.agg #[vK, vS, vV, vT, vO], .agg #[pk, ps, pv, pt]] w fun e w' => e = .returned (.bool (decide (keepP FK FS FV FT Lk Ls Lv Lt))) ∧ Below w.heap.size w w' := by
 have CK := hid (fun wx (hx : Below w.heap.size w wx) => rapart_any vK pk FK Lk wx (hN.k.below hx) (hk.below hx) (fun x hx => ⟨ik x hx, fk x (ik x hx)⟩) nk)
 have CS := hid (fun wx (hx : Below w.heap.size w wx) => rapart_any vS ps FS Ls wx (hN.s.below hx) (hs.below hx) (fun x hx => ⟨is x hx, fs x (is x hx)⟩) ns)
 have CV := hid (fun wx (hx : Below w.heap.size w wx) => rapart_any vV pv FV Lv wx (hN.v.below hx) (hv.below hx) (fun x hx => ⟨iv x hx, fv x (iv x hx)⟩) nv)
 have CT := hid (fun wx (hx : Below w.heap.size w wx) => rrising_any vT pt FT Lt wx (hN.t.below hx) (ht.below hx) it nt)
 obtain ⟨mK, rfl⟩ := hN.k.form
 obtain ⟨mS, rfl⟩ := hN.s.form
 obtain ⟨mV, rfl⟩ := hN.v.form
 obtain ⟨mT, rfl⟩ := hN.t.form
 obtain ⟨oa, on, oc, rfl⟩ := hO
 obtain ⟨ka, kc, rfl, _⟩ := hk.form
 obtain ⟨sa, sc, rfl, _⟩ := hs.form
 obtain ⟨va, vc, rfl, _⟩ := hv.form
 obtain ⟨ta, tc, rfl, _⟩ := ht.form
 have HQ : Hid (decide (keepP FK FS FV FT Lk Ls Lv Lt) = (decide (apartP FK Lk) && (decide (apartP FS Ls) && (decide (apartP FV Lv) && decide (risP FT Lt))))) := hid (by
  rw [Bool.eq_iff_iff]
  simp only [Bool.and_eq_true, decide_eq_true_eq]
  exact Iff.rfl)
 rw [HQ.out]
 obtain ⟨q1, e1⟩ : ∃ q, decide (apartP FK Lk) = q := ⟨_, rfl⟩
 obtain ⟨q2, e2⟩ : ∃ q, decide (apartP FS Ls) = q := ⟨_, rfl⟩
 obtain ⟨q3, e3⟩ : ∃ q, decide (apartP FV Lv) = q := ⟨_, rfl⟩
 obtain ⟨q4, e4⟩ : ∃ q, decide (risP FT Lt) = q := ⟨_, rfl⟩
 rw [e1, e2, e3, e4]
 rw [e1] at CK
 rw [e2] at CS
 rw [e3] at CV
 rw [e4] at CT
 clear HQ e1 e2 e3 e4 hN hk hs hv ht ik is iv it fk fs fv
 have hb1 := box_below w (.cells #[.map mK, .map mS, .map mV, .map mT, .slice oa on oc] 34)
 have hx1 := BoxN.new w 34 #[.map mK, .map mS, .map mV, .map mT, .slice oa on oc]
 have hs1 : (w.alloc (.cells #[.map mK, .map mS, .map mV, .map mT, .slice oa on oc] 34)).heap.size = w.heap.size + 1 := by simp
 have hx2 := BoxN.new (w.alloc (.cells #[.map mK, .map mS, .map mV, .map mT, .slice oa on oc] 34)) 53 #[.slice ka Lk.length kc, .slice sa Ls.length sc, .slice va Lv.length vc, .slice ta Lt.length tc]
 rw [hs1] at hx2
 have hb2 := hb1.alloc hb1.size (.cells #[.slice ka Lk.length kc, .slice sa Ls.length sc, .slice va Lv.length vc, .slice ta Lt.length tc] 53)
 have hx1 := hx1.below (box_below _ (.cells #[.slice ka Lk.length kc, .slice sa Ls.length sc, .slice va Lv.length vc, .slice ta Lt.length tc] 53))
 clear hs1
 go_enter Try.func16, Try.ntmps16
 go_upto_region 1 with fail
 generalize (w.alloc (.cells #[.map mK, .map mS, .map mV, .map mT, .slice oa on oc] 34)).alloc (.cells #[.slice ka Lk.length kc, .slice sa Ls.length sc, .slice va Lv.length vc, .slice ta Lt.length tc] 53) = w2 at *
 have c0 := hx1.cell (i := 0) rfl
 have d0 := hx2.cell (i := 0) rfl
 have HX1 := hid hx1
 have HX2 := hid hx2
 have CK1 := hid (CK.out _ hb2)
 clear hb1 hx1 hx2 CK
 go_wp2_with fail
 refine CK1.out.mono ?_
 rintro e w3 ⟨rfl, h3⟩
 have hb3 := below_then hb2 h3
 cases q1 with
 | false =>
  go_wp2_with fail
  go_ret
  exact ⟨rfl, hb3⟩
 | true =>
 have HX1 := hid (HX1.out.below h3)
 have HX2 := hid (HX2.out.below h3)
 have c1 := HX1.out.cell (i := 1) rfl
 have d1 := HX2.out.cell (i := 1) rfl
 have CS1 := hid (CS.out _ hb3)
 clear c0 d0 CK1 CS h3 hb2
 go_wp2_with fail
 refine CS1.out.mono ?_
 rintro e w4 ⟨rfl, h4⟩
 have hb4 := below_then hb3 h4
 cases q2 with
 | false =>
  go_wp2_with fail
  go_ret
  exact ⟨rfl, hb4⟩
 | true =>
 have HX1 := hid (HX1.out.below h4)
 have HX2 := hid (HX2.out.below h4)
 have c2 := HX1.out.cell (i := 2) rfl
 have d2 := HX2.out.cell (i := 2) rfl
 have CV1 := hid (CV.out _ hb4)
 clear c1 d1 CS1 CV h4 hb3
 go_wp2_with fail
 refine CV1.out.mono ?_
 rintro e w5 ⟨rfl, h5⟩
 have hb5 := below_then hb4 h5
 cases q3 with
 | false =>
  go_wp2_with fail
  go_ret
  exact ⟨rfl, hb5⟩
 | true =>
 have HX1 := hid (HX1.out.below h5)
 have HX2 := hid (HX2.out.below h5)
 have c3 := HX1.out.cell (i := 3) rfl
 have d3 := HX2.out.cell (i := 3) rfl
 have CT1 := hid (CT.out _ hb5)
 clear c2 d2 CV1 CT h5 hb4
 go_wp2_with fail
 refine CT1.out.mono ?_
 rintro e w6 ⟨rfl, h6⟩
 have hb6 := below_then hb5 h6
 go_wp2_with fail
 go_ret
 exact ⟨by simp, hb6⟩
end

end Go.Proofs.Ytipmfhgdeghmjaa
