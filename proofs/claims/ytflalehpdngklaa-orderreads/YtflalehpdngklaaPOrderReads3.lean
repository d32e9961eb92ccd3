/- Walks and plain facts that the proof of the statement OrderReads uses, joined: TxnJ TxnK HisP OrdR OrdS OrdX RelP RelG RelH RelI RelN RelJ RelK RelL RelO SetH SetI RelQ OrdO HisQ HisR OrdV OrdZ OrdAJ OrdAB OrdAH. Conditions: each theorem's own. -/
import Derived.Deep.RegionHeld3
import Derived.Deep.CutRange
import Derived.Deep.RegionWith
import Derived.Deep.MidRow
import Derived.Deep.RegionHeld
import Derived.Test.YtflalehpdngklaaPOrderReads0
import Derived.Test.YtflalehpdngklaaPOrderReads1
import Derived.Test.YtflalehpdngklaaPOrderReads2
namespace Go.Proofs.Ytflalehpdngklaa
set_option maxRecDepth 100000
open Go.RowKit

theorem rdTo_none {l : List OpV} {k j : Nat} (h : lastO (l.take j) k = none) : rdTo l k j = none := by
  have := firstO_none (l := l.take j) (x := (k : Int))
  rw [h] at this
  unfold rdTo rdK
  rw [show firstO (l.take j) k = none from by simpa using this]; rfl
theorem rdTo_all (l : List OpV) (k : Nat) : rdTo l k l.length = rdK l k := by unfold rdTo; rw [List.take_length]
theorem Own.lit0 (w : World) : Own (w.alloc (.cells #[] 51)) w.heap.size (.slice (some ⟨w.heap.size, 0, none⟩) 0 0) [] := World.ownsRow_lit (base := w.heap.size) (size := 3) w #[] 0 (Nat.le_refl _) (by decide) rfl
set_option maxHeartbeats 8000000 in
theorem rreads_any (va : Value) (l : List OpV) (w : World) (ha : Ops w va l) :
    Calls Try.prog 32 #[va] w fun e w' => ∃ v, e = .returned v ∧ Own w' w.heap.size v (refReads l) ∧ Below w.heap.size w w' := by
  obtain ⟨i0, hi, hz0, hz1, hz2⟩ := info_parts infoOp
  obtain ⟨ao, cap, rfl, hal⟩ := ha.form
  have hb0 := (Below.refl w.heap.size w).alloc (Nat.le_refl _) (.cells #[] 51)
  have hO0 := Own.lit0 w
  go_enter Try.func32, Try.ntmps32
  go_wp2_with fail
  go_loopw [3, 4] (fun v i wr => ∃ k : Nat, k ≤ 64 ∧ i = .int .i64 k ∧ Own wr w.heap.size v (upTo (rdK l) k) ∧ Below w.heap.size w wr) (fun _ i _ => 64 - (intOf i).toNat)
  case atStart => exact ⟨0, by omega, rfl, hO0, hb0⟩
  case round =>
    obtain ⟨k, hk, rfl, hO, hb⟩ := hrel
    clear hb0 hO0
    by_cases hlt : k < 64
    · have hki : (k : Int) < 64 := by omega
      have hlenk := upTo_len (rdK l) k
      go_wp2_with fail
      go_loopw [3, 5] (fun v i wx => ∃ j : Nat, j ≤ l.length ∧ i = .int .i64 j ∧ Own wx w.heap.size v (upTo (rdK l) k ++ (rdTo l k j).toList) ∧ Below w.heap.size w wx) (fun _ i _ => l.length - (intOf i).toNat)
      case atStart => exact ⟨0, by omega, rfl, by simpa [rdTo, rdK, firstO] using hO, hb⟩
      case round =>
        obtain ⟨j, hj, rfl, hO2, hb2⟩ := hrel
        have hszx := hb2.size
        clear hO hb
        by_cases hltj : j < l.length
        · have hkj : (j : Int) < (l.length : Int) := by omega
          have CB := Lib.hid (before_any _ l j (k : Int) wr (ha.below hb2) hj)
          have HS := Lib.hid (rdTo_succ (k := k) hltj)
          have HN := Lib.hid (fun h => rdTo_none (l := l) (k := k) (j := j) h)
          have HAT := Lib.hid (fun (wy : World) (hby : Below w.heap.size w wy) => (ha.below hby).at hltj)
          generalize l[j] = x at *
          obtain ⟨xw, xk, xv⟩ := x
          generalize lastO (l.take j) (k : Int) = q at *
          go_wp2_with fail
          refine (CB.out).mono ?_
          rintro e w1 ⟨rfl, hb3⟩
          have hb4 := below_then hb2 hb3
          have hO3 := hO2.below hb3
          clear CB hO2 hb3 hb2
          have hq : Hid (q = none ↔ q.isSome = false) := Lib.hid (by cases q <;> simp)
          generalize q.isSome = qb at *
          simp only [eO]
          generalize q.getD opZ = z at *
          obtain ⟨zw, zk, zv⟩ := z
          simp only [OpV.v]
          have hb5 := hb4.alloc hb4.size (.cells #[.bool zw, .int .i64 zk, .int .i64 zv] 51)
          have hO4 : Own _ _ _ _ := World.ownsRow.alloc hO3 (.cells #[.bool zw, .int .i64 zk, .int .i64 zv] 51)
          obtain ⟨_, _, hao, c0, c1, c2⟩ := HAT.out _ hb5
          cases hao
          try simp only at c0 c1 c2
          have hsz1 := hb4.size
          clear hb4 hO3
          by_cases d1 : xk = k
          · cases xw
            · cases qb
              · have hqn := Lib.hid (hq.out.2 rfl)
                have HS2 : Hid (rdTo l k (j + 1) = some ⟨false, xk, xv⟩) := Lib.hid (by rw [HS.out, if_pos ⟨d1, rfl, hqn.out⟩])
                have HNN := Lib.hid (HN.out hqn.out)
                subst d1
                have hlit := opLit (w1.alloc (.cells #[.bool zw, .int .i64 zk, .int .i64 zv] 51)) 0 ⟨false, (k : Int), xv⟩ (Nat.zero_le _)
                rw [show (w1.alloc (.cells #[.bool zw, .int .i64 zk, .int .i64 zv] 51)).heap.size = w1.heap.size + 1 from by simp] at hlit
                rw [HNN.out] at hO4
                simp only [Option.toList_none, List.append_nil] at hO4
                clear HS HN HNN hq hqn HAT
                go_wp2_with (first | (at_builtin; refine wpList_append_row rfl _ _ 39 rfl w.heap.size 51 i0 (.agg #[.bool false, .int .i64 0, .int .i64 0]) 3 24 Try.underlying39 hi hz0 hz1 hz2 rfl (by decide) _ _ _ rfl (World.ownsRow.alloc hO4 _) _ 1 _ rfl (Row.of_owns hlit) ?d1 ?d2 ?d3 ?d4 ?_) | go_in)
                case d1 => exact opV_one _
                case d2 => unfold maxLen; omega
                case d3 => omega
                case d4 => first | omega | (simp; omega)
                intro v6 w6 hown6 hg6
                clear hlit
                have hO5 : Own _ _ _ (upTo (rdK l) k ++ [⟨false, (k : Int), xv⟩]) := ⟨by rw [opV_len], by rw [opV_app]; simpa using hown6.2⟩
                have hb6 := below_own (hb5.alloc hb5.size (.cells #[.bool false, .int .i64 k, .int .i64 xv] 51)) (World.ownsRow.alloc hO4 (.cells #[.bool false, .int .i64 k, .int .i64 xv] 51)) (Nat.le_refl _) hg6
                clear hown6 hg6 hb5 hO4
                go_wp2_with fail
                go_roundw
                case rel => exact ⟨j + 1, by omega, by go_num, by rw [HS2.out]; exact hO5, hb6⟩
                case measure => simp [intOf]; omega
              · have HS2 : Hid (rdTo l k (j + 1) = rdTo l k j) := Lib.hid (by rw [HS.out, if_neg (fun h => by have := hq.out.1 h.2.2; cases this)])
                subst d1
                clear HS HN hq HAT
                go_wp2_with fail
                go_roundw
                case rel => exact ⟨j + 1, by omega, by go_num, by rw [HS2.out]; exact hO4, hb5⟩
                case measure => simp [intOf]; omega
            · have HS2 : Hid (rdTo l k (j + 1) = rdTo l k j) := Lib.hid (by rw [HS.out, if_neg (fun h => by have := h.2.1; cases this)])
              subst d1
              clear HS HN hq HAT
              go_wp2_with fail
              go_roundw
              case rel => exact ⟨j + 1, by omega, by go_num, by rw [HS2.out]; exact hO4, hb5⟩
              case measure => simp [intOf]; omega
          · have HS2 : Hid (rdTo l k (j + 1) = rdTo l k j) := Lib.hid (by rw [HS.out, if_neg (fun h => d1 h.1)])
            have d1' : (xk == (k : Int)) = false := by simpa using d1
            clear HS HN hq HAT d1
            go_wp2_with fail
            go_roundw
            case rel => exact ⟨j + 1, by omega, by go_num, by rw [HS2.out]; exact hO4, hb5⟩
            case measure => simp [intOf]; omega
        · have hj2 : j = l.length := by omega
          subst hj2
          have HU := Lib.hid (upTo_succ (rdK l) k)
          rw [rdTo_all] at hO2
          rw [← HU.out] at hO2
          go_wp2_with fail
          go_roundw
          case rel => exact ⟨k + 1, by omega, by go_num, hO2, hb2⟩
          case measure => simp [intOf]; omega
    · have hk2 : k = 64 := by omega
      subst hk2
      go_wp2_with fail
      go_ret
      exact ⟨_, rfl, hO, hb⟩
end Go.Proofs.Ytflalehpdngklaa

namespace Go.Proofs.Ytflalehpdngklaa
set_option maxRecDepth 100000
open Go.RowKit

/-- The place of the last write so far. -/
def LastAt (l : List OpV) (k j : Nat) (i : Int) : Prop := (i = -1 ∧ lastW (l.take j) k = none) ∨ ∃ p : Nat, ∃ h : p < l.length, i = p ∧ lastW (l.take j) k = some l[p]
theorem LastAt.yes {l : List OpV} {k j : Nat} (h : j < l.length) (h1 : l[j].key = k) (h2 : l[j].wr = true) : LastAt l k (j + 1) j :=
  .inr ⟨j, h, rfl, by rw [take_snoc l j h, lastW_snoc, if_pos h2, h1, putF_same]⟩
theorem LastAt.no {l : List OpV} {k j : Nat} {i : Int} (hL : LastAt l k j i) (h : j < l.length) (h1 : ¬ (l[j].key = k ∧ l[j].wr = true)) : LastAt l k (j + 1) i := by
  have e : lastW (l.take (j + 1)) k = lastW (l.take j) k := by
    rw [take_snoc l j h, lastW_snoc]
    cases hw : l[j].wr
    · rfl
    · simp only [if_true]; rw [putF_other]; exact fun e => h1 ⟨e.symm, hw⟩
  unfold LastAt at *
  rw [e]; exact hL
set_option maxHeartbeats 8000000 in
theorem rwrites_any (va : Value) (l : List OpV) (w : World) (ha : Ops w va l) :
    Calls Try.prog 10 #[va] w fun e w' => ∃ v, e = .returned v ∧ Own w' w.heap.size v (refWrites l) ∧ Below w.heap.size w w' := by
  obtain ⟨i0, hi, hz0, hz1, hz2⟩ := info_parts infoOp
  obtain ⟨ao, cap, rfl, hal⟩ := ha.form
  have hb0 := (Below.refl w.heap.size w).alloc (Nat.le_refl _) (.cells #[] 51)
  have hO0 := Own.lit0 w
  go_enter Try.func10, Try.ntmps10
  go_wp2_with fail
  go_loopw [3, 4] (fun v i wr => ∃ k : Nat, k ≤ 64 ∧ i = .int .i64 k ∧ Own wr w.heap.size v (upTo (wrK l) k) ∧ Below w.heap.size w wr) (fun _ i _ => 64 - (intOf i).toNat)
  case atStart => exact ⟨0, by omega, rfl, hO0, hb0⟩
  case round =>
    obtain ⟨k, hk, rfl, hO, hb⟩ := hrel
    clear hb0 hO0
    have hszr := hb.size
    by_cases hlt : k < 64
    · have hki : (k : Int) < 64 := by omega
      have hlenk := upTo_len (wrK l) k
      go_wp2_with fail
      go_loopw [5, 6] (fun v i wx => ∃ (j : Nat) (p : Int), j ≤ l.length ∧ i = .int .i64 j ∧ v = .int .i64 p ∧ LastAt l k j p ∧ wr = wx) (fun _ i _ => l.length - (intOf i).toNat)
      case atStart => exact ⟨0, -1, by omega, rfl, rfl, .inl ⟨rfl, rfl⟩, rfl⟩
      case round =>
        obtain ⟨j, p, hj, rfl, rfl, hL, rfl⟩ := hrel
        by_cases hltj : j < l.length
        · have hkj : (j : Int) < (l.length : Int) := by omega
          obtain ⟨g, o, hao, c0, c1, c2⟩ := (ha.below hb).at hltj
          cases hao
          have HY := Lib.hid (fun h1 h2 => LastAt.yes (k := k) hltj h1 h2)
          have HN := Lib.hid (fun h => hL.no hltj h)
          generalize l[j] = x at *
          obtain ⟨xw, xk, xv⟩ := x
          try simp only at c0 c1 c2
          clear hL
          by_cases d1 : xk = k
          · cases xw
            · have H := Lib.hid (HN.out (fun h => by cases h.2))
              subst d1
              clear HY HN
              go_wp2_with fail
              go_roundw
              case rel => exact ⟨j + 1, p, by omega, by go_num, rfl, H.out, by first | rfl | trivial⟩
              case measure => simp [intOf]; omega
            · have H := Lib.hid (HY.out d1 rfl)
              subst d1
              clear HY HN
              go_wp2_with fail
              go_roundw
              case rel => exact ⟨j + 1, j, by omega, by go_num, rfl, H.out, by first | rfl | trivial⟩
              case measure => simp [intOf]; omega
          · have H := Lib.hid (HN.out (fun h => d1 h.1))
            have d1' : (xk == (k : Int)) = false := by simpa using d1
            clear HY HN d1
            go_wp2_with fail
            go_roundw
            case rel => exact ⟨j + 1, p, by omega, by go_num, rfl, H.out, by first | rfl | trivial⟩
            case measure => simp [intOf]; omega
        · have hj2 : j = l.length := by omega
          subst hj2
          have HU := Lib.hid (upTo_succ (wrK l) k)
          rcases hL with ⟨rfl, hN⟩ | ⟨q, hq, rfl, hS⟩
          · rw [List.take_length] at hN
            have H : Hid (upTo (wrK l) (k + 1) = upTo (wrK l) k) := Lib.hid (by rw [HU.out, show wrK l k = none from hN]; simp)
            clear HU hN
            go_wp2_with fail
            go_roundw
            case rel => exact ⟨k + 1, by omega, by go_num, by rw [H.out]; exact hO, hb⟩
            case measure => simp [intOf]; omega
          · rw [List.take_length] at hS
            have H : Hid (upTo (wrK l) (k + 1) = upTo (wrK l) k ++ [l[q]]) := Lib.hid (by rw [HU.out, show wrK l k = some l[q] from hS]; simp)
            have hqi : (q : Int) < (l.length : Int) := by omega
            obtain ⟨g, o, hao, c0, c1, c2⟩ := (ha.below hb).at hq
            cases hao
            clear HU hS
            generalize l[q] = x at *
            obtain ⟨xw, xk, xv⟩ := x
            try simp only at c0 c1 c2
            have hlit := opLit wr 0 ⟨xw, xk, xv⟩ (Nat.zero_le _)
            go_wp2_with (first | (at_builtin; refine wpList_append_row rfl _ _ 39 rfl w.heap.size 51 i0 (.agg #[.bool false, .int .i64 0, .int .i64 0]) 3 24 Try.underlying39 hi hz0 hz1 hz2 rfl (by decide) _ _ _ rfl (World.ownsRow.alloc hO _) _ 1 _ rfl (Row.of_owns hlit) ?d1 ?d2 ?d3 ?d4 ?_) | go_in)
            case d1 => exact opV_one _
            case d2 => unfold maxLen; omega
            case d3 => omega
            case d4 => first | omega | (simp; omega)
            intro v6 w6 hown6 hg6
            clear hlit
            have hO5 : Own _ _ _ (upTo (wrK l) k ++ [⟨xw, xk, xv⟩]) := ⟨by rw [opV_len], by rw [opV_app]; simpa using hown6.2⟩
            have hb6 := below_own (hb.alloc hb.size (.cells #[.bool xw, .int .i64 xk, .int .i64 xv] 51)) (World.ownsRow.alloc hO (.cells #[.bool xw, .int .i64 xk, .int .i64 xv] 51)) (Nat.le_refl _) hg6
            clear hown6 hg6 hb hO
            go_wp2_with fail
            go_roundw
            case rel => exact ⟨k + 1, by omega, by go_num, by rw [H.out]; exact hO5, hb6⟩
            case measure => simp [intOf]; omega
    · have hk2 : k = 64 := by omega
      subst hk2
      go_wp2_with fail
      go_ret
      exact ⟨_, rfl, hO, hb⟩
end Go.Proofs.Ytflalehpdngklaa

namespace Go.Proofs.Ytflalehpdngklaa
set_option maxRecDepth 100000
open Go.RowKit

/-- What a transaction leaves at a key. -/
def vOf (l : List OpV) (k : Int) : Int := (((refWrites l).find? fun o => o.key == k).map (·.val)).getD 0
theorem find_no {R : List OpV} {k : Int} {j : Nat} (hn : ∀ o ∈ R.take j, o.key ≠ k) (hj : j < R.length) (hk : R[j].key = k) : R.find? (fun o => o.key == k) = some R[j] := by
  rw [show R.find? (fun o => o.key == k) = (R.take j ++ R.drop j).find? (fun o => o.key == k) from by rw [List.take_append_drop], List.find?_append]
  have h2 : (R.take j).find? (fun o => o.key == k) = none := List.find?_eq_none.2 (fun o ho => by simpa using hn o ho)
  rw [h2, Option.none_or, List.drop_eq_getElem_cons hj, List.find?_cons_of_pos (by simpa using hk)]
set_option maxHeartbeats 8000000 in
theorem rvalue_any (va : Value) (l : List OpV) (k : Int) (w : World) (ha : Ops w va l) :
    Calls Try.prog 52 #[va, .int .i64 k] w fun e w' => e = .returned (.int .i64 (vOf l k)) ∧ Below w.heap.size w w' := by
  go_enter Try.func52, Try.ntmps52
  go_wp2_with fail
  refine (rwrites_any va l w ha).mono ?_
  rintro e w1 ⟨v, rfl, hO, hb⟩
  have hO := hO.base (base' := 0) (Nat.zero_le _)
  have HV : Hid (∀ n, (∃ (j : Nat) (hj : j < (refWrites l).length), (∀ o ∈ (refWrites l).take j, o.key ≠ k) ∧ (refWrites l)[j].key = k ∧ n = (refWrites l)[j].val) → n = vOf l k) := Lib.hid (fun n ⟨j, hj, hn, hk, hv⟩ => by
    unfold vOf; rw [find_no hn hj hk, hv]; rfl)
  have HN : Hid ((∀ o ∈ refWrites l, o.key ≠ k) → (0 : Int) = vOf l k) := Lib.hid (fun hn => by
    unfold vOf; rw [List.find?_eq_none.2 (fun o ho => by simpa using hn o ho)]; rfl)
  generalize refWrites l = R at *
  obtain ⟨ao, cap, rfl, hl⟩ := hO.ops.form
  have HO := Lib.hid hO.ops
  clear hO ha
  go_wp2_with fail
  go_loopw [6] (fun i wr => ∃ j : Nat, j ≤ R.length ∧ i = .int .i64 j ∧ (∀ o ∈ R.take j, o.key ≠ k) ∧ w1 = wr) (fun i _ => R.length - (intOf i).toNat)
  case atStart => exact ⟨0, by omega, rfl, by simp, rfl⟩
  case round =>
    obtain ⟨j, hj, rfl, hnk, rfl⟩ := hrel
    have HNK := Lib.hid hnk
    clear hnk
    by_cases hlt : j < R.length
    · have hki : (j : Int) < (R.length : Int) := by omega
      obtain ⟨g, o, hao, c0, c1, c2⟩ := HO.out.at hlt
      cases hao
      have HTS := Lib.hid (List.take_succ_eq_append_getElem hlt)
      have HY : Hid (R[j].key = k → R[j].val = vOf l k) := Lib.hid (fun hk => HV.out _ ⟨j, hlt, HNK.out, hk, rfl⟩)
      generalize R[j] = x at *
      obtain ⟨xw, xk, xv⟩ := x
      simp only at c0 c1 c2 HY
      by_cases d : xk = k
      · have H := Lib.hid (HY.out d)
        subst d
        clear HY HV HN
        go_wp2_with fail
        go_ret
        exact ⟨ret_int H.out, hb⟩
      · have d' : (xk == k) = false := by simpa using d
        have HD := Lib.hid d
        clear HY d
        go_wp2_with fail
        go_roundw
        case rel => exact ⟨j + 1, by omega, by go_num, by rw [HTS.out]; intro o ho; rcases List.mem_append.1 ho with h1 | h1; exact HNK.out o h1; simp at h1; subst h1; exact HD.out, by first | rfl | trivial⟩
        case measure => simp [intOf]; omega
    · have hjl : j = R.length := by omega
      subst hjl
      have H : Hid ((0 : Int) = vOf l k) := Lib.hid (HN.out (by have := HNK.out; rw [List.take_length] at this; exact this))
      clear HV HN
      go_wp2_with fail
      go_ret
      exact ⟨ret_int H.out, hb⟩
set_option maxHeartbeats 4000000 in
theorem rlast_any (s b c : Int) (v : Value) (l : List OpV) (k x : Int) (w : World) (ha : Ops w v l) :
    Calls Try.prog 34 #[.agg #[.int .i64 s, .int .i64 b, .int .i64 c, v], .int .i64 k, .int .i64 x] w fun e w' => e = .returned (.bool (vOf l k == x)) ∧ Below w.heap.size w w' := by
  obtain ⟨ao, cap, rfl, hl⟩ := ha.form
  have hb1 := box_below w (.cells #[.int .i64 s, .int .i64 b, .int .i64 c, .slice ao l.length cap] 41)
  have ha1 := ha.below hb1
  have CV := Lib.hid (rvalue_any _ l k _ ha1)
  clear ha ha1
  generalize vOf l k = n at *
  go_enter Try.func34, Try.ntmps34
  go_wp2_with fail
  refine (CV.out).mono ?_
  rintro e w2 ⟨rfl, hb2⟩
  have hb2 := below_then hb1 hb2
  go_wp2_with fail
  go_ret
  exact ⟨rfl, hb2⟩
theorem wv_cons (a : OpV) (l : List OpV) : wv (a :: l) = (if a.wr then [a.val] else []) ++ wv l := by
  unfold wv; cases h : a.wr <;> simp [h]
theorem addF_cons (i : Int) (F : Int → Option WV) (a : OpV) (l : List OpV) : addF i F (a :: l) = addF i (addOne i F a) l := rfl
theorem finF_cons (i : Int) (F : Int → Option WV) (a : OpV) (l : List OpV) : finF i F (a :: l) = finF i (putF F a.val ⟨i, a.key, true⟩) l := rfl
theorem addF_out (i : Int) {x : Int} : ∀ (l : List OpV) (F : Int → Option WV), ¬ x ∈ wv l → addF i F l x = F x
  | [], _, _ => rfl
  | a :: l, F, h => by
    rw [wv_cons] at h
    rw [addF_cons, addF_out i l _ (fun hh => h (List.mem_append_right _ hh))]
    unfold addOne
    cases hw : a.wr
    · rfl
    · simp only [if_true]
      exact putF_other _ _ (fun e => h (by rw [hw, e]; simp))
theorem addF_in (i : Int) {o : OpV} (ho : o.wr = true) : ∀ (l : List OpV) (F : Int → Option WV), (wv l).Nodup → o ∈ l → addF i F l o.val = some ⟨i, o.key, false⟩
  | a :: l, F, hn, hin => by
    rw [wv_cons] at hn
    rw [addF_cons]
    rcases List.mem_cons.1 hin with rfl | h
    · rw [ho] at hn
      simp only [if_true, List.singleton_append, List.nodup_cons] at hn
      rw [addF_out i l _ hn.1]
      unfold addOne
      rw [ho]
      simp only [if_true]
      exact putF_same _ _ _
    · exact addF_in i ho l _ (List.nodup_append.1 hn).2.1 h
theorem finF_out (i : Int) {x : Int} : ∀ (R : List OpV) (F : Int → Option WV), (∀ o ∈ R, o.val ≠ x) → finF i F R x = F x
  | [], _, _ => rfl
  | a :: R, F, h => by
    rw [finF_cons, finF_out i R _ (fun o ho => h o (List.mem_cons_of_mem _ ho))]
    exact putF_other _ _ (fun e => h a List.mem_cons_self e.symm)
theorem finF_in (i : Int) {x k : Int} : ∀ (R : List OpV) (F : Int → Option WV), (∀ o ∈ R, o.val = x → o.key = k) → (∃ o ∈ R, o.val = x) → finF i F R x = some ⟨i, k, true⟩
  | a :: R, F, h, hex => by
    rw [finF_cons]
    by_cases hr : ∃ o ∈ R, o.val = x
    · exact finF_in i R _ (fun o ho => h o (List.mem_cons_of_mem _ ho)) hr
    · have hn : ∀ o ∈ R, o.val ≠ x := fun o ho e => hr ⟨o, ho, e⟩
      obtain ⟨o, ho, e⟩ := hex
      rcases List.mem_cons.1 ho with rfl | h1
      · rw [finF_out i R _ hn, e, putF_same, h _ List.mem_cons_self e]
      · exact (hn o h1 e).elim
theorem wv_inj {l : List OpV} (hn : (wv l).Nodup) {o p : OpV} (ho : o ∈ l) (hp : p ∈ l) (wo : o.wr = true) (wp : p.wr = true) (e : o.val = p.val) : o.key = p.key := by
  have h1 := addF_in 0 wo l (fun _ => none) hn ho
  have h2 := addF_in 0 wp l (fun _ => none) hn hp
  rw [e, h2] at h1
  have := Option.some.inj h1
  exact (congrArg WV.key this).symm
theorem lastW_some (l : List OpV) {o : OpV} (wo : o.wr = true) : ∀ k, k ≤ l.length → o ∈ l.take k → (lastW (l.take k) o.key).isSome = true
  | 0, _, h => by simp at h
  | k + 1, hk, h => by
    have hlt : k < l.length := by omega
    rw [take_snoc l k hlt] at h ⊢
    rw [lastW_snoc]
    cases hw : l[k].wr with
    | false =>
      simp only [Bool.false_eq_true, if_false]
      rcases List.mem_append.1 h with h1 | h1
      · exact lastW_some l wo k (by omega) h1
      · simp at h1; rw [h1, hw] at wo; cases wo
    | true =>
      simp only [if_true]
      by_cases e : o.key = l[k].key
      · rw [e, putF_same]; rfl
      · rw [putF_other _ _ e]
        rcases List.mem_append.1 h with h1 | h1
        · exact lastW_some l wo k (by omega) h1
        · simp at h1; rw [h1] at e; exact (e rfl).elim
/-- What one transaction's turn lays at the value of one of its writes. -/
theorem turn_at (i : Int) (F : Int → Option WV) {l : List OpV} (hk : keysIn l) (hn : (wv l).Nodup) {o : OpV} (ho : o ∈ l) (wo : o.wr = true) :
    finF i (addF i F l) (refWrites l) o.val = some ⟨i, o.key, vOf l o.key == o.val⟩ := by
  have hR := refWrites_rise hk
  have hmem : ∀ p ∈ refWrites l, p ∈ l ∧ p.wr = true := fun p hp => refWrites_mem hp
  have huq : ∀ p ∈ refWrites l, ∀ q ∈ refWrites l, p.key = q.key → p = q := fun p hp q hq e => by
    have h1 := ((hR.2 p).1 hp).1
    have h2 := ((hR.2 q).1 hq).1
    rw [e, h2] at h1
    exact (Option.some.inj h1).symm
  have hex : ∃ p ∈ refWrites l, p.key = o.key := by
    have h1 := lastW_some l wo l.length (Nat.le_refl _) (by rw [List.take_length]; exact ho)
    rw [List.take_length] at h1
    obtain ⟨p, hp⟩ := Option.isSome_iff_exists.1 h1
    have h2 := lastW_key hp
    exact ⟨p, (hR.2 p).2 ⟨by rw [h2.1]; exact hp, h2.2.1⟩, h2.1⟩
  obtain ⟨p, hp, hpk⟩ := hex
  have hv : vOf l o.key = p.val := by
    unfold vOf
    cases hf : (refWrites l).find? (fun q => q.key == o.key) with
    | none => have := List.find?_eq_none.1 hf p hp; simp [hpk] at this
    | some q =>
      have h1 := List.find?_some hf
      have h2 := List.mem_of_find?_eq_some hf
      have : q = p := huq q h2 p hp (by simpa [hpk] using h1)
      rw [this]; rfl
  by_cases he : p.val = o.val
  · rw [finF_in (k := o.key) i _ _ (fun q hq e => wv_inj hn (hmem q hq).1 ho (hmem q hq).2 wo e) ⟨p, hp, he⟩, hv, he]
    simp
  · rw [finF_out i _ _ (fun q hq e => he ?_), addF_in i wo l F hn ho, hv]
    · simp [he]
    · have := wv_inj hn (hmem q hq).1 ho (hmem q hq).2 wo e
      rw [← huq q hq p hp (by rw [this, hpk])]; exact e
theorem wrTo_at {h : List TxnV} (hk : ∀ t ∈ h, keysIn t.l) : ∀ n, n ≤ h.length → (wvH (h.take n)).Nodup → ∀ i, ∀ hi : i < h.length, i < n → ∀ o ∈ h[i].l, o.wr = true → wrTo h n o.val = some ⟨i, o.key, vOf h[i].l o.key == o.val⟩
  | 0, _, _, i, _, hin, _, _, _ => by omega
  | n + 1, hn, hd, i, hi, hin, o, ho, wo => by
    have hlt : n < h.length := by omega
    rw [wvH_succ h n hlt] at hd
    have hd3 := List.nodup_append.1 hd
    rw [wrTo_succ, opsAt_eq hlt]
    by_cases e : i = n
    · subst e
      exact turn_at _ _ (hk _ (List.getElem_mem _)) hd3.2.1 ho wo
    · have hin2 : o.val ∈ wvH (h.take n) := by
        unfold wvH
        rw [List.mem_flatMap]
        refine ⟨h[i], ?_, wv_mem.2 ⟨o, ho, wo, rfl⟩⟩
        rw [List.mem_take_iff_getElem]
        exact ⟨i, by omega, rfl⟩
      have hout : ¬ o.val ∈ wv h[n].l := fun hh => hd3.2.2 _ hin2 _ hh rfl
      have hR := refWrites_rise (hk _ (List.getElem_mem hlt))
      rw [finF_out _ _ _ (fun q hq e2 => hout (by rw [← e2]; exact wv_mem.2 ⟨q, (refWrites_mem hq).1, (refWrites_mem hq).2, rfl⟩)), addF_out _ _ _ hout]
      exact wrTo_at hk n (by omega) hd3.1 i hi (by omega) o ho wo
end Go.Proofs.Ytflalehpdngklaa

namespace Go.Proofs.Ytflalehpdngklaa
set_option maxRecDepth 100000
open Go.RowKit

/-- Of whom a value is read, and what is read of others, as the reference says it. -/
def fromR (h : List TxnV) (o : OpV) : Int := if o.val = 0 then -1 else wrI o.key o.val h
def rdR (h : List TxnV) (i : Int) (l : List OpV) : List (Int × Int) := (l.filter fun o => fromR h o != i).map fun o => (o.key, fromR h o)
theorem rdR_snoc (h : List TxnV) (i : Int) (l : List OpV) (k : Nat) (hk : k < l.length) : rdR h i (l.take (k + 1)) = rdR h i (l.take k) ++ (if fromR h l[k] = i then [] else [(l[k].key, fromR h l[k])]) := by
  unfold rdR
  rw [List.take_succ_eq_append_getElem hk, List.filter_append, List.map_append]
  by_cases e : fromR h l[k] = i <;> simp [e]
theorem rdR_len (h : List TxnV) (i : Int) (l : List OpV) : (rdR h i l).length ≤ l.length := by
  unfold rdR; rw [List.length_map]; exact List.length_filter_le _ _
theorem refReads_len (l : List OpV) : (refReads l).length ≤ 64 := upTo_len (rdK l) 64
theorem infoRR : (Try.prog.info? 47).map (fun i => (i.zero, i.size, i.bytes)) = some (some (.agg #[.int .i64 0, .int .i64 0]), 2, 16) := by kernel_rfl
set_option maxHeartbeats 8000000 in
theorem rreads8_any (va : Value) (h : List TxnV) (i : Nat) (hi : i < h.length) (w : World) (hT : Txns w va h) :
    Calls Try.prog 9 #[va, .int .i64 i] w fun e w' => ∃ v, e = .returned v ∧ w'.ownsRow w.heap.size 47 2 v (rdR h i (refReads h[i].l)).length (frV (rdR h i (refReads h[i].l))) ∧ Below w.heap.size w w' := by
  obtain ⟨i0, hi0, hz0, hz1, hz2⟩ := info_parts infoRR
  obtain ⟨ao, cap, rfl, hal⟩ := hT.form
  have hb0 := box_below w (.cells #[] 47)
  have hO0 : World.ownsRow (w.alloc (.cells #[] 47)) w.heap.size 47 2 (.slice (some ⟨w.heap.size, 0, none⟩) 0 0) 0 [] := World.ownsRow_lit (base := w.heap.size) (size := 2) w #[] 0 (Nat.le_refl _) (by decide) rfl
  obtain ⟨g, o, hao, c0, c1, c2, c3⟩ := (hT.below hb0).at hi
  cases hao
  have hii : (i : Int) < (h.length : Int) := by omega
  have CR := Lib.hid (rreads_any h[i].v h[i].l _ ((hT.below hb0).ops hi))
  have HT := Lib.hid (fun wx (hx : Below w.heap.size w wx) => hT.below hx)
  have HL := Lib.hid (refReads_len h[i].l)
  clear hT c0 c1 c2
  generalize h[i].v = vi at *
  generalize refReads h[i].l = L at *
  go_enter Try.func9, Try.ntmps9
  go_wp2_with fail
  refine (CR.out).mono ?_
  rintro e w1 ⟨v1, rfl, hO1, hb1⟩
  have hb2 := below_then hb0 hb1
  have hO2 := owns_below hO0 hb1
  have hL := hO1.ops
  obtain ⟨a1, cap1, rfl, _⟩ := hL.form
  have hL1 : Own w1 w.heap.size _ L := own_base' hO1 (by simp)
  clear CR hO0 hO1 hb0 hb1 c3
  go_wp2_with fail
  go_loopw [5, 7] (fun v j wr => ∃ k : Nat, k ≤ L.length ∧ j = .int .i64 k ∧ wr.ownsRow w.heap.size 47 2 v (rdR h i (L.take k)).length (frV (rdR h i (L.take k))) ∧ Below w.heap.size w wr ∧ Own wr w.heap.size (.slice a1 L.length cap1) L)
    (fun _ j _ => L.length - (intOf j).toNat)
  case atStart => exact ⟨0, by omega, rfl, hO2, hb2, hL1⟩
  case round =>
    obtain ⟨k, hk, rfl, hown, hb, hLo⟩ := hrel
    by_cases hlt : k < L.length
    · have hki : (k : Int) < (L.length : Int) := by omega
      obtain ⟨g1, o1, hao, d0, d1, d2⟩ := hLo.ops.at hlt
      cases hao
      have HS := Lib.hid (rdR_snoc h i L k hlt)
      have hkl : (rdR h i (L.take k)).length ≤ 64 := Nat.le_trans (rdR_len _ _ _) (by rw [List.length_take]; have := HL.out; omega)
      have HF := Lib.hid (show fromR h L[k] = if L[k].val = 0 then -1 else wrI L[k].key L[k].val h from rfl)
      generalize fromR h L[k] = f at *
      generalize hkey : L[k].key = y at *
      generalize L[k].val = z at *
      have hsz := hb.size
      by_cases hz : z = 0
      · have hf := HF.out
        rw [if_pos hz] at hf
        subst hz
        subst hf
        clear HF
        by_cases hfi : (-1) = (i : Int)
        · omega
        · rw [if_neg hfi] at HS
          go_wp2_with (first | (at_builtin; refine wpList_append_own _ rfl _ _ 42 rfl w.heap.size 47 i0 (.agg #[.int .i64 0, .int .i64 0]) 2 16 Try.underlying42 hi0 hz0 hz1 hz2 rfl (by decide) _ _ _ rfl (World.ownsRow.alloc hown _) ⟨_, 0, none⟩ 1 1 [.int .i64 y, .int .i64 (-1)] rfl rfl ?c1 ?c2 ?c3 ?c4 ?c5 ?_) | go_in)
          case c1 => exact lit_two _ _ _ _
          case c2 => intro u hu; simp at hu; rcases hu with rfl | rfl <;> rfl
          case c3 => unfold maxLen; omega
          case c4 => omega
          case c5 => simp; omega
          intro v' w5 hown' hgrow _
          have hb' := below_app hb (Nat.le_refl _) hown hgrow
          have hL' : Own w5 w.heap.size (.slice (some ⟨g1, o1, none⟩) L.length cap1) L := World.ownsRow.kept (World.ownsRow.alloc hLo _) hgrow (owns_apart hLo hown (by decide))
          clear hgrow
          go_wp2_with fail
          go_roundw
          case rel =>
            refine ⟨k + 1, by omega, by go_num, ?_, hb', hL'⟩
            rw [HS.out, frV_app, List.length_append]
            exact hown'
          case measure => simp [intOf]; omega
      · have hf := HF.out
        rw [if_neg hz] at hf
        clear HF
        have CW := Lib.hid (fun wx (hx : Below w.heap.size w wx) => writer_any _ h y z wx (HT.out _ hx))
        rw [← hf] at CW
        clear hf
        have hlo := block_lt d1
        simp only at hlo
        go_wp2_with fail
        have kk := Below.refl wr.heap.size wr
        go_region_held3 (fun w' => w'.cell? ⟨g1, o1 + k * 3 + 1, none⟩ = some (.int .i64 y) ∧ w'.cell? ⟨g1, o1 + k * 3 + 2, none⟩ = some (.int .i64 z))
          (go_keep)
          (first
            | (go_at_call 33; refine (CW.out _ (below_then hb (by first | exact kk | exact kk.drew | exact below_drewN kk _))).mono ?_; rintro e wx ⟨rfl, hbx⟩; have kk : Below wr.heap.size wr wx := (by first | exact below_then kk hbx | exact below_then kk ⟨hbx.os, hbx.tape, hbx.output, hbx.size, hbx.block⟩); have d1 := (kk.cell (p := ⟨g1, o1 + k * 3 + 1, none⟩) hlo).trans d1; have d2 := (kk.cell (p := ⟨g1, o1 + k * 3 + 2, none⟩) hlo).trans d2))
        have hb4 := below_then hb kk
        have hown4 := owns_below hown kk
        have hL4 := Own.below hLo kk
        have hsz4 := hb4.size
        clear CW hbx hb hown hLo
        by_cases hfi : f = (i : Int)
        · rw [if_pos hfi, List.append_nil] at HS
          subst hfi
          go_wp2_with fail
          go_roundw
          case rel => exact ⟨k + 1, by omega, by go_num, by rw [HS.out]; exact hown4, hb4, hL4⟩
          case measure => simp [intOf]; omega
        · rw [if_neg hfi] at HS
          go_wp2_with (first | (at_builtin; refine wpList_append_own _ rfl _ _ 42 rfl w.heap.size 47 i0 (.agg #[.int .i64 0, .int .i64 0]) 2 16 Try.underlying42 hi0 hz0 hz1 hz2 rfl (by decide) _ _ _ rfl (World.ownsRow.alloc hown4 _) ⟨_, 0, none⟩ 1 1 [.int .i64 y, .int .i64 f] rfl rfl ?c1 ?c2 ?c3 ?c4 ?c5 ?_) | go_in)
          case c1 => exact lit_two _ _ _ _
          case c2 => intro u hu; simp at hu; rcases hu with rfl | rfl <;> rfl
          case c3 => unfold maxLen; omega
          case c4 => omega
          case c5 => simp; omega
          intro v' w5 hown' hgrow _
          have hb' := below_app hb4 (Nat.le_refl _) hown4 hgrow
          have hL' : Own w5 w.heap.size (.slice (some ⟨g1, o1, none⟩) L.length cap1) L := World.ownsRow.kept (World.ownsRow.alloc hL4 _) hgrow (owns_apart hL4 hown4 (by decide))
          clear hgrow
          go_wp2_with fail
          go_roundw
          case rel =>
            refine ⟨k + 1, by omega, by go_num, ?_, hb', hL'⟩
            rw [HS.out, frV_app, List.length_append]
            exact hown'
          case measure => simp [intOf]; omega
    · have hk2 : k = L.length := by omega
      subst hk2
      rw [List.take_length] at hown
      go_wp2_with fail
      go_ret
      exact ⟨_, rfl, hown, hb⟩
end Go.Proofs.Ytflalehpdngklaa

namespace Go.Proofs.Ytflalehpdngklaa
set_option maxRecDepth 100000
open Go.RowKit

abbrev Pr := Int × Int
def prV (l : List Pr) : List Value := l.flatMap fun p => [.int .i64 p.1, .int .i64 p.2]
theorem prV_len (l : List Pr) : (prV l).length = l.length * 2 := by
  induction l with
  | nil => rfl
  | cons a l ih => unfold prV at *; rw [List.flatMap_cons, List.length_append, ih, List.length_cons]; simp; omega
theorem prV_at : ∀ (l : List Pr) (k : Nat) (hk : k < l.length), (prV l)[2 * k]? = some (.int .i64 l[k].1) ∧ (prV l)[2 * k + 1]? = some (.int .i64 l[k].2)
  | [], k, hk => by simp at hk
  | a :: l, 0, _ => by unfold prV; simp
  | a :: l, k + 1, hk => by
    have := prV_at l k (by simpa using hk)
    unfold prV at *
    rw [List.flatMap_cons, show 2 * (k + 1) = 2 * k + 2 by omega]
    simpa using this
/-- The slice v holds these pairs. -/
def Prs (w : World) (v : Value) (l : List Pr) : Prop := Row w v l.length 2 (prV l)
theorem Prs.below {w w' : World} {v : Value} {l : List Pr} (h : Prs w v l) (hb : Below w.heap.size w w') : Prs w' v l := Row.below h hb
theorem Prs.of_owns {w : World} {base : Nat} {e : TypeId} {v : Value} {n : Nat} {l : List Pr} (h : w.ownsRow base e 2 v n (prV l)) : Prs w v l := by
  have hr := Row.of_owns h
  have hn : n = l.length := by have := h.1; rw [prV_len] at this; omega
  subst hn; exact hr
theorem Prs.form {w : World} {v : Value} {l : List Pr} (h : Prs w v l) : ∃ ao cap, v = .slice ao l.length cap ∧ l.length ≤ 9223372036854775807 := by
  obtain ⟨_, ao, cap, rfl, hm, _, _⟩ := h
  exact ⟨ao, cap, rfl, Nat.le_trans hm.1 hm.2⟩
theorem Prs.at {w : World} {ao : Option Addr} {n cap : Nat} {l : List Pr} (h : Prs w (.slice ao n cap) l) {k : Nat} (hk : k < l.length) :
    ∃ b off, ao = some ⟨b, off, none⟩ ∧ w.cell? ⟨b, off + k * 2, none⟩ = some (.int .i64 l[k].1) ∧ w.cell? ⟨b, off + k * 2 + 1, none⟩ = some (.int .i64 l[k].2) := by
  obtain ⟨_, ao', cap', he, hm, _, hc⟩ := h
  obtain ⟨rfl, _, _⟩ : ao = ao' ∧ n = l.length ∧ cap = cap' := by simpa using he
  obtain ⟨b, off, rfl, hcell⟩ := hc (by omega)
  obtain ⟨h1, h2⟩ := prV_at l k hk
  refine ⟨b, off, rfl, ?_, ?_⟩
  · rw [Nat.mul_comm k 2, hcell (2 * k) (by omega), h1]
  · rw [Nat.mul_comm k 2, Nat.add_assoc, hcell (2 * k + 1) (by omega), h2]

def hasP (l : List Pr) (a b : Int) : Bool := l.any fun p => p.1 == a && p.2 == b
theorem hasP_iff {l : List Pr} {a b : Int} : hasP l a b = true ↔ (a, b) ∈ l := by
  unfold hasP
  rw [List.any_eq_true]
  constructor
  · rintro ⟨⟨x, y⟩, h, e⟩
    simp at e
    obtain ⟨rfl, rfl⟩ := e
    exact h
  · intro h; exact ⟨(a, b), h, by simp⟩
def putP (l : List Pr) (a b : Int) : List Pr := if hasP l a b then l else l ++ [(a, b)]
theorem mem_putP {l : List Pr} {a b : Int} {p : Pr} : p ∈ putP l a b ↔ p ∈ l ∨ p = (a, b) := by
  unfold putP
  split
  · rename_i h
    rw [hasP_iff] at h
    exact ⟨.inl, fun h' => h'.elim id (fun e => e ▸ h)⟩
  · simp
theorem putP_nodup {l : List Pr} {a b : Int} (h : l.Nodup) : (putP l a b).Nodup := by
  unfold putP
  split
  · exact h
  · rename_i hn
    rw [List.nodup_append]
    refine ⟨h, by simp, ?_⟩
    intro x hx y hy
    simp at hy
    subst hy
    rintro rfl
    exact hn (hasP_iff.2 hx)
/-- Pairs put in, one by one. -/
def putAll (o l : List Pr) : List Pr := l.foldl (fun o p => putP o p.1 p.2) o
theorem mem_putAll {p : Pr} : ∀ (l o : List Pr), p ∈ putAll o l ↔ p ∈ o ∨ p ∈ l
  | [], o => by simp [putAll]
  | q :: l, o => by
    have := mem_putAll (p := p) l (putP o q.1 q.2)
    unfold putAll at *
    rw [List.foldl_cons, this, mem_putP, List.mem_cons, or_assoc]
theorem putAll_nodup : ∀ (l : List Pr) {o : List Pr}, o.Nodup → (putAll o l).Nodup
  | [], _, h => h
  | _ :: l, _, h => putAll_nodup l (putP_nodup h)
/-- One pair, and then any of some, put in. -/
def thenOne (o : List Pr) (p : Pr) (m : List Pr) : List Pr := m.foldl (fun o q => if p.2 == q.1 then putP o p.1 q.2 else o) o
def thenP (l m : List Pr) : List Pr := l.foldl (fun o p => thenOne o p m) []
theorem mem_thenOne {x : Pr} {p : Pr} : ∀ (m o : List Pr), x ∈ thenOne o p m ↔ x ∈ o ∨ ∃ q ∈ m, p.2 = q.1 ∧ x = (p.1, q.2)
  | [], o => by simp [thenOne]
  | q :: m, o => by
    have h := mem_thenOne (x := x) (p := p) m (if p.2 == q.1 then putP o p.1 q.2 else o)
    have e : thenOne o p (q :: m) = thenOne (if p.2 == q.1 then putP o p.1 q.2 else o) p m := rfl
    rw [e, h]
    by_cases hpq : p.2 = q.1
    · have : (p.2 == q.1) = true := by simpa using hpq
      rw [if_pos this, mem_putP, or_assoc]
      apply or_congr Iff.rfl
      constructor
      · rintro (rfl | ⟨r, hr, h1, h2⟩)
        · exact ⟨q, List.mem_cons_self, hpq, rfl⟩
        · exact ⟨r, List.mem_cons_of_mem _ hr, h1, h2⟩
      · rintro ⟨r, hr, h1, h2⟩
        rcases List.mem_cons.1 hr with rfl | hr
        · exact .inl h2
        · exact .inr ⟨r, hr, h1, h2⟩
    · have : ¬ (p.2 == q.1) = true := by simpa using hpq
      rw [if_neg this]
      apply or_congr Iff.rfl
      constructor
      · rintro ⟨r, hr, h1, h2⟩; exact ⟨r, List.mem_cons_of_mem _ hr, h1, h2⟩
      · rintro ⟨r, hr, h1, h2⟩
        rcases List.mem_cons.1 hr with rfl | hr
        · exact absurd h1 hpq
        · exact ⟨r, hr, h1, h2⟩
theorem mem_thenAll {x : Pr} {m : List Pr} : ∀ (l o : List Pr), x ∈ l.foldl (fun o p => thenOne o p m) o ↔ x ∈ o ∨ ∃ p ∈ l, ∃ q ∈ m, p.2 = q.1 ∧ x = (p.1, q.2)
  | [], o => by simp
  | p :: l, o => by
    rw [List.foldl_cons, mem_thenAll l, mem_thenOne, or_assoc]
    apply or_congr Iff.rfl
    constructor
    · rintro (⟨q, hq, h⟩ | ⟨r, hr, q, hq, h⟩)
      · exact ⟨p, List.mem_cons_self, q, hq, h⟩
      · exact ⟨r, List.mem_cons_of_mem _ hr, q, hq, h⟩
    · rintro ⟨r, hr, q, hq, h⟩
      rcases List.mem_cons.1 hr with rfl | hr
      · exact .inl ⟨q, hq, h⟩
      · exact .inr ⟨r, hr, q, hq, h⟩
theorem mem_thenP {x : Pr} {l m : List Pr} : x ∈ thenP l m ↔ ∃ p ∈ l, ∃ q ∈ m, p.2 = q.1 ∧ x = (p.1, q.2) := by
  unfold thenP; rw [mem_thenAll]; simp
/-- A list without repeats that lies in another one is no longer. -/
theorem nodup_le {α : Type} [BEq α] [LawfulBEq α] : ∀ (l m : List α), l.Nodup → (∀ x ∈ l, x ∈ m) → l.length ≤ m.length
  | [], _, _, _ => by simp
  | a :: l, m, hn, hs => by
    rw [List.nodup_cons] at hn
    have ha := hs a List.mem_cons_self
    have := nodup_le l (m.erase a) hn.2 (fun x hx => by
      have hxa : x ≠ a := by rintro rfl; exact hn.1 hx
      exact (List.mem_erase_of_ne hxa).2 (hs x (List.mem_cons_of_mem _ hx)))
    rw [List.length_erase_of_mem ha] at this
    have hpos : 0 < m.length := List.length_pos_of_mem ha
    rw [List.length_cons]; omega
/-- One comes from a to b, by the pairs of a list, in one step or more. -/
inductive PathP (l : List Pr) : Int → Int → Prop
  | one {a b : Int} : (a, b) ∈ l → PathP l a b
  | more {a b c : Int} : PathP l a b → (b, c) ∈ l → PathP l a c
theorem PathP.ends {l : List Pr} {a b : Int} (h : PathP l a b) : (∃ y, (a, y) ∈ l) ∧ ∃ x, (x, b) ∈ l := by
  induction h with
  | one h => exact ⟨⟨_, h⟩, ⟨_, h⟩⟩
  | more _ h ih => exact ⟨ih.1, ⟨_, h⟩⟩
/-- One more round of the reference's closing. -/
def cloNext (o l : List Pr) : List Pr := putAll o (thenP o l)
/-- What holds of the reference's list from its first round on. -/
structure CloInv (l o : List Pr) : Prop where
  nodup : o.Nodup
  has : ∀ p ∈ l, p ∈ o
  path : ∀ a b, (a, b) ∈ o → PathP l a b
theorem CloInv.next {l o : List Pr} (h : CloInv l o) : CloInv l (cloNext o l) where
  nodup := putAll_nodup _ h.nodup
  has := fun p hp => (mem_putAll _ _).2 (.inl (h.has p hp))
  path := fun a b hab => by
    rcases (mem_putAll _ _).1 hab with h' | h'
    · exact h.path a b h'
    · obtain ⟨⟨x, y⟩, hp, ⟨u, v⟩, hq, h1, h2⟩ := mem_thenP.1 h'
      simp at h1 h2
      obtain ⟨rfl, rfl⟩ := h2
      subst h1
      exact .more (h.path _ _ hp) hq
theorem CloInv.len {l o : List Pr} (h : CloInv l o) : o.length ≤ l.length * l.length := by
  have := nodup_le o (l.flatMap fun p => l.map fun q => (p.1, q.2)) h.nodup (fun x hx => by
    obtain ⟨⟨y, hy⟩, ⟨z, hz⟩⟩ := (h.path x.1 x.2 hx).ends
    exact List.mem_flatMap.2 ⟨_, hy, List.mem_map.2 ⟨_, hz, rfl⟩⟩)
  have e : (l.flatMap fun p => l.map fun q => (p.1, q.2)).length = l.length * l.length := by
    rw [List.length_flatMap]
    have : (l.map fun p => (l.map fun q => ((p.1, q.2) : Pr)).length) = l.map fun _ => l.length := by simp
    rw [this, List.map_const']
    have hr : ∀ n k : Nat, (List.replicate n k).sum = n * k := by
      intro n k; induction n with
      | zero => simp
      | succ n ih => rw [List.replicate_succ, List.sum_cons, ih, Nat.succ_mul]; omega
    exact hr _ _
  rw [e] at this; exact this
theorem CloInv.done {l o : List Pr} (h : CloInv l o) (hd : (cloNext o l).length = o.length) (a b : Int) : (a, b) ∈ o ↔ PathP l a b := by
  constructor
  · exact h.path a b
  · intro hp
    have hsub : ∀ x ∈ cloNext o l, x ∈ o := by
      intro x hx
      by_cases hxo : x ∈ o
      · exact hxo
      · have h2 := nodup_le (x :: o) (cloNext o l) (List.nodup_cons.2 ⟨hxo, h.nodup⟩) (fun y hy => by
          rcases List.mem_cons.1 hy with rfl | hy
          · exact hx
          · exact (mem_putAll _ _).2 (.inl hy))
        rw [List.length_cons] at h2; omega
    induction hp with
    | one h' => exact h.has _ h'
    | more _ h' ih => exact hsub _ ((mem_putAll _ _).2 (.inr (mem_thenP.2 ⟨_, ih, _, h', rfl, rfl⟩)))
end Go.Proofs.Ytflalehpdngklaa

namespace Go.Proofs.Ytflalehpdngklaa
set_option maxRecDepth 100000
open Go.RowKit

/-- Pairs are no sets: a store into a relation's block leaves them. -/
theorem Prs.grown {w w' : World} {v : Value} {l : List Pr} {g : Nat} {t : TypeId} {R : Mat} (h : Prs w v l) (hr : RelAt w g t R) (hg : w.grownBy w' (some g)) : Prs w' v l := by
  obtain ⟨hl, ao, cap, rfl, hm, hno, hc⟩ := h
  refine ⟨hl, ao, cap, rfl, hm, hno, fun hn => ?_⟩
  obtain ⟨b, off, rfl, hcell⟩ := hc hn
  refine ⟨b, off, rfl, fun i hi => ?_⟩
  have h1 := hcell i hi
  have hi' : i < (prV l).length := by rw [prV_len]; omega
  rw [List.getElem?_eq_getElem hi'] at h1 ⊢
  have hb : b ≠ g := by
    rintro rfl
    rw [cell_of_row w b _ _ _ _ hr] at h1
    have hmem : (prV l)[i] ∈ prV l := List.getElem_mem hi'
    unfold prV at hmem
    obtain ⟨p, _, hp⟩ := List.mem_flatMap.1 hmem
    by_cases ho : off + i < 64
    · rw [rowsA_at R ho] at h1
      have := Option.some.inj h1
      unfold prV at this
      rw [← this] at hp
      simp at hp
    · rw [Array.getElem?_eq_none (by rw [rowsA_size]; omega)] at h1
      cases h1
  exact hg.cell h1 (by simpa using hb)
end Go.Proofs.Ytflalehpdngklaa

namespace Go.Proofs.Ytflalehpdngklaa
set_option maxRecDepth 100000
open Go.RowKit

/-- Does nothing of a set follow on a number? -/
def emp (R : Mat) (s i : Nat) : Bool := (mkS (R i) &&& s) == 0
theorem emp_no {R : Mat} {s i : Nat} (hs : IsSet s) (h : emp R s i = false) : ∃ j, j ∈ lst s ∧ R i j = true := by
  unfold emp at h
  rw [beq_eq_false_iff_ne] at h
  have hset : IsSet (mkS (R i) &&& s) := isSet_and (isSet_mkS _)
  have hne : lst (mkS (R i) &&& s) ≠ [] := fun e => h (lst_nil hset e)
  have hm := mem_lst.1 (fst_mem hne)
  rw [Nat.testBit_and, testBit_mkS, Bool.and_eq_true, Bool.and_eq_true] at hm
  exact ⟨_, (mem_lst' hs).2 hm.2.2, hm.2.1.2⟩
theorem emp_yes {R : Mat} {s i j : Nat} (hj : j ∈ lst s) (h : R i j = true) : emp R s i = false := by
  unfold emp
  rw [beq_eq_false_iff_ne]
  intro e
  have hj' := mem_lst.1 hj
  have := congrArg (fun x => Nat.testBit x j) e
  simp [Nat.testBit_and, testBit_mkS, hj'.1, hj'.2, h] at this
/-- A set each of whose numbers stands to one of it. -/
def Suff (R : Mat) (F : Nat → Prop) : Prop := ∀ a, F a → a < 64 ∧ ∃ b, F b ∧ R a b = true
structure EndInv (R : Mat) (s : Nat) : Prop where
  set : IsSet s
  all : ∀ F, Suff R F → ∀ a, F a → a ∈ lst s
/-- One round done for the first k numbers. -/
def NxTo (R : Mat) (s : Nat) (k : Nat) (x : Nat) : Prop := IsSet x ∧ ∀ i, x.testBit i = (s.testBit i && !(((lst s).take k).contains i && emp R s i))
theorem nxTo_end {R : Mat} {s x : Nat} (hs : IsSet s) (h : NxTo R s (lst s).length x) (i : Nat) : x.testBit i = (s.testBit i && !emp R s i) := by
  rw [h.2 i, List.take_length]
  cases hb : s.testBit i
  · simp
  · have : (lst s).contains i = true := by rw [List.contains_iff_mem]; exact (mem_lst' hs).2 hb
    rw [this]; simp
theorem EndInv.next {R : Mat} {s x : Nat} (h : EndInv R s) (hx : NxTo R s (lst s).length x) : EndInv R x where
  set := hx.1
  all := fun F hF a ha => by
    obtain ⟨hlt, b, hb, hab⟩ := hF a ha
    rw [mem_lst' hx.1, nxTo_end h.set hx, (mem_lst' h.set).1 (h.all F hF a ha), emp_yes (h.all F hF b hb) hab]; rfl
theorem EndInv.done {R : Mat} {s : Nat} (h : EndInv R s) (hx : NxTo R s (lst s).length s) : ∀ a ∈ lst s, ∃ b ∈ lst s, R a b = true := by
  intro a ha
  have hb := (mem_lst' h.set).1 ha
  have := nxTo_end h.set hx a
  rw [hb] at this
  simp at this
  exact emp_no h.set this
end Go.Proofs.Ytflalehpdngklaa

namespace Go.Proofs.Ytflalehpdngklaa
set_option maxRecDepth 100000
open Go.RowKit

theorem getD_at (l : List Nat) (i : Nat) (h : i < l.length) : l.getD i 0 = l[i] := by simp [List.getD, h]
/-- Each number of a list stands to the next one. -/
def Edges (R : Mat) (l : List Nat) : Prop := ∀ i, i + 1 < l.length → R (l.getD i 0) (l.getD (i + 1) 0) = true
/-- The row that one has gone, and where one stands. -/
structure GoOK (R : Mat) (E : Nat) (Q : List Nat) (n : Nat) : Prop where
  nodup : Q.Nodup
  mem : ∀ x ∈ Q, x ∈ lst E
  at_ : n ∈ lst E
  edges : Edges R (Q ++ [n])
theorem GoOK.len {R : Mat} {E : Nat} {Q : List Nat} {n : Nat} (h : GoOK R E Q n) : Q.length ≤ 64 := by
  have := nodup_le Q (lst E) h.nodup h.mem
  have := lstTo_len E 64
  have : (lst E).length ≤ 64 := this
  omega
theorem GoOK.next {R : Mat} {E : Nat} {Q : List Nat} {n m : Nat} (h : GoOK R E Q n) (hn : n ∉ Q) (hm : m ∈ lst E) (hR : R n m = true) : GoOK R E (Q ++ [n]) m where
  nodup := by
    rw [List.nodup_append]
    exact ⟨h.nodup, by simp, fun x hx y hy => by simp at hy; subst hy; rintro rfl; exact hn hx⟩
  mem := fun x hx => by
    rcases List.mem_append.1 hx with hx | hx
    · exact h.mem x hx
    · simp at hx; subst hx; exact h.at_
  at_ := hm
  edges := by
    intro i hi
    have hlen : (Q ++ [n] ++ [m]).length = Q.length + 2 := by simp
    by_cases hi2 : i + 1 < (Q ++ [n]).length
    · have := h.edges i hi2
      have e1 : (Q ++ [n] ++ [m]).getD i 0 = (Q ++ [n]).getD i 0 := by
        rw [getD_at _ _ (by omega), getD_at _ _ (by omega), List.getElem_append_left]
      have e2 : (Q ++ [n] ++ [m]).getD (i + 1) 0 = (Q ++ [n]).getD (i + 1) 0 := by
        rw [getD_at _ _ (by omega), getD_at _ _ (by omega), List.getElem_append_left]
      rw [e1, e2]; exact this
    · have hi3 : i = Q.length := by simp at hi2 hi; omega
      subst hi3
      have e1 : (Q ++ [n] ++ [m]).getD Q.length 0 = n := by simp [List.getD]
      have e2 : (Q ++ [n] ++ [m]).getD (Q.length + 1) 0 = m := by simp [List.getD]
      rw [e1, e2]; exact hR
theorem Ints.drop {w : World} {g n cap : Nat} {l : List Int} (h : Ints w (.slice (some ⟨g, 0, none⟩) n cap) l) (k : Nat) (hk : k < l.length) :
    Ints w (.slice (some ⟨g, k, none⟩) (l.length - k) (cap - k)) (l.drop k) := by
  have hlen : (l.drop k).length = l.length - k := by simp
  obtain ⟨_, ao, cap', he, hm, _, hc⟩ := h
  obtain ⟨rfl, rfl, rfl⟩ : some (⟨g, 0, none⟩ : Addr) = ao ∧ n = l.length ∧ cap = cap' := by simpa using he
  refine ⟨by simp, some ⟨g, k, none⟩, cap - k, by rw [hlen], by rw [hlen]; unfold maxLen at *; omega, (fun h => by cases h), fun _ => ⟨g, k, rfl, fun i hi => ?_⟩⟩
  obtain ⟨b, off, he2, hcell⟩ := hc (by omega)
  obtain ⟨rfl, rfl⟩ : g = b ∧ 0 = off := by simpa using he2
  have := hcell (k + i) (by omega)
  rw [Nat.zero_add] at this
  rw [this, List.map_drop, List.getElem?_drop]
end Go.Proofs.Ytflalehpdngklaa

namespace Go.Proofs.Ytflalehpdngklaa
set_option maxRecDepth 100000
open Go.RowKit

theorem addM_iff (R : Mat) (a b : Int) (i j : Nat) (hi : i < 64) (hj : j < 64) : addM R a b i j = true ↔ R i j = true ∨ (a = (i : Int) ∧ b = (j : Int)) := by
  unfold addM
  split
  · rename_i h
    have h1 := (mayB_iff a).1 h.1
    have h2 := (mayB_iff b).1 h.2
    unfold rowSet
    by_cases e : i = a.toNat
    · rw [if_pos e, ← e, Bool.or_eq_true, decide_eq_true_iff]
      apply or_congr Iff.rfl
      constructor
      · intro h; omega
      · intro h; omega
    · rw [if_neg e]
      constructor
      · exact .inl
      · rintro (h | h)
        · exact h
        · omega
  · rename_i h
    constructor
    · exact .inl
    · rintro (h' | ⟨rfl, rfl⟩)
      · exact h'
      · exact absurd ⟨(mayB_iff _).2 (by omega), (mayB_iff _).2 (by omega)⟩ h
theorem PathP.cons {l : List Pr} {a b c : Int} (h : (a, b) ∈ l) (k : PathP l b c) : PathP l a c := by
  induction k with
  | one h' => exact .more (.one h) h'
  | more _ h' ih => exact .more ih h'
end Go.Proofs.Ytflalehpdngklaa

namespace Go.Proofs.Ytflalehpdngklaa
set_option maxRecDepth 100000
open Go.RowKit

theorem prsRow_iff (S : Nat → Nat → Bool) (a : Nat) (R : Mat) (i j : Nat) (hi : i < 64) (hj : j < 64) : ∀ b, prsRow S a R b i j = true ↔ R i j = true ∨ (i = a ∧ j < b ∧ S i j = true)
  | 0 => by simp [prsRow]
  | b + 1 => by
    have ih := prsRow_iff S a R i j hi hj b
    cases hs : S a b with
    | true =>
      rw [prsRow_hit R hs, addM_iff _ _ _ _ _ hi hj, ih]
      constructor
      · rintro ((h | ⟨h1, h2, h3⟩) | ⟨h1, h2⟩)
        · exact .inl h
        · exact .inr ⟨h1, by omega, h3⟩
        · have e1 : i = a := by omega
          have e2 : j = b := by omega
          subst e1 e2
          exact .inr ⟨rfl, by omega, hs⟩
      · rintro (h | ⟨h1, h2, h3⟩)
        · exact .inl (.inl h)
        · by_cases e : j = b
          · exact .inr ⟨by omega, by omega⟩
          · exact .inl (.inr ⟨h1, by omega, h3⟩)
    | false =>
      rw [prsRow_miss R hs, ih]
      constructor
      · rintro (h | ⟨h1, h2, h3⟩)
        · exact .inl h
        · exact .inr ⟨h1, by omega, h3⟩
      · rintro (h | ⟨h1, h2, h3⟩)
        · exact .inl h
        · refine .inr ⟨h1, ?_, h3⟩
          by_cases e : j = b
          · subst h1 e; rw [hs] at h3; cases h3
          · omega
theorem prsTo_iff (S : Nat → Nat → Bool) (n : Nat) (i j : Nat) (hi : i < 64) (hj : j < 64) : ∀ a, prsTo S n a i j = true ↔ i < a ∧ j < n ∧ S i j = true
  | 0 => by simp [prsTo, noR]
  | a + 1 => by
    have ih := prsTo_iff S n i j hi hj a
    show prsRow S a (prsTo S n a) n i j = true ↔ _
    rw [prsRow_iff S a _ i j hi hj, ih]
    constructor
    · rintro (⟨h1, h2⟩ | ⟨h1, h2⟩)
      · exact ⟨by omega, h2⟩
      · exact ⟨by omega, h2⟩
    · rintro ⟨h1, h2⟩
      by_cases e : i = a
      · exact .inr ⟨e, h2⟩
      · exact .inl ⟨by omega, h2⟩
theorem hasR_prs (S : Nat → Nat → Bool) (n : Nat) (hn : n ≤ 64) (i j : Nat) (hi : i < n) (hj : j < n) : hasR (prsTo S n n) (i : Int) (j : Int) = S i j := by
  have h := prsTo_iff S n i j (by omega) (by omega) n
  unfold hasR mayB
  rw [Int.toNat_natCast, hasB_mkS _ _ (by omega)]
  have e : decide (0 ≤ (i : Int) ∧ (i : Int) < 64) = true := by simp; omega
  rw [e, Bool.true_and]
  cases hs : S i j with
  | true => exact h.2 ⟨hi, hj, hs⟩
  | false =>
    cases hp : prsTo S n n i j with
    | false => rfl
    | true => have := (h.1 hp).2.2; rw [hs] at this; cases this
theorem wpList_load_part {ops : Array Oper} {rest : List Oper} {o : Oper} {a : Act} {w : World} {Q : Exit → Act → World → Prop} {B k : Nat} {R : Mat} (h : w.rangeAt B k (rowsA R).toList) (x : Operand) (ho : o.op = .load 32 x)
    (hw : Region.wanted o (yielded ops a.tmps) = true) (hx : a.eval x = .pointer (some ⟨B, k, none⟩)) (hn : wpList Try.prog ops Q rest (a.put o.dst (.agg (rowsA R))) w) : wpList Try.prog ops Q (o :: rest) a w :=
  wpList_step fun K hK => by
    rw [if_pos hw]
    refine wp_load_mid 32 x ho B k hx (rowsA R).toList _ h Try.underlying32 rfl (by rw [Array.length_toList]; exact infoRel' R) ?_
    rw [Array.toArray_toList]
    exact hK _ _ hn
end Go.Proofs.Ytflalehpdngklaa

namespace Go.Proofs.Ytflalehpdngklaa
set_option maxRecDepth 100000
open Go.RowKit

theorem checkR_cases (h : List TxnV) : (checkR h = 0 ∧ mayRef h = true) ∨ checkR h = 2 ∨ checkR h = 3 := by
  unfold checkR
  split
  · exact .inr (.inr rfl)
  · cases mayRef h
    · exact .inr (.inl rfl)
    · exact .inl ⟨rfl, rfl⟩
theorem may_parts {h : List TxnV} (hm : mayRef h = true) : okW h = true ∧ ∀ t ∈ h, keysIn t.l := by
  rw [← right_ref] at hm
  unfold rightB valuesB at hm
  simp only [Bool.and_eq_true] at hm
  exact ⟨hm.2.1.1, parts_keys hm.1⟩
end Go.Proofs.Ytflalehpdngklaa

namespace Go.Proofs.Ytflalehpdngklaa
set_option maxRecDepth 100000
open Go.RowKit

theorem wrI_at {key x : Int} {h : List TxnV} (hn : ¬ wrI key x h < 0) : ∃ i, ∃ hi : i < h.length, wrI key x h = i ∧ ∃ o ∈ h[i].l, isWr key x o = true := by
  unfold wrI at hn ⊢
  cases hf : h.findIdx? (fun t => t.l.any (isWr key x)) with
  | none => rw [hf] at hn; exact absurd (by decide) hn
  | some i =>
    rw [List.findIdx?_eq_some_iff_getElem] at hf
    obtain ⟨hi, h1, _⟩ := hf
    obtain ⟨o, ho, hw⟩ := List.any_eq_true.1 h1
    exact ⟨i, hi, rfl, o, ho, hw⟩
theorem isWr_iff {key x : Int} {o : OpV} : isWr key x o = true ↔ o.wr = true ∧ o.key = key ∧ o.val = x := by unfold isWr; simp
theorem may_rows {h : List TxnV} (hm : mayRef h = true) : ∀ k, ∀ hk : k < h.length, rowR h k h[k] = true := fun k hk => by
  have := List.all_eq_true.1 hm k (List.mem_range.2 hk)
  rwa [List.getElem?_eq_getElem hk] at this
theorem rowR_iff {h : List TxnV} {k : Nat} {t : TxnV} : rowR h k t = true ↔ mayT t.s t.b t.c t.l = true ∧ (h.take k).all (fun a => apartB a t) = true ∧ ∀ o ∈ t.l, opR h o = true := by
  unfold rowR
  rw [Bool.and_eq_true, Bool.and_eq_true, List.all_eq_true (p := opR h)]
theorem may_wr {h : List TxnV} (hm : mayRef h = true) {i : Nat} (hi : i < h.length) {o : OpV} (ho : o ∈ h[i].l) (wo : o.wr = true) : wrTo h h.length o.val = some ⟨i, o.key, vOf h[i].l o.key == o.val⟩ := by
  obtain ⟨hw, hk⟩ := may_parts hm
  exact wrTo_at hk h.length (Nat.le_refl _) (by rw [List.take_length]; unfold okW at hw; simpa using hw) i hi hi o ho wo
/-- What is told of a value that is read: who wrote it, to that key; of 0 nothing. -/
theorem reads_F {h : List TxnV} (hm : mayRef h = true) {k : Nat} (hk : k < h.length) {o : OpV} (ho : o ∈ h[k].l) (wo : o.wr = false) :
    (o.val = 0 ∧ wrTo h h.length 0 = none) ∨ (o.val ≠ 0 ∧ ∃ u, wrTo h h.length o.val = some u ∧ u.key = o.key ∧ wrI o.key o.val h = u.i) := by
  by_cases h0 : o.val = 0
  · refine .inl ⟨h0, ?_⟩
    cases hF : wrTo h h.length 0 with
    | none => rfl
    | some u =>
      obtain ⟨p, hp, hpv, _⟩ := real_wr h h.length (Nat.le_refl _) 0 u hF
      obtain ⟨t, ht, hpt, hpw⟩ := wrs_mem.1 hp
      obtain ⟨i, hi, rfl⟩ := List.getElem_of_mem ht
      have h1 := (rowR_iff.1 (may_rows hm i hi)).1
      unfold mayT at h1
      simp only [Bool.and_eq_true] at h1
      have h2 := (mayO_iff p).1 (List.all_eq_true.1 h1.2 p hpt)
      exact absurd hpv (h2.2.2 hpw)
  · refine .inr ⟨h0, ?_⟩
    have h1 := (rowR_iff.1 (may_rows hm k hk)).2.2 o ho
    unfold opR at h1
    rw [wo] at h1
    have h2 : ¬ wrI o.key o.val h < 0 := by simpa [h0] using h1
    obtain ⟨i, hi, he, p, hp, hpw⟩ := wrI_at h2
    obtain ⟨q1, q2, q3⟩ := isWr_iff.1 hpw
    have h3 := may_wr hm hi hp q1
    rw [q3, q2] at h3
    exact ⟨_, h3, rfl, he⟩
end Go.Proofs.Ytflalehpdngklaa

namespace Go.Proofs.Ytflalehpdngklaa
set_option maxRecDepth 100000
open Go.RowKit

theorem may_of {h : List TxnV} (hc : checkI h = 0) : mayRef h = true := by
  rw [← right_ref]
  unfold checkI at hc
  split at hc
  · cases hc
  · cases hr : rightB h with
    | true => rfl
    | false => rw [hr] at hc; cases hc
theorem from_same {h : List TxnV} (hc : checkI h = 0) {k : Nat} (hk : k < h.length) {o : OpV} (ho : o ∈ h[k].l) (wo : o.wr = false) : fromO (wrTo h h.length) o.val = fromR h o := by
  unfold fromO fromR
  rcases reads_F (may_of hc) hk ho wo with ⟨h0, hn⟩ | ⟨h0, u, hu, _, hw⟩
  · rw [if_pos h0, h0, hn]; rfl
  · rw [if_neg h0, hu, hw]; rfl
theorem rd_congr {h : List TxnV} {F : Int → Option WV} {i : Int} : ∀ (l : List OpV), (∀ o ∈ l, fromO F o.val = fromR h o) → rdFr F i l = rdR h i l
  | [], _ => rfl
  | a :: l, hl => by
    have ih := rd_congr (i := i) l (fun o ho => hl o (List.mem_cons_of_mem _ ho))
    have ha := hl a List.mem_cons_self
    unfold rdFr rdR at *
    rw [List.filter_cons, List.filter_cons, ha]
    split
    · rw [List.map_cons, List.map_cons, ih, ha]
    · exact ih
theorem refReads_in {l : List OpV} {o : OpV} (ho : o ∈ refReads l) : o ∈ l ∧ o.wr = false := by
  obtain ⟨k, _, hk⟩ := upTo_mem.1 ho
  obtain ⟨h1, h2⟩ := rdK_some.1 hk
  exact ⟨(firstO_key h1).2, h2⟩
theorem reads_same {h : List TxnV} (hc : checkI h = 0) {k : Nat} (hk : k < h.length) : readsOf h k = rdR h k (refReads h[k].l) := by
  unfold readsOf
  rw [opsAt_eq hk]
  refine rd_congr _ fun o ho => ?_
  obtain ⟨h1, h2⟩ := refReads_in ho
  exact from_same hc hk h1 h2
end Go.Proofs.Ytflalehpdngklaa

namespace Go.Proofs.Ytflalehpdngklaa
set_option maxRecDepth 100000
open Go.RowKit

theorem wrsRow_bit (i : Nat) (hi : i < 64) (j : Nat) (y : Int) : ∀ (xs : List Int) (F : Int → Option Nat), ((wrsRow i F xs y).getD 0).testBit j = (((F y).getD 0).testBit j || (decide (y ∈ xs) && decide (i = j)))
  | [], F => by simp [wrsRow]
  | x :: xs, F => by
    have ih := wrsRow_bit i hi j y xs (putF F x (withS ((F x).getD 0) i))
    show ((wrsRow i (putF F x (withS ((F x).getD 0) i)) xs y).getD 0).testBit j = _
    rw [ih]
    by_cases e : y = x
    · subst e
      rw [putF_same, Option.getD_some, testBit_withS, Int.toNat_natCast]
      have : decide (0 ≤ (i : Int) ∧ (i : Int) < 64) = true := by simp; omega
      rw [this]
      cases ((F y).getD 0).testBit j <;> by_cases h : i = j <;> simp [h]
    · rw [putF_other F _ e]
      simp [e]
theorem wrsTo_bit (K : List KRow) (j : Nat) (y : Int) : ∀ m, m ≤ 64 → m ≤ K.length → ((wrsTo K m y).getD 0).testBit j = (decide (j < m) && decide (y ∈ ((K[j]?).map (·.2)).getD []))
  | 0, _, _ => by simp [wrsTo]
  | m + 1, h64, hm => by
    have ih := wrsTo_bit K j y m (by omega) (by omega)
    have hlt : m < K.length := by omega
    rw [wrsTo_succ hlt, wrsRow_bit m (by omega) j y, ih]
    by_cases e : m = j
    · subst e
      simp [List.getElem?_eq_getElem hlt]
    · by_cases h : j < m
      · have h2 : j < m + 1 := by omega
        simp [h, h2, e]
      · have h2 : ¬ j < m + 1 := by omega
        simp [h, h2, e]
theorem keys_at {h : List TxnV} {K : List KRow} (hK : K.map (·.2) = keysTo h h.length) {k : Nat} (hk : k < h.length) : ((K[k]?).map (·.2)).getD [] = keysOf (opsAt h k) := by
  rw [← List.getElem?_map, hK]
  unfold keysTo
  simp [hk]
theorem keys_len {h : List TxnV} {K : List KRow} (hK : K.map (·.2) = keysTo h h.length) : K.length = h.length := by
  have := congrArg List.length hK
  simpa [keysTo] using this
end Go.Proofs.Ytflalehpdngklaa

namespace Go.Proofs.Ytflalehpdngklaa
set_option maxRecDepth 100000
open Go.RowKit

/-- Where what is read lies. -/
theorem ordis_reads {w : World} {B b : Nat} {h : List TxnV} (hO : OrdIs w B b h) : ∃ ro rcap, w.cell? ⟨B, 195, none⟩ = some (.slice ro h.length rcap) ∧ ∀ i, i < h.length → ∃ g o ao cap, ro = some ⟨g, o, none⟩ ∧ w.cell? ⟨g, o + i, none⟩ = some (.slice ao (readsOf h i).length cap) ∧ Frs w (.slice ao (readsOf h i).length cap) (readsOf h i) := by
  obtain ⟨bm, m, c, vk, vr, K, R, h1, h2, h3, h4, h5, h6⟩ := hO
  have hl : R.length = h.length := by have := congrArg List.length h6; simpa [readsTo] using this
  have hF := h4.frws
  obtain ⟨⟨hlen, ro, rcap, rfl, hm, hno, hc⟩, hE⟩ := hF
  refine ⟨ro, rcap, by rw [← hl]; exact h1.cR, fun i hi => ?_⟩
  obtain ⟨g, o, rfl, hcell⟩ := hc (by omega)
  have hiR : i < R.length := by omega
  have he : R[i].2 = readsOf h i := by
    have := congrArg (·[i]?) h6
    simp only [List.getElem?_map, List.getElem?_eq_getElem hiR, readsTo, List.getElem?_range hi, Option.map_some] at this
    exact Option.some.inj this
  have hfr := hE _ (List.getElem_mem hiR)
  rw [he] at hfr
  obtain ⟨ao, cap, e, _⟩ := hfr.form
  refine ⟨g, o, ao, cap, rfl, ?_, by rw [← e]; exact hfr⟩
  rw [hcell i (by omega), List.getElem?_map, List.getElem?_eq_getElem hiR]
  rw [← e]; rfl
/-- Where the keys lie. -/
theorem ordis_keys {w : World} {B b : Nat} {h : List TxnV} (hO : OrdIs w B b h) : ∃ ro rcap, w.cell? ⟨B, 194, none⟩ = some (.slice ro h.length rcap) ∧ ∀ i, i < h.length → ∃ g o ao cap, ro = some ⟨g, o, none⟩ ∧ w.cell? ⟨g, o + i, none⟩ = some (.slice ao (keysOf (opsAt h i)).length cap) ∧ Ints w (.slice ao (keysOf (opsAt h i)).length cap) (keysOf (opsAt h i)) := by
  obtain ⟨bm, m, c, vk, vr, K, R, h1, h2, h3, h4, h5, h6⟩ := hO
  have hl := keys_len h5
  have hF := h4.rws
  obtain ⟨ro, rcap, rfl⟩ := hF.form
  refine ⟨ro, rcap, by rw [← hl]; exact h1.cK, fun i hi => ?_⟩
  have hiK : i < K.length := by omega
  obtain ⟨g, o, rfl, hcell, hint⟩ := hF.at hiK
  have he : K[i].2 = keysOf (opsAt h i) := by
    have := keys_at h5 hi
    rw [List.getElem?_eq_getElem hiK] at this
    exact this
  rw [he] at hint
  obtain ⟨ao, cap, e, _⟩ := hint.form
  refine ⟨g, o, ao, cap, rfl, by rw [← e]; exact hcell, by rw [← e]; exact hint⟩
theorem neqRd (k f : Int) (w : World) : Sem.run Try.prog (binOp .neq 46 (.agg #[.int .i64 k, .int .i64 f]) (.agg #[.int .i64 k, .int .i64 f])) w = .ok (.bool false) w := by
  have hS : Try.prog.underlying 46 = some (.struct (Try.prog.fieldsOf 46)) := by kernel_rfl
  have hp : Try.prog.stoodInHeld 46 = false := by kernel_rfl
  have u3 := Try.underlying3
  rw [run_neq_struct, show (10000 : Nat) = 9999 + 1 from rfl, run_equalIn_agg w 9999 46 _ _ hS hp]
  simp only [Program.fieldsOf, Try.underlying46]
  go_simp
theorem guardRd4 (o : BinOp) (x y : Operand) (k f k' f' : Int) (w : World) : Sem.run Try.prog (eqGuard o 46 x y (.agg #[.int .i64 k, .int .i64 f]) (.agg #[.int .i64 k', .int .i64 f'])) w = .ok () w :=
  run_eqGuard_agg w o 46 x y _ _ (by kernel_rfl)
/-- Sums. -/
def sumN : Nat → (Nat → Nat) → Nat
  | 0, _ => 0
  | n + 1, g => sumN n g + g n
theorem sumN_succ (n : Nat) (g : Nat → Nat) : sumN (n + 1) g = sumN n g + g n := rfl
theorem sumN_congr {f g : Nat → Nat} : ∀ n, (∀ i, i < n → f i = g i) → sumN n f = sumN n g
  | 0, _ => rfl
  | n + 1, h => by rw [sumN_succ, sumN_succ, sumN_congr n (fun i hi => h i (by omega)), h n (by omega)]
theorem sumN_zero : ∀ n, sumN n (fun _ => 0) = 0
  | 0 => rfl
  | n + 1 => by rw [sumN_succ, sumN_zero n]
theorem sumN_add (f g : Nat → Nat) : ∀ n, sumN n (fun i => f i + g i) = sumN n f + sumN n g
  | 0 => rfl
  | n + 1 => by rw [sumN_succ, sumN_succ, sumN_succ, sumN_add f g n]; omega
theorem sumN_swap (b : Nat) (f : Nat → Nat → Nat) : ∀ a, sumN a (fun x => sumN b (fun i => f x i)) = sumN b (fun i => sumN a (fun x => f x i))
  | 0 => (sumN_zero b).symm
  | a + 1 => by
    rw [sumN_succ, sumN_swap b f a, ← sumN_add]
    rfl
theorem sumN_more {g : Nat → Nat} {n : Nat} (h : ∀ i, n ≤ i → g i = 0) : ∀ d, sumN (n + d) g = sumN n g
  | 0 => rfl
  | d + 1 => by rw [← Nat.add_assoc, sumN_succ, sumN_more h d, h _ (by omega)]; rfl
theorem sumN_one {f f' : Nat → Nat} {x : Nat} (h : ∀ i, i ≠ x → f i = f' i) (h0 : f' x = 0) : ∀ n, x < n → sumN n f = f x + sumN n f'
  | 0, hx => absurd hx (by omega)
  | n + 1, hx => by
    rw [sumN_succ, sumN_succ]
    by_cases e : x = n
    · subst e
      rw [sumN_congr x (fun i hi => h i (by omega)), h0]; omega
    · rw [sumN_one h h0 n (by omega), h n (by omega)]; omega
theorem sumN_le {g : Nat → Nat} {m : Nat} (h : ∀ i, g i ≤ m) : ∀ n, sumN n g ≤ m * n
  | 0 => Nat.le_refl _
  | n + 1 => by
    rw [sumN_succ, Nat.mul_add]
    have := sumN_le h n
    have := h n
    omega
theorem lstTo_sum (s : Nat) : ∀ k, (lstTo s k).length = sumN k (fun i => if s.testBit i then 1 else 0)
  | 0 => rfl
  | k + 1 => by
    rw [lstTo_succ, List.length_append, lstTo_sum s k, sumN_succ]
    cases s.testBit k <;> rfl
theorem upTo_sum (g : Nat → Option OpV) : ∀ n, (upTo g n).length = sumN n (fun x => if (g x).isSome then 1 else 0)
  | 0 => rfl
  | n + 1 => by
    rw [upTo_succ, List.length_append, upTo_sum g n, sumN_succ]
    cases g n <;> rfl
theorem keysOf_mem {l : List OpV} {x : Nat} (hx : x < 64) : (x : Int) ∈ keysOf l ↔ (wrK l x).isSome = true := by
  unfold keysOf refWrites
  constructor
  · intro hy
    obtain ⟨o, ho, he⟩ := List.mem_map.1 hy
    obtain ⟨k, hk, hs⟩ := upTo_mem.1 ho
    have h1 : lastW l k = some o := hs
    have h2 := (lastW_key h1).1
    have h3 : k = x := by omega
    subst h3
    rw [hs]; rfl
  · intro hs
    obtain ⟨o, ho⟩ := Option.isSome_iff_exists.1 hs
    have h1 : lastW l x = some o := ho
    exact List.mem_map.2 ⟨o, upTo_mem.2 ⟨x, hx, ho⟩, (lastW_key h1).1⟩
theorem keysOf_sum (l : List OpV) : (keysOf l).length = sumN 64 (fun x => if (x : Int) ∈ keysOf l then 1 else 0) := by
  have e : (keysOf l).length = (upTo (wrK l) 64).length := by unfold keysOf refWrites; rw [List.length_map]
  rw [e, upTo_sum]
  refine sumN_congr 64 fun x hx => ?_
  by_cases h : (wrK l x).isSome = true
  · rw [if_pos h, if_pos ((keysOf_mem hx).2 h)]
  · rw [if_neg h, if_neg (fun q => h ((keysOf_mem hx).1 q))]
theorem keysOf_le (l : List OpV) : (keysOf l).length ≤ 64 := by
  unfold keysOf refWrites; rw [List.length_map]; exact upTo_len _ _
/-- How many write to a key; what is still to come of a range over the map. -/
def cntK (F : Int → Option Nat) (x : Nat) : Nat := (lst ((F (x : Int)).getD 0)).length
def leftN (F : Int → Option Nat) (left : Int → Bool) : Nat := sumN 64 (fun x => if left (x : Int) then cntK F x else 0)
/-- The map says who writes. -/
def WrsIs (F : Int → Option Nat) (h : List TxnV) : Prop := ∀ y j, ((F y).getD 0).testBit j = (decide (j < h.length) && decide (y ∈ keysOf (opsAt h j)))
theorem wrsIs_of {h : List TxnV} {K : List KRow} (hc : checkI h = 0) (hK : K.map (·.2) = keysTo h h.length) : WrsIs (wrsTo K K.length) h := fun y j => by
  have h64 := (check_zero hc).1
  have hl := keys_len hK
  rw [wrsTo_bit K j y K.length (by omega) (Nat.le_refl _), hl]
  by_cases hj : j < h.length
  · rw [keys_at hK hj]
  · simp [hj]
/-- The map of writers. -/
theorem ordis_map {w : World} {B b : Nat} {h : List TxnV} (hO : OrdIs w B b h) (hc : checkI h = 0) : ∃ bm m c F, w.cell? ⟨B, 193, none⟩ = some (.map (some bm)) ∧ MapI eS Try.prog 3 w bm m F c ∧ AllSet F ∧ WrsIs F h := by
  obtain ⟨bm, m, c, vk, vr, K, R, h1, h2, h3, h4, h5, h6⟩ := hO
  exact ⟨bm, m, c, _, h1.cM, h2, h3, wrsIs_of hc h5⟩
theorem keys_in {h : List TxnV} (hc : checkI h = 0) {j : Nat} (hj : j < h.length) {y : Int} (hy : y ∈ keysOf (opsAt h j)) : 0 ≤ y ∧ y < 64 := by
  obtain ⟨_, _, _, hks⟩ := check_zero hc
  obtain ⟨o, ho, rfl⟩ := List.mem_map.1 hy
  have h3 := (refWrites_mem ho).1
  rw [opsAt_eq hj] at h3
  exact hks _ (List.getElem_mem hj) o h3
theorem wrs_has {F : Int → Option Nat} {h : List TxnV} (hc : checkI h = 0) (hW : WrsIs F h) {i : Nat} (hi : i < h.length) {y : Int} (hy : y ∈ keysOf (opsAt h i)) : hasB ((F y).getD 0) (i : Int) = true := by
  have h64 := (check_zero hc).1
  unfold hasB
  rw [Int.toNat_natCast, hW y i]
  have e1 : decide (0 ≤ (i : Int) ∧ (i : Int) < 64) = true := by simp; omega
  rw [e1]
  simp [hi, hy]
theorem wrs_out {F : Int → Option Nat} {h : List TxnV} (hc : checkI h = 0) (hW : WrsIs F h) {y : Int} (hy : ¬ (0 ≤ y ∧ y < 64)) : lst ((F y).getD 0) = [] := by
  unfold lst lstTo
  rw [List.filter_eq_nil_iff]
  intro j _ hb
  rw [hW y j, Bool.and_eq_true, decide_eq_true_eq, decide_eq_true_eq] at hb
  exact hy (keys_in hc hb.1 hb.2)
theorem keys_sum {F : Int → Option Nat} {h : List TxnV} (hc : checkI h = 0) (hW : WrsIs F h) : sumN h.length (fun i => (keysOf (opsAt h i)).length) = sumN 64 (cntK F) := by
  have h64 := (check_zero hc).1
  rw [sumN_congr (g := fun i => sumN 64 (fun x => if (x : Int) ∈ keysOf (opsAt h i) then 1 else 0)) h.length (fun i _ => keysOf_sum _), ← sumN_swap]
  refine sumN_congr 64 fun x _ => ?_
  unfold cntK lst
  rw [lstTo_sum]
  obtain ⟨d, hd⟩ : ∃ d, 64 = h.length + d := ⟨64 - h.length, by omega⟩
  rw [hd, sumN_more (n := h.length) (fun i hi => by rw [hW]; simp [Nat.not_lt.2 hi]) d]
  refine sumN_congr _ fun i hi => ?_
  rw [hW]
  by_cases hx : (x : Int) ∈ keysOf (opsAt h i) <;> simp [hi, hx]
theorem left_start (F : Int → Option Nat) : leftN F (fun x => (F x).isSome) = sumN 64 (cntK F) := by
  refine sumN_congr 64 fun x _ => ?_
  show (if (F (x : Int)).isSome = true then cntK F x else 0) = cntK F x
  cases e : F (x : Int) with
  | none =>
    have : cntK F x = 0 := by unfold cntK; rw [e]; show (lst 0).length = 0; rw [lst_zero]; rfl
    rw [this]; rfl
  | some u => exact if_pos rfl
theorem left_step {F : Int → Option Nat} {h : List TxnV} (hc : checkI h = 0) (hW : WrsIs F h) {left : Int → Bool} {x : Int} {u : Nat} (hl : left x = true) (hu : F x = some u) :
    leftN F left = (lst u).length + leftN F (fun y => left y && !decide (y = x)) := by
  by_cases hx : 0 ≤ x ∧ x < 64
  · obtain ⟨n, rfl⟩ := Int.eq_ofNat_of_zero_le hx.1
    have hn : n < 64 := by omega
    unfold leftN
    rw [sumN_one (x := n) (f' := fun y => if (left (y : Int) && !decide ((y : Int) = (n : Int))) then cntK F y else 0) (fun i hi => ?_) (by simp) 64 hn]
    · simp only [hl, if_true]
      unfold cntK
      rw [hu]; rfl
    · have : ¬ (i : Int) = (n : Int) := by omega
      simp [this]
  · have h0 := wrs_out hc hW hx
    rw [hu] at h0
    have h0 : lst u = [] := h0
    rw [h0]
    unfold leftN
    rw [List.length_nil, Nat.zero_add]
    refine sumN_congr 64 fun i hi => ?_
    have : ¬ (i : Int) = x := by omega
    simp [this]
theorem left_end (F : Int → Option Nat) {left : Int → Bool} (h : ∀ x, InI x → left x = false) : leftN F left = 0 := by
  unfold leftN
  rw [sumN_congr (g := fun _ => 0) 64 (fun x hx => ?_), sumN_zero]
  rw [h (x : Int) (inI_of ⟨by omega, by omega⟩)]; rfl
end Go.Proofs.Ytflalehpdngklaa

namespace Go.Proofs.Ytflalehpdngklaa
set_option maxRecDepth 100000
open Go.RowKit

/-- What a read of a history that may be reads: nothing of others, or what one wrote, and whether that is the last. -/
theorem read_of {h : List TxnV} (hc : checkI h = 0) {k : Nat} (hk : k < h.length) {o : OpV} (ho : o ∈ refReads h[k].l) :
    (o.val = 0 ∧ badFr (wrTo h h.length) (k : Int) o = false) ∨ (o.val ≠ 0 ∧ ∃ n : Nat, ∃ hn : n < h.length, wrI o.key o.val h = (n : Int) ∧ badFr (wrTo h h.length) (k : Int) o = (decide ((n : Int) = (k : Int)) || !(vOf h[n].l o.key == o.val))) := by
  obtain ⟨h1, h2⟩ := refReads_in ho
  rcases reads_F (may_of hc) hk h1 h2 with ⟨h0, hn⟩ | ⟨h0, u, hu, hku, hw⟩
  · refine .inl ⟨h0, ?_⟩
    unfold badFr
    rw [h0, hn]
  · refine .inr ⟨h0, ?_⟩
    obtain ⟨p, hp, hpv, hpk⟩ := real_wr h h.length (Nat.le_refl _) o.val u hu
    obtain ⟨t, ht, hpt, hpw⟩ := wrs_mem.1 hp
    obtain ⟨n, hn, rfl⟩ := List.getElem_of_mem ht
    have h3 := may_wr (may_of hc) hn hpt hpw
    rw [hpv, hu] at h3
    have h4 := Option.some.inj h3
    refine ⟨n, hn, ?_, ?_⟩
    · rw [hw, h4]
    · unfold badFr
      rw [hu, h4, hpk, hku]
set_option maxHeartbeats 8000000 in
theorem rsound_any (va : Value) (h : List TxnV) (hc : checkI h = 0) (w : World) (hT : Txns w va h) :
    Calls Try.prog 8 #[va] w fun e w' => e = .returned (.bool (soundTo h h.length)) ∧ Below w.heap.size w w' := by
  obtain ⟨ao, cap, rfl, hal⟩ := hT.form
  have HT := Lib.hid (fun wx (hx : Below w.heap.size w wx) => hT.below hx)
  have HC := Lib.hid hc
  have HQ : Hid (soundTo h h.length = (List.range h.length).all (soundOf h)) := Lib.hid rfl
  clear hT hc
  generalize soundTo h h.length = q at *
  go_enter Try.func8, Try.ntmps8
  go_wp2_with fail
  go_loopw [3] (fun i wr => ∃ k : Nat, k ≤ h.length ∧ i = .int .i64 k ∧ (List.range k).all (soundOf h) = true ∧ Below w.heap.size w wr) (fun i _ => h.length - (intOf i).toNat)
  case atStart => exact ⟨0, by omega, rfl, rfl, Below.refl _ _⟩
  case round =>
    obtain ⟨k, hk, rfl, hall, hb⟩ := hrel
    by_cases hlt : k < h.length
    · have hki : (k : Int) < (h.length : Int) := by omega
      have HN := Lib.hid (show (List.range (k + 1)).all (soundOf h) = soundOf h k by rw [List.range_succ, List.all_append, hall]; simp)
      have HF : Hid (soundOf h k = false → false = q) := Lib.hid (fun e => by rw [HQ.out]; symm; exact List.all_eq_false.2 ⟨k, List.mem_range.2 hlt, by simp [e]⟩)
      have HS : Hid (soundOf h k = (!(refReads h[k].l).any (badFr (wrTo h h.length) (k : Int)) && steadyL h[k].l)) := Lib.hid (by unfold soundOf; rw [opsAt_eq hlt])
      have HR := Lib.hid (fun o (ho : o ∈ refReads h[k].l) => read_of HC.out hlt ho)
      have C1 := Lib.hid (fun wx (hx : Below w.heap.size w wx) => rsteady_any h[k].v h[k].l wx ((HT.out _ hx).ops hlt))
      have C2 := Lib.hid (fun wx (hx : Below w.heap.size w wx) => rreads_any h[k].v h[k].l wx ((HT.out _ hx).ops hlt))
      have HAT := Lib.hid (fun wx (hx : Below w.heap.size w wx) => (HT.out _ hx).at hlt)
      generalize soundOf h k = sk at *
      generalize refReads h[k].l = L at *
      generalize steadyL h[k].l = st at *
      generalize h[k].v = vk at *
      obtain ⟨g, o, hao, c0, c1, c2, c3⟩ := HAT.out _ hb
      cases hao
      clear c0 c1 c2
      go_wp2_with fail
      refine (C1.out _ hb).mono ?_
      rintro e w1 ⟨rfl, hb1⟩
      have hb2 := below_then hb hb1
      clear c3 hb hb1 C1
      cases st
      · have HE : Hid (false = q) := Lib.hid (HF.out (by rw [HS.out, Bool.and_false]))
        clear HF HS HN HR C2
        go_wp2_with fail
        go_ret
        exact ⟨ret_b HE.out, hb2⟩
      · obtain ⟨_, _, hao, _, _, _, c3⟩ := HAT.out _ hb2
        cases hao
        go_wp2_with fail
        refine (C2.out _ hb2).mono ?_
        rintro e w3 ⟨v3, rfl, hO, hb3⟩
        have hb4 := below_then hb2 hb3
        have hL := hO.ops
        obtain ⟨a3, cap3, rfl, _⟩ := hL.form
        clear C2 c3 hO hb2 hb3
        go_wp2_with fail
        go_loopw [5] (fun j wx => ∃ n : Nat, n ≤ L.length ∧ j = .int .i64 n ∧ (L.take n).any (badFr (wrTo h h.length) (k : Int)) = false ∧ Below w.heap.size w wx ∧ Below w3.heap.size w3 wx) (fun j _ => L.length - (intOf j).toNat)
        case atStart => exact ⟨0, by omega, rfl, rfl, hb4, Below.refl _ _⟩
        case round =>
          obtain ⟨n, hn, rfl, hany, hbx, hb5⟩ := hrel
          by_cases hltn : n < L.length
          · have hni : (n : Int) < (L.length : Int) := by omega
            obtain ⟨g1, o1, hao, d0, d1, d2⟩ := (hL.below hb5).at hltn
            cases hao
            have HX := Lib.hid (anyf_take (f := badFr (wrTo h h.length) (k : Int)) hltn hany)
            have HH := Lib.hid (fun e => anyf_hit (f := badFr (wrTo h h.length) (k : Int)) hltn e)
            have hr := HR.out _ (List.getElem_mem hltn)
            generalize badFr (wrTo h h.length) (k : Int) L[n] = bd at *
            generalize L[n].key = y at *
            generalize L[n].val = z at *
            rcases hr with ⟨hz, hbad⟩ | ⟨hz, m, hm, hwm, hbad⟩
            · have HB := Lib.hid (HX.out.trans hbad)
              subst hz
              clear HX HH hbad
              go_wp2_with fail
              go_roundw
              case rel => exact ⟨n + 1, by omega, by go_num, HB.out, hbx, hb5⟩
              case measure => simp [intOf]; omega
            · have CW := Lib.hid (fun wx (hx : Below w.heap.size w wx) => writer_any _ h y z wx (HT.out _ hx))
              rw [hwm] at CW
              have CL := Lib.hid (fun wx (hx : Below w.heap.size w wx) => rlast_any h[m].s h[m].b h[m].c h[m].v h[m].l y z wx ((HT.out _ hx).ops hm))
              have HAM := Lib.hid (fun wx (hx : Below w.heap.size w wx) => (HT.out _ hx).at hm)
              have hmi : (m : Int) < (h.length : Int) := by omega
              have hlo := block_lt d1
              simp only at hlo
              clear hwm
              go_wp2_with fail
              have kk := Below.refl wr.heap.size wr
              go_region_held3 (fun w' => w'.cell? ⟨g1, o1 + n * 3 + 1, none⟩ = some (.int .i64 y) ∧ w'.cell? ⟨g1, o1 + n * 3 + 2, none⟩ = some (.int .i64 z))
                (go_keep)
                (first
                  | (go_at_call 33; refine (CW.out _ (below_then hbx (by first | exact kk | exact kk.drew | exact below_drewN kk _))).mono ?_; rintro e wy ⟨rfl, hby⟩; have kk : Below wr.heap.size wr wy := (by first | exact below_then kk hby | exact below_then kk ⟨hby.os, hby.tape, hby.output, hby.size, hby.block⟩); have d1 := (kk.cell (p := ⟨g1, o1 + n * 3 + 1, none⟩) hlo).trans d1; have d2 := (kk.cell (p := ⟨g1, o1 + n * 3 + 2, none⟩) hlo).trans d2))
              have hb6 := below_then hbx kk
              have hb7 := below_then hb5 kk
              obtain ⟨g2, o2, hao, e0, e1, e2, e3⟩ := HAM.out _ hb6
              cases hao
              clear CW hby
              by_cases hmk : m = k
              · have HE : Hid (false = q) := Lib.hid (HF.out (by
                  have h1 := HH.out (by rw [hbad, decide_eq_true (by omega)]; rfl)
                  rw [HS.out, h1]; rfl))
                subst hmk
                clear HF HS HN HH HX HR HAT HAM CL hbad e0 e1 e2 e3
                go_wp2_with fail
                go_quiet (fail)
                go_wp2_with fail
                go_ret
                exact ⟨ret_b HE.out, by first | exact hb6 | exact below_drewN hb6 _⟩
              · have hmki : ¬ (m : Int) = (k : Int) := by omega
                have hbq : ((m : Int) == (k : Int)) = false := by simpa using hmki
                rw [decide_eq_false hmki, Bool.false_or] at hbad
                have hm0 := block_lt e0
                simp only at hm0
                have hlo2 := block_lt d1
                simp only at hlo2
                have d0' := d0
                clear kk d0'
                go_wp2_with fail
                have kk := Below.refl wy.heap.size wy
                go_region_held3 (fun w' => (w'.cell? ⟨g, o + m * 4, none⟩ = some (.int .i64 h[m].s) ∧ w'.cell? ⟨g, o + m * 4 + 1, none⟩ = some (.int .i64 h[m].b) ∧ w'.cell? ⟨g, o + m * 4 + 2, none⟩ = some (.int .i64 h[m].c) ∧ w'.cell? ⟨g, o + m * 4 + 3, none⟩ = some h[m].v) ∧ w'.cell? ⟨g1, o1 + n * 3 + 1, none⟩ = some (.int .i64 y) ∧ w'.cell? ⟨g1, o1 + n * 3 + 2, none⟩ = some (.int .i64 z))
                  (go_keep)
                  (first
                    | (go_at_call 34; refine (CL.out _ (below_then hb6 (by first | exact kk | exact kk.drew | exact below_drewN kk _))).mono ?_; rintro e wz ⟨rfl, hbz⟩; have kk : Below wy.heap.size wy wz := (by first | exact below_then kk hbz | exact below_then kk ⟨hbz.os, hbz.tape, hbz.output, hbz.size, hbz.block⟩); have d1 := (kk.cell (p := ⟨g1, o1 + n * 3 + 1, none⟩) hlo2).trans d1; have d2 := (kk.cell (p := ⟨g1, o1 + n * 3 + 2, none⟩) hlo2).trans d2; have e0 := (kk.cell (p := ⟨g, o + m * 4, none⟩) hm0).trans e0; have e1 := (kk.cell (p := ⟨g, o + m * 4 + 1, none⟩) hm0).trans e1; have e2 := (kk.cell (p := ⟨g, o + m * 4 + 2, none⟩) hm0).trans e2; have e3 := (kk.cell (p := ⟨g, o + m * 4 + 3, none⟩) hm0).trans e3))
                have hb8 := below_then hb6 kk
                have hb9 := below_then hb7 kk
                clear CL hbz d1 d2 e0 e1 e2 e3 HAM
                cases hv : (vOf h[m].l y == z)
                · have HE : Hid (false = q) := Lib.hid (HF.out (by
                    have h1 := HH.out (by rw [hbad, hv]; rfl)
                    rw [HS.out, h1]; rfl))
                  clear HF HS HN HH HX HR HAT hbad
                  go_wp2_with fail
                  go_ret
                  exact ⟨ret_b HE.out, hb8⟩
                · have HB := Lib.hid (HX.out.trans (hbad.trans (by rw [hv, Bool.not_true])))
                  clear HF HS HN HH HX HR HAT hbad
                  go_wp2_with fail
                  go_roundw
                  case rel => exact ⟨n + 1, by omega, by go_num, HB.out, hb8, hb9⟩
                  case measure => simp [intOf]; omega
          · have hn2 : n = L.length := by omega
            subst hn2
            rw [List.take_length] at hany
            have HE : Hid ((List.range (k + 1)).all (soundOf h) = true) := Lib.hid (by rw [HN.out, HS.out, hany]; rfl)
            clear HN HF HS HR HAT
            go_wp2_with fail
            go_roundw
            case rel => exact ⟨k + 1, by omega, by go_num, HE.out, hbx⟩
            case measure => simp [intOf]; omega
    · have hk2 : k = h.length := by omega
      subst hk2
      have HE : Hid (true = q) := Lib.hid (by rw [HQ.out]; exact hall.symm)
      go_wp2_with fail
      go_ret
      exact ⟨ret_b HE.out, hb⟩
end Go.Proofs.Ytflalehpdngklaa

namespace Go.Proofs.Ytflalehpdngklaa
set_option maxRecDepth 100000
open Go.RowKit

theorem takeG {P : Program} {ops : Array Oper} {Q : Exit → Act → World → Prop} {md : Region.Mode} {S : World → Prop} (d : Option Tmp) {i : Nat} {oi : Oper} {v : Value} {fuel : Nat} {listed : Array Bool} {a : Act} {w : World} (hi : ops[i]? = some oi) (hd : oi.dst = d)
    (hs : Region.noSelect ops = true) (hf : Region.free md ops listed i = true) (hr : (Region.ready md ops listed).contains i = true)
    (hQ : ∀ c a w, Q (.panic c) (a.put oi.dst v) w → Q (.panic c) a w) (hy : YieldsIf P ops S oi v a) (hS : S w)
    (h : wpAnyH P md ops Q S fuel (listed.setIfInBounds i true) (a.put d v) w) : wpAnyH P md ops Q S (fuel + 1) listed a w := by
  subst hd; exact wpAnyH_take hi hs hf hr hQ hy hS h
/-- The block of what follows of a history, without what it reaches. -/
def OrdB (w : World) (B : Nat) (h : List TxnV) : Prop := ∃ vm vk vr, OrdAt w B h.length (sesM h) (timM h) (froM h) vm vk vr (soundTo h h.length)
theorem OrdIs.blk {w : World} {B b : Nat} {h : List TxnV} (hO : OrdIs w B b h) : OrdB w B h := by
  obtain ⟨bm, m, c, vk, vr, K, R, h1, _⟩ := hO
  exact ⟨_, _, _, h1⟩
theorem OrdB.rS {w : World} {B : Nat} {h : List TxnV} (hO : OrdB w B h) : w.rangeAt B 1 (rowsA (sesM h)).toList := by obtain ⟨_, _, _, h⟩ := hO; exact h.rS
theorem OrdB.rT {w : World} {B : Nat} {h : List TxnV} (hO : OrdB w B h) : w.rangeAt B 65 (rowsA (timM h)).toList := by obtain ⟨_, _, _, h⟩ := hO; exact h.rT
theorem OrdB.rF {w : World} {B : Nat} {h : List TxnV} (hO : OrdB w B h) : w.rangeAt B 129 (rowsA (froM h)).toList := by obtain ⟨_, _, _, h⟩ := hO; exact h.rF
theorem OrdB.cN {w : World} {B : Nat} {h : List TxnV} (hO : OrdB w B h) : w.cell? ⟨B, 0, none⟩ = some (.int .i64 h.length) := by obtain ⟨_, _, _, h⟩ := hO; exact h.cN
theorem OrdB.cS {w : World} {B : Nat} {h : List TxnV} (hO : OrdB w B h) : w.cell? ⟨B, 196, none⟩ = some (.bool (soundTo h h.length)) := by obtain ⟨_, _, _, h⟩ := hO; exact h.cS
theorem OrdB.below {w w' : World} {B : Nat} {h : List TxnV} (hO : OrdB w B h) (hb : Below w.heap.size w w') : OrdB w' B h := by
  obtain ⟨vm, vk, vr, h1⟩ := hO
  exact ⟨_, _, _, h1.below hb h1.lt⟩
theorem OrdB.other {w : World} {B : Nat} {h : List TxnV} (hO : OrdB w B h) {k : Addr} (hk : B ≠ k.block) (v : Value) : OrdB (w.setCell k v) B h := by
  obtain ⟨vm, vk, vr, h1⟩ := hO
  exact ⟨_, _, _, h1.other hk v⟩
end Go.Proofs.Ytflalehpdngklaa
