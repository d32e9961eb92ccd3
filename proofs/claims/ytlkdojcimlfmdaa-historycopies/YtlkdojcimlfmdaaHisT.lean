/- The walks of the library's Equal and EqualFunc at the program's types, and of Same of histories. Conditions: slices' cells are known. -/
import Derived.Test.YtlkdojcimlfmdaaTxZ
import Derived.Test.YtlkdojcimlfmdaaTxnM
import Derived.Test.YtlkdojcimlfmdaaOpQ
import Derived.BigQuiet
namespace Go.Proofs.Ytlkdojcimlfmdaa
set_option maxRecDepth 100000
open Go.RowKit

def sameL (a b : List OpV) : Bool := decide (a = b)
theorem sameL_len {a b : List OpV} (h : a.length ≠ b.length) : sameL a b = false := by unfold sameL; exact decide_eq_false (fun e => h (by rw [e]))
set_option maxHeartbeats 4000000 in
theorem equal_any (va vb : Value) (l m : List OpV) (w : World) (ha : Ops w va l) (hb : Ops w vb m) :
    Calls Try.prog 37 #[va, vb] w fun e w' => e = .returned (.bool (sameL l m)) ∧ Below w.heap.size w w' := by
  obtain ⟨ao, acap, rfl, hal⟩ := ha.form
  obtain ⟨bo, bcap, rfl, hbl⟩ := hb.form
  by_cases hlm : l.length = m.length
  · go_enter Try.func37, Try.ntmps37
    have hlm' : (l.length : Int) = (m.length : Int) := by omega
    rw [hlm] at ha ⊢
    have hne := fun a b c a' b' c' w => neqOp a b c a' b' c' w
    have hgd := fun o x y a b c a' b' c' w => guardOp o x y a b c a' b' c' w
    go_wp2_with fail
    go_loopw [13] (fun i wr => ∃ k : Nat, k ≤ m.length ∧ i = .int .i64 k ∧ l.take k = m.take k ∧ Below w.heap.size w wr) (fun i _ => m.length - (intOf i).toNat)
    case atStart => exact ⟨0, by omega, rfl, rfl, Below.refl _ _⟩
    case round =>
      obtain ⟨k, hk, rfl, hT, hbw⟩ := hrel
      have HT := Lib.hid hT
      have HL := Lib.hid hlm
      clear hT
      by_cases hlt : k < m.length
      · have hki : (k : Int) < (m.length : Int) := by omega
        have hltl : k < l.length := by omega
        obtain ⟨g1, o1, e1, c0, c1, c2⟩ := (ha.below hbw).at hltl
        obtain ⟨g2, o2, e2, d0, d1, d2⟩ := (hb.below hbw).at hlt
        cases e1
        cases e2
        have HS : Hid (l[k] = m[k] → l.take (k + 1) = m.take (k + 1)) := Lib.hid (fun h => by rw [take_snoc l k hltl, take_snoc m k hlt, HT.out, h])
        have HN : Hid (l[k] ≠ m[k] → l ≠ m) := Lib.hid (fun h e => h (by subst e; rfl))
        generalize l[k] = x at *
        generalize m[k] = y at *
        by_cases hxy : x = y
        · have H := Lib.hid (HS.out hxy)
          subst hxy
          obtain ⟨xw, xk, xv⟩ := x
          have hd : ∀ w, Sem.run Try.prog (binOp .neq 31 (.agg #[.bool xw, .int .i64 xk, .int .i64 xv]) (.agg #[.bool xw, .int .i64 xk, .int .i64 xv])) w = .ok (.bool false) w := fun w => by rw [neqOp]; simp
          clear HS HN hne
          simp only at c0 c1 c2 d0 d1 d2
          go_wp2_with fail
          go_quiet (fail)
          go_wp2_with fail
          go_roundw
          case rel => exact ⟨k + 1, by omega, by go_num, H.out, below_drewN hbw _⟩
          case measure => simp [intOf]; omega
        · have H := Lib.hid (HN.out hxy)
          obtain ⟨xw, xk, xv⟩ := x
          obtain ⟨yw, yk, yv⟩ := y
          have hd : ∀ w, Sem.run Try.prog (binOp .neq 31 (.agg #[.bool xw, .int .i64 xk, .int .i64 xv]) (.agg #[.bool yw, .int .i64 yk, .int .i64 yv])) w = .ok (.bool true) w := fun w => by rw [neqOp]; simp only [ne_eq, hxy, not_false_eq_true, decide_true]
          have H2 : Hid (false = sameL l m) := Lib.hid (by unfold sameL; rw [decide_eq_false H.out])
          clear HS HN hne H hxy
          simp only at c0 c1 c2 d0 d1 d2
          go_wp2_with fail
          go_quiet (fail)
          go_wp2_with fail
          go_ret
          exact ⟨ret_b H2.out, below_drewN hbw _⟩
      · have H2 : Hid (true = sameL l m) := Lib.hid (by
          have h := HT.out
          have hk2 : k = m.length := by omega
          rw [hk2, List.take_length, ← HL.out, List.take_length] at h
          unfold sameL; rw [decide_eq_true h])
        clear HT HL
        go_wp2_with fail
        go_ret
        exact ⟨ret_b H2.out, hbw⟩
  · have H2 : Hid (false = sameL l m) := Lib.hid (sameL_len hlm).symm
    have hlm' : ¬ (l.length : Int) = (m.length : Int) := by omega
    clear hlm
    go_enter Try.func37, Try.ntmps37
    go_wp2_with fail
    go_ret
    exact ⟨ret_b H2.out, Below.refl _ _⟩
/-- What a transaction is, wherever its operations lie. -/
def txE (t : TxnV) : Int × Int × Int × List OpV := (t.s, t.b, t.c, t.l)
def sameT (t u : TxnV) : Bool := decide (txE t = txE u)
theorem sameT_iff {t u : TxnV} : sameT t u = true ↔ t.s = u.s ∧ t.b = u.b ∧ t.c = u.c ∧ t.l = u.l := by
  unfold sameT txE; simp
theorem sameT_no {t u : TxnV} (h : ¬ (t.s = u.s ∧ t.b = u.b ∧ t.c = u.c ∧ t.l = u.l)) : sameT t u = false := by
  cases hh : sameT t u
  · rfl
  · exact (h (sameT_iff.1 hh)).elim
theorem sameT_ops {t u : TxnV} (h1 : t.s = u.s) (h2 : t.b = u.b) (h3 : t.c = u.c) : sameT t u = sameL t.l u.l := by
  unfold sameT txE sameL; simp [h1, h2, h3]
set_option maxHeartbeats 4000000 in
theorem same1_any (s b c : Int) (va : Value) (l : List OpV) (s' b' c' : Int) (vb : Value) (m : List OpV) (w : World) (ha : Ops w va l) (hb : Ops w vb m) :
    Calls Try.prog 36 #[.agg #[.int .i64 s, .int .i64 b, .int .i64 c, va], .agg #[.int .i64 s', .int .i64 b', .int .i64 c', vb]] w fun e w' => e = .returned (.bool (sameT ⟨s, b, c, va, l⟩ ⟨s', b', c', vb, m⟩)) ∧ Below w.heap.size w w' := by
  have hb1 := box_below w (.cells #[.int .i64 s, .int .i64 b, .int .i64 c, va] 29)
  have hb2 := hb1.alloc hb1.size (.cells #[.int .i64 s', .int .i64 b', .int .i64 c', vb] 29)
  by_cases h1 : s = s'
  · by_cases h2 : b = b'
    · by_cases h3 : c = c'
      · have H := Lib.hid (sameT_ops (t := ⟨s, b, c, va, l⟩) (u := ⟨s', b', c', vb, m⟩) h1 h2 h3)
        have CE := Lib.hid (equal_any va vb l m _ (ha.below hb2) (hb.below hb2))
        subst h1 h2 h3
        clear ha hb hb1
        go_enter Try.func36, Try.ntmps36
        go_wp2_with fail
        refine (CE.out).mono ?_
        rintro e w2 ⟨rfl, hb3⟩
        have hb4 := below_then hb2 hb3
        clear hb2 hb3 CE
        go_wp2_with fail
        go_ret
        exact ⟨ret_b H.out.symm, hb4⟩
      · have H := Lib.hid (sameT_no (t := ⟨s, b, c, va, l⟩) (u := ⟨s', b', c', vb, m⟩) (fun h => h3 h.2.2.1))
        subst h1 h2
        go_enter Try.func36, Try.ntmps36
        go_wp2_with fail
        go_ret
        exact ⟨ret_b H.out.symm, hb2⟩
    · have H := Lib.hid (sameT_no (t := ⟨s, b, c, va, l⟩) (u := ⟨s', b', c', vb, m⟩) (fun h => h2 h.2.1))
      subst h1
      go_enter Try.func36, Try.ntmps36
      go_wp2_with fail
      go_ret
      exact ⟨ret_b H.out.symm, hb2⟩
  · have H := Lib.hid (sameT_no (t := ⟨s, b, c, va, l⟩) (u := ⟨s', b', c', vb, m⟩) (fun h => h1 h.1))
    go_enter Try.func36, Try.ntmps36
    go_wp2_with fail
    go_ret
    exact ⟨ret_b H.out.symm, hb2⟩
/-- Are two histories one? -/
def sameH (h g : List TxnV) : Bool := decide (h.map txE = g.map txE)
theorem sameH_len {h g : List TxnV} (hl : h.length ≠ g.length) : sameH h g = false := by
  unfold sameH; exact decide_eq_false (fun e => hl (by have := congrArg List.length e; simpa using this))
theorem sameH_no {h g : List TxnV} {k : Nat} (h1 : k < h.length) (h2 : k < g.length) (hn : sameT h[k] g[k] = false) : sameH h g = false := by
  unfold sameH
  refine decide_eq_false (fun e => ?_)
  have h3 : (h.map txE)[k]? = (g.map txE)[k]? := by rw [e]
  simp [List.getElem?_eq_getElem h1, List.getElem?_eq_getElem h2] at h3
  unfold sameT at hn
  exact (of_decide_eq_false hn) h3
theorem txE_take {h g : List TxnV} {k : Nat} (h1 : k < h.length) (h2 : k < g.length) (hT : (h.take k).map txE = (g.take k).map txE) (hy : sameT h[k] g[k] = true) : (h.take (k + 1)).map txE = (g.take (k + 1)).map txE := by
  rw [List.take_succ_eq_append_getElem h1, List.take_succ_eq_append_getElem h2, List.map_append, List.map_append, hT]
  unfold sameT at hy
  simp [of_decide_eq_true hy]
set_option maxHeartbeats 4000000 in
theorem equalF_any (va vb : Value) (h g : List TxnV) (w : World) (ha : Txns w va h) (hb : Txns w vb g) :
    Calls Try.prog 35 #[va, vb, .func (.func 36) #[] #[]] w fun e w' => e = .returned (.bool (sameH h g)) ∧ Below w.heap.size w w' := by
  obtain ⟨ao, acap, rfl, hal⟩ := ha.form
  obtain ⟨bo, bcap, rfl, hbl⟩ := hb.form
  by_cases hlm : h.length = g.length
  · go_enter Try.func35, Try.ntmps35
    have hlm' : (h.length : Int) = (g.length : Int) := by omega
    rw [hlm] at ha ⊢
    go_wp2_with fail
    go_loopw [17] (fun i wr => ∃ k : Nat, k ≤ g.length ∧ i = .int .i64 k ∧ (h.take k).map txE = (g.take k).map txE ∧ Below w.heap.size w wr) (fun i _ => g.length - (intOf i).toNat)
    case atStart => exact ⟨0, by omega, rfl, rfl, Below.refl _ _⟩
    case round =>
      obtain ⟨k, hk, rfl, hT, hbw⟩ := hrel
      have HT := Lib.hid hT
      have HL := Lib.hid hlm
      clear hT
      by_cases hlt : k < g.length
      · have hki : (k : Int) < (g.length : Int) := by omega
        have hltl : k < h.length := by omega
        obtain ⟨g1, o1, e1, c0, c1, c2, c3⟩ := (ha.below hbw).at hltl
        have hAO := fun wx (hx : Below w.heap.size w wx) => (ha.below hx).2 _ (List.getElem_mem hltl)
        have hBO := fun wx (hx : Below w.heap.size w wx) => (hb.below hx).2 _ (List.getElem_mem hlt)
        have hBA := fun wx (hx : Below w.heap.size w wx) => (hb.below hx).at hlt
        have HS := Lib.hid (fun hy => txE_take hltl hlt HT.out hy)
        have HN := Lib.hid (fun hn => sameH_no hltl hlt hn)
        cases e1
        generalize h[k] = x at *
        generalize g[k] = y at *
        obtain ⟨xs, xb, xc, xv, xl⟩ := x
        obtain ⟨ys, yb, yc, yv, yl⟩ := y
        simp only at c0 c1 c2 c3 hAO hBO hBA
        obtain ⟨ai, capi, rfl, _⟩ := (hAO _ hbw).form
        obtain ⟨bi, capj, rfl, _⟩ := (hBO _ hbw).form
        have hb1 := hbw.alloc hbw.size (.cells #[.int .i64 xs, .int .i64 xb, .int .i64 xc, .slice ai xl.length capi] 29)
        have hb2 := hb1.alloc hb1.size (.cells #[.int .i64 ys, .int .i64 yb, .int .i64 yc, .slice bi yl.length capj] 29)
        obtain ⟨g2, o2, e2, d0, d1, d2, d3⟩ := hBA _ hb1
        cases e2
        have HA := Lib.hid hAO
        have HB := Lib.hid hBO
        clear hAO hBO hBA
        have CE := Lib.hid (same1_any xs xb xc _ xl ys yb yc _ yl _ (HA.out _ hb2) (HB.out _ hb2))
        clear hb1 HA HB hbw
        generalize sameT _ _ = q at *
        go_wp2_with fail
        refine (CE.out).mono ?_
        rintro e w2 ⟨rfl, hb3⟩
        have hb4 := below_then hb2 hb3
        clear hb2 hb3 CE
        cases q
        · have H2 : Hid (false = sameH h g) := Lib.hid (HN.out rfl).symm
          clear HS HN
          go_wp2_with fail
          go_ret
          exact ⟨ret_b H2.out, hb4⟩
        · have H := Lib.hid (HS.out rfl)
          clear HS HN
          go_wp2_with fail
          go_roundw
          case rel => exact ⟨k + 1, by omega, by go_num, H.out, hb4⟩
          case measure => simp [intOf]; omega
      · have H2 : Hid (true = sameH h g) := Lib.hid (by
          have h := HT.out
          have hk2 : k = g.length := by omega
          rw [hk2, List.take_length, ← HL.out, List.take_length] at h
          unfold sameH; rw [decide_eq_true h])
        clear HT HL
        go_wp2_with fail
        go_ret
        exact ⟨ret_b H2.out, hbw⟩
  · have H2 : Hid (false = sameH h g) := Lib.hid (sameH_len hlm).symm
    have hlm' : ¬ (h.length : Int) = (g.length : Int) := by omega
    clear hlm
    go_enter Try.func35, Try.ntmps35
    go_wp2_with fail
    go_ret
    exact ⟨ret_b H2.out, Below.refl _ _⟩
set_option maxHeartbeats 4000000 in
theorem sameH_any (va vb : Value) (h g : List TxnV) (w : World) (ha : Txns w va h) (hb : Txns w vb g) :
    Calls Try.prog 10 #[va, vb] w fun e w' => e = .returned (.bool (sameH h g)) ∧ Below w.heap.size w w' := by
  go_enter Try.func10, Try.ntmps10
  go_wp2_with fail
  refine (equalF_any va vb h g w ha hb).mono ?_
  rintro e w2 ⟨rfl, hb3⟩
  go_wp2_with fail
  go_ret
  exact ⟨rfl, hb3⟩
end Go.Proofs.Ytlkdojcimlfmdaa
