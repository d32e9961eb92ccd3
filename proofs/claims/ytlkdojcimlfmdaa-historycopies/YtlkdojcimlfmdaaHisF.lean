/- The walks of whether a history's values may be, and of Check. Conditions: a slice's cells are known, and hold numbers that are ints; a transaction has fewer operations than memory holds. -/
import Derived.Test.YtlkdojcimlfmdaaHisE
namespace Go.Proofs.Ytlkdojcimlfmdaa
set_option maxRecDepth 100000
open Go.RowKit

/-- Is it a write, a read of 0, or of what is written to its key? -/
def rdOk (F : Int → Option WV) (o : OpV) : Bool := o.wr || o.val == 0 || (match F o.val with
  | none => false
  | some u => u.key == o.key)
def rowOk (F : Int → Option WV) (l : List OpV) : Bool := l.all (rdOk F)
def valuesB (h : List TxnV) : Bool := okW h && h.all fun t => rowOk (wrTo h h.length) t.l
theorem rowOk_succ (F : Int → Option WV) (l : List OpV) (k : Nat) (hk : k < l.length) : rowOk F (l.take (k + 1)) = (rowOk F (l.take k) && rdOk F l[k]) := by
  unfold rowOk; rw [take_snoc l k hk, List.all_append]; simp
theorem rowOk_no {F : Int → Option WV} {l : List OpV} {k : Nat} (hk : k < l.length) (hn : rdOk F l[k] = false) : rowOk F l = false := by
  unfold rowOk; exact List.all_eq_false.2 ⟨l[k], List.getElem_mem hk, by simp [hn]⟩
theorem valuesB_no {h : List TxnV} {k : Nat} (hk : k < h.length) (hn : rowOk (wrTo h h.length) h[k].l = false) : valuesB h = false := by
  unfold valuesB
  rw [Bool.and_eq_false_iff]
  exact .inr (List.all_eq_false.2 ⟨h[k], List.getElem_mem hk, by simp [hn]⟩)
set_option maxHeartbeats 16000000 in
theorem values_any (va : Value) (h : List TxnV) (w : World) (hT : Txns w va h) (hok : ∀ t ∈ h, t.ok) (hks : ∀ t ∈ h, keysIn t.l) (hn : opsN h ≤ 100000) (hlen : h.length ≤ 100000) :
    Calls Try.prog 64 #[va] w fun e w' => e = .returned (.bool (valuesB h)) ∧ Below w.heap.size w w' := by
  obtain ⟨ao, cap, rfl, hal⟩ := hT.form
  have HOK := Lib.hid hok
  have CW := Lib.hid (hwrites_any _ h w hT hok hks hn hlen)
  clear hok hks
  go_enter Try.func64, Try.ntmps64
  go_wp2_with fail
  refine (CW.out).mono ?_
  rintro e w1 ⟨hb1, ⟨hno, rfl⟩ | ⟨hyes, B, n0, rfl, hB, hM0⟩⟩
  · have H : Hid (false = valuesB h) := Lib.hid (by unfold valuesB; rw [hno]; rfl)
    clear hno
    go_wp2_with fail
    go_ret
    exact ⟨ret_b H.out, hb1⟩
  have HY := Lib.hid hyes
  clear hyes CW
  have HVN : Hid (∀ k, ∀ hk : k < h.length, rowOk (wrTo h h.length) h[k].l = false → valuesB h = false) := Lib.hid (fun k hk hh => valuesB_no hk hh)
  have HVY : Hid (h.all (fun t => rowOk (wrTo h h.length) t.l) = true → valuesB h = true) := Lib.hid (fun hh => by unfold valuesB; rw [HY.out, hh]; rfl)
  generalize wrTo h h.length = F at *
  generalize (wvH h).length = cnt at *
  go_wp2_with fail
  go_loopw [20] (fun i wr => ∃ k : Nat, k ≤ h.length ∧ i = .int .i64 k ∧ ((h.take k).all (fun t => rowOk F t.l) = true) ∧ MapI eW Try.prog 3 wr B n0 F cnt ∧ Below w.heap.size w wr) (fun i _ => h.length - (intOf i).toNat)
  case atStart => exact ⟨0, by omega, rfl, rfl, hM0, hb1⟩
  case round =>
    obtain ⟨k, hk, rfl, hP, hM, hb⟩ := hrel
    have HP := Lib.hid hP
    clear hP hM0 hb1
    by_cases hlt : k < h.length
    · have hki : (k : Int) < (h.length : Int) := by omega
      obtain ⟨g, o, hao, c0, c1, c2, c3⟩ := (hT.below hb).at hlt
      cases hao
      have HS : Hid ((h.take (k + 1)).all (fun t => rowOk F t.l) = ((h.take k).all (fun t => rowOk F t.l) && rowOk F h[k].l)) := Lib.hid (by rw [List.take_succ_eq_append_getElem hlt, List.all_append]; simp)
      have HNO := Lib.hid (HVN.out k hlt)
      have hOps := fun wx (hx : Below w.heap.size w wx) => (hT.ops hlt).below hx
      have HTK := Lib.hid (HOK.out h[k] (List.getElem_mem hlt))
      generalize h[k] = t at *
      obtain ⟨s, b, c, v, l⟩ := t
      simp only at c0 c1 c2 c3 HS HNO hOps HTK
      obtain ⟨ai, capi, rfl, hli⟩ := (hOps w (Below.refl _ _)).form
      have HOP := Lib.hid hOps
      have hM1 := hM.alloc (.cells #[.int .i64 s, .int .i64 b, .int .i64 c, .slice ai l.length capi] 29)
      have hbb := hb.alloc hb.size (.cells #[.int .i64 s, .int .i64 b, .int .i64 c, .slice ai l.length capi] 29)
      clear hOps hM hb HVN HVY
      go_wp2_with fail
      generalize wr.alloc (.cells #[.int .i64 s, .int .i64 b, .int .i64 c, .slice ai l.length capi] 29) = w2 at *
      go_loopw [27] (fun i wx => ∃ j : Nat, j ≤ l.length ∧ i = .int .i64 j ∧ rowOk F (l.take j) = true ∧ MapI eW Try.prog 3 wx B n0 F cnt ∧ Below w.heap.size w wx) (fun i _ => l.length - (intOf i).toNat)
      case atStart => exact ⟨0, by omega, rfl, rfl, hM1, hbb⟩
      case round =>
        obtain ⟨j, hj, rfl, hR, hM2, hb2⟩ := hrel
        have HR := Lib.hid hR
        clear hR hM1 hbb
        by_cases hltj : j < l.length
        · have hkj : (j : Int) < (l.length : Int) := by omega
          obtain ⟨g2, o2, hao2, e0, e1, e2⟩ := (HOP.out _ hb2).at hltj
          cases hao2
          have HRS := Lib.hid (rowOk_succ F l j hltj)
          have HRN := Lib.hid (fun hh => rowOk_no (F := F) hltj hh)
          have hox := HTK.out.2 l[j] (List.getElem_mem hltj)
          generalize l[j] = x at *
          obtain ⟨xw, xk, xv⟩ := x
          simp only at e0 e1 e2
          have hkv := inI_of hox.2
          have hM3 := hM2.alloc (.cells #[.bool xw, .int .i64 xk, .int .i64 xv] 31)
          have hb3 := hb2.alloc hb2.size (.cells #[.bool xw, .int .i64 xk, .int .i64 xv] 31)
          clear hox hM2 hb2
          cases xw with
          | true =>
            have H : Hid (rowOk F (l.take (j + 1)) = true) := Lib.hid (by rw [HRS.out, HR.out]; rfl)
            clear HRS HRN
            go_wp2_with fail
            go_roundw
            case rel => exact ⟨j + 1, by omega, by go_num, H.out, hM3, hb3⟩
            case measure => simp [intOf]; omega
          | false =>
            by_cases hx0 : xv = 0
            · subst hx0
              have H : Hid (rowOk F (l.take (j + 1)) = true) := Lib.hid (by rw [HRS.out, HR.out]; rfl)
              clear HRS HRN
              go_wp2_with fail
              go_roundw
              case rel => exact ⟨j + 1, by omega, by go_num, H.out, hM3, hb3⟩
              case measure => simp [intOf]; omega
            · have hx1 : (xv == 0) = false := by simpa using hx0
              have HD : Hid (rdOk F ⟨false, xk, xv⟩ = (match F xv with | none => false | some u => u.key == xk)) := Lib.hid (by unfold rdOk; simp only [hx1]; rfl)
              clear hx0
              cases hv : F xv with
              | none =>
                have H : Hid (false = valuesB h) := Lib.hid (HNO.out (HRN.out (by rw [HD.out, hv]))).symm
                have hb4 := hb3.alloc hb3.size (.cells #[.int .i64 0, .int .i64 0, .bool false] 69)
                clear HRS HRN HD
                go_wp2_with (first | (at_lookup; refine wpList_lookI_ok _ rfl _ _ 64 rfl 3 69 keyI mapIW wZ (zeroW _) _ _ _ _ rfl hM3 _ rfl hkv ?_; rw [hv]; simp only [Option.getD_none, Option.isSome_none, eW, wZ]) | go_in)
                go_ret
                exact ⟨ret_b H.out, hb4⟩
              | some u =>
                obtain ⟨ui, uk, ul⟩ := u
                have HD2 : Hid (rdOk F ⟨false, xk, xv⟩ = (uk == xk)) := Lib.hid (by rw [HD.out, hv])
                have hM4 := hM3.alloc (.cells #[.int .i64 ui, .int .i64 uk, .bool ul] 69)
                have hb4 := hb3.alloc hb3.size (.cells #[.int .i64 ui, .int .i64 uk, .bool ul] 69)
                clear HD
                by_cases huk : uk = xk
                · subst huk
                  have H : Hid (rowOk F (l.take (j + 1)) = true) := Lib.hid (by rw [HRS.out, HR.out, HD2.out]; simp)
                  have hne : (uk != uk) = false := by simp
                  clear HRS HRN HD2
                  go_wp2_with (first | (at_lookup; refine wpList_lookI_ok _ rfl _ _ 64 rfl 3 69 keyI mapIW wZ (zeroW _) _ _ _ _ rfl hM3 _ rfl hkv ?_; rw [hv]; simp only [Option.getD_some, Option.isSome_some, eW]) | go_in)
                  go_roundw
                  case rel => exact ⟨j + 1, by omega, by go_num, H.out, hM4, hb4⟩
                  case measure => simp [intOf]; omega
                · have H : Hid (false = valuesB h) := Lib.hid (HNO.out (HRN.out (by rw [HD2.out]; simpa using huk))).symm
                  have hne : (uk != xk) = true := by simpa using huk
                  clear HRS HRN HD2 huk
                  go_wp2_with (first | (at_lookup; refine wpList_lookI_ok _ rfl _ _ 64 rfl 3 69 keyI mapIW wZ (zeroW _) _ _ _ _ rfl hM3 _ rfl hkv ?_; rw [hv]; simp only [Option.getD_some, Option.isSome_some, eW]) | go_in)
                  go_ret
                  exact ⟨ret_b H.out, hb4⟩
        · have hj2 : j = l.length := by omega
          subst hj2
          have H : Hid ((h.take (k + 1)).all (fun t => rowOk F t.l) = true) := Lib.hid (by have := HR.out; rw [List.take_length] at this; rw [HS.out, HP.out, this]; rfl)
          go_wp2_with fail
          go_roundw
          case rel => exact ⟨k + 1, by omega, by go_num, H.out, hM2, hb2⟩
          case measure => simp [intOf]; omega
    · have hkl : k = h.length := by omega
      subst hkl
      have H : Hid (true = valuesB h) := Lib.hid (HVY.out (by have := HP.out; rw [List.take_length] at this; exact this)).symm
      go_wp2_with fail
      go_ret
      exact ⟨ret_b H.out, hb⟩
end Go.Proofs.Ytlkdojcimlfmdaa
