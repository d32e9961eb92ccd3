/- The walk of who writes each value. Conditions: a slice's cells are known, and hold numbers that are ints, and keys that may be; there are at most 100000 operations. -/
import Derived.Test.YtlkdojcimlfmdaaHisD
namespace Go.Proofs.Ytlkdojcimlfmdaa
set_option maxRecDepth 100000
open Go.RowKit

theorem mapIW : Try.prog.underlying 64 = some (.map 3 69) := Try.underlying64
theorem zeroW (w : World) : (zeroValue 69).run Try.prog w = .ok (eW wZ) w := by kernel_rfl
theorem ret_mb {v : Value} {a b : Bool} (h : a = b) : Ending.returned (.tuple #[v, .bool a]) = .returned (.tuple #[v, .bool b]) := by rw [h]
/-- The block p holds this. -/
def At (w : World) (p : Nat) (o : Obj) : Prop := w.heap[p]? = some o
theorem At.lt {w : World} {p : Nat} {o : Obj} (h : At w p o) : p < w.heap.size := (Array.getElem?_eq_some_iff.1 h).1
theorem At.new (w : World) (o : Obj) : At (w.alloc o) w.heap.size o := heap_alloc_new w o
theorem At.grown {w w' : World} {p : Nat} {o : Obj} {row : Option Nat} (h : At w p o) (hg : w.grownBy w' row) (hne : some p ≠ row) : At w' p o := (hg.block p h.lt hne).trans h
theorem At.alloc {w : World} {p : Nat} {o : Obj} (h : At w p o) (o' : Obj) : At (w.alloc o') p o := h.grown (World.grownBy_alloc w o' none) (by simp)
theorem At.below {w w' : World} {p : Nat} {o : Obj} (h : At w p o) (hb : Below w.heap.size w w') : At w' p o := (hb.block p h.lt).trans h
theorem At.cells4 {w : World} {p : Nat} {x y z u : Value} {t : TypeId} (h : At w p (.cells #[x, y, z, u] t)) : w.cell? ⟨p, 0, none⟩ = some x ∧ w.cell? ⟨p, 1, none⟩ = some y ∧ w.cell? ⟨p, 2, none⟩ = some z ∧ w.cell? ⟨p, 3, none⟩ = some u := by
  refine ⟨?_, ?_, ?_, ?_⟩ <;> (unfold At at h; simp [World.cell?, h])
/-- What Writes answers. -/
def WrPost (w : World) (h : List TxnV) (e : Ending) (w' : World) : Prop :=
  Below w.heap.size w w' ∧ ((okW h = false ∧ e = .returned (.tuple #[.map none, .bool false])) ∨
    (okW h = true ∧ ∃ b n, e = .returned (.tuple #[.map (some b), .bool true]) ∧ w.heap.size ≤ b ∧ MapI eW Try.prog 3 w' b n (wrTo h h.length) (wvH h).length))
set_option maxHeartbeats 16000000 in
theorem hwrites_any (va : Value) (h : List TxnV) (w : World) (hT : Txns w va h) (hok : ∀ t ∈ h, t.ok) (hks : ∀ t ∈ h, keysIn t.l) (hn : opsN h ≤ 100000) (hlen : h.length ≤ 100000) :
    Calls Try.prog 30 #[va] w (WrPost w h) := by
  obtain ⟨ao, cap, rfl, hal⟩ := hT.form
  have HOK := Lib.hid hok
  have HKS := Lib.hid hks
  clear hok hks
  have hm0 := MapI.made eW Try.prog 3 w
  have hb1 := (Below.refl w.heap.size w).alloc (Nat.le_refl _) (.map #[] 0)
  have hmm := @run_makeMap Try.prog
  go_enter Try.func30, Try.ntmps30
  go_wp2_with fail
  go_loopw [16] (fun i wr => ∃ k n : Nat, k ≤ h.length ∧ i = .int .i64 k ∧ n ≤ 2 * opsN (h.take k) ∧ (wvH (h.take k)).Nodup ∧ Dom (wrTo h k) (wvH (h.take k)) ∧ MapI eW Try.prog 3 wr w.heap.size n (wrTo h k) (wvH (h.take k)).length ∧ Below w.heap.size w wr) (fun i _ => h.length - (intOf i).toNat)
  case atStart => exact ⟨0, 0, by omega, rfl, by omega, by simp [wvH], fun x => by simp [wrTo, wvH], hm0, hb1⟩
  case round =>
    obtain ⟨k, n, hk, rfl, hnn, hN, hD, hM, hb⟩ := hrel
    have HND := Lib.hid hN
    have HD := Lib.hid hD
    clear hN hD hm0 hb1
    by_cases hlt : k < h.length
    · have hki : (k : Int) < (h.length : Int) := by omega
      obtain ⟨g, o, hao, c0, c1, c2, c3⟩ := (hT.below hb).at hlt
      cases hao
      have HW := Lib.hid (wvH_succ h k hlt)
      have HR : Hid (wrTo h (k + 1) = finF (k : Int) (addF (k : Int) (wrTo h k) h[k].l) (refWrites h[k].l)) := Lib.hid (by rw [wrTo_succ, opsAt_eq hlt])
      have HNO := Lib.hid (fun j hh => okW_no (j := j) hlt hh)
      have hOps := fun wx (hx : Below w.heap.size w wx) => (hT.ops hlt).below hx
      have HTK := Lib.hid (HOK.out h[k] (List.getElem_mem hlt))
      have HKK := Lib.hid (HKS.out h[k] (List.getElem_mem hlt))
      have hon := opsN_take h k hlt
      have hol := opsN_le h (k + 1)
      generalize h[k] = t at *
      obtain ⟨s, b, c, v, l⟩ := t
      simp only at c0 c1 c2 c3 HW HR HNO hOps HTK HKK hon
      obtain ⟨ai, capi, rfl, hli⟩ := (hOps w (Below.refl _ _)).form
      have HOP := Lib.hid hOps
      have hpl := hM.lt
      have hM1 := hM.alloc (.cells #[.int .i64 s, .int .i64 b, .int .i64 c, .slice ai l.length capi] 29)
      have hbb := hb.alloc hb.size (.cells #[.int .i64 s, .int .i64 b, .int .i64 c, .slice ai l.length capi] 29)
      have hsz := hb.size
      have hx := txnBlock wr (.int .i64 s) (.int .i64 b) (.int .i64 c) (.slice ai l.length capi) 29
      have hltx : wr.heap.size < (wr.alloc (.cells #[.int .i64 s, .int .i64 b, .int .i64 c, .slice ai l.length capi] 29)).heap.size := by simp
      clear hOps hM hb
      generalize wvH (h.take k) = W at *
      generalize wrTo h k = F at *
      go_wp2_with fail
      have hA0 := At.new wr (.cells #[.int .i64 s, .int .i64 b, .int .i64 c, .slice ai l.length capi] 29)
      generalize wr.alloc (.cells #[.int .i64 s, .int .i64 b, .int .i64 c, .slice ai l.length capi] 29) = w1 at *
      generalize hpp : wr.heap.size = p at *
      have hA1 : At w1 p (.cells #[.int .i64 s, .int .i64 b, .int .i64 c, .slice ai l.length capi] 29) := hA0
      clear hA0 c0 c1 c2 c3 hx hsz
      go_loopw [24] (fun i wx => ∃ j m : Nat, j ≤ l.length ∧ i = .int .i64 j ∧ m ≤ 2 * opsN (h.take k) + j ∧ (W ++ wv (l.take j)).Nodup ∧ Dom (addF (k : Int) F (l.take j)) (W ++ wv (l.take j)) ∧ MapI eW Try.prog 3 wx w.heap.size m (addF (k : Int) F (l.take j)) (W ++ wv (l.take j)).length ∧ At wx p (.cells #[.int .i64 s, .int .i64 b, .int .i64 c, .slice ai l.length capi] 29) ∧ Below w.heap.size w wx) (fun i _ => l.length - (intOf i).toNat)
      case atStart => exact ⟨0, n, by omega, rfl, by omega, by simpa [wv] using HND.out, by simpa [wv, addF] using HD.out, by simpa [wv, addF] using hM1, hA1, hbb⟩
      case round =>
        obtain ⟨j, m, hj, rfl, hmm2, hN2, hD2, hM2, hA2, hb2⟩ := hrel
        have HN2 := Lib.hid hN2
        have HD2 := Lib.hid hD2
        clear hN2 hD2 hM1 hA1 hbb
        by_cases hltj : j < l.length
        · have hkj : (j : Int) < (l.length : Int) := by omega
          obtain ⟨g2, o2, hao2, e0, e1, e2⟩ := (HOP.out _ hb2).at hltj
          cases hao2
          have HWJ : Hid (wv (l.take (j + 1)) = wv (l.take j) ++ (if l[j].wr then [l[j].val] else [])) := Lib.hid (by rw [take_snoc l j hltj, wv_snoc])
          have HFJ : Hid (addF (k : Int) F (l.take (j + 1)) = addOne (k : Int) (addF (k : Int) F (l.take j)) l[j]) := Lib.hid (by rw [take_snoc l j hltj, addF_snoc])
          have hox := HTK.out.2 l[j] (List.getElem_mem hltj)
          generalize l[j] = x at *
          obtain ⟨xw, xk, xv⟩ := x
          simp only at e0 e1 e2 HWJ HFJ
          have hkv := inI_of hox.2
          have hM3 := hM2.alloc (.cells #[.bool xw, .int .i64 xk, .int .i64 xv] 31)
          have hA3 := hA2.alloc (.cells #[.bool xw, .int .i64 xk, .int .i64 xv] 31)
          have hb3 := hb2.alloc hb2.size (.cells #[.bool xw, .int .i64 xk, .int .i64 xv] 31)
          have hszj := hb2.size
          clear hox hM2 hA2 hb2
          cases xw with
          | false =>
            simp only [Bool.false_eq_true, if_false, List.append_nil] at HWJ
            have HFJ2 : Hid (addF (k : Int) F (l.take (j + 1)) = addF (k : Int) F (l.take j)) := Lib.hid (by rw [HFJ.out]; rfl)
            clear HFJ
            go_wp2_with fail
            go_roundw
            case rel => exact ⟨j + 1, m, by omega, by go_num, by omega, by rw [HWJ.out]; exact HN2.out, by rw [HWJ.out, HFJ2.out]; exact HD2.out, by rw [HWJ.out, HFJ2.out]; exact hM3, hA3, hb3⟩
            case measure => simp [intOf]; omega
          | true =>
            simp only [if_true] at HWJ
            have HFJ2 : Hid (addF (k : Int) F (l.take (j + 1)) = putF (addF (k : Int) F (l.take j)) xv ⟨k, xk, false⟩) := Lib.hid (by rw [HFJ.out]; rfl)
            have HNJ : Hid (xv ∈ W ++ wv (l.take j) → okW h = false) := Lib.hid (fun hin => HNO.out (j + 1) (by rw [HWJ.out, ← List.append_assoc]; exact not_nodup_snoc hin))
            clear HFJ
            generalize addF (k : Int) F (l.take j) = F1 at *
            cases hv : F1 xv with
            | none =>
              have HX := Lib.hid (HD2.out.not hv)
              have hM4 := hM3.alloc (.cells #[.int .i64 0, .int .i64 0, .bool false] 69)
              have hA4 := hA3.alloc (.cells #[.int .i64 0, .int .i64 0, .bool false] 69)
              have hb4 := hb3.alloc hb3.size (.cells #[.int .i64 0, .int .i64 0, .bool false] 69)
              clear HNJ
              go_wp2_with (first | (at_lookup; refine wpList_lookI_ok _ rfl _ _ 64 rfl 3 69 keyI mapIW wZ (zeroW _) _ _ _ _ rfl hM3 _ rfl hkv ?_; rw [hv]; simp only [Option.getD_none, Option.isSome_none, eW, wZ]) | (at_mapUpdate; refine wpList_putI _ rfl _ _ _ 64 rfl 3 69 keyI mapIW _ _ _ _ rfl hM4 (by unfold maxLen; omega) _ rfl hkv ⟨k, xk, false⟩ rfl ?_; intro w5 hM5 hg5; go_frame) | go_in)
              have hb5 := hb4.grown hg5 hb4.size (fun j hj => by cases hj; omega)
              have hA5 := hA4.grown hg5 (fun e => by cases e; omega)
              rw [hv] at hM5
              simp only [Option.isSome_none, Bool.false_eq_true, if_false] at hM5
              clear hM4 hA4 hb4 hg5 hM3 hA3 hb3
              go_wp2_with fail
              go_roundw
              case rel => exact ⟨j + 1, m + 1, by omega, by go_num, by omega, by rw [HWJ.out, ← List.append_assoc]; exact nodup_snoc HN2.out HX.out, by rw [HWJ.out, HFJ2.out, ← List.append_assoc]; exact HD2.out.put _ _, by rw [HWJ.out, HFJ2.out, ← List.append_assoc]; simpa [Nat.add_assoc] using hM5, hA5, hb5⟩
              case measure => simp [intOf]; omega
            | some u =>
              have H := Lib.hid (HNJ.out (HD2.out.yes hv))
              obtain ⟨ui, uk, ul⟩ := u
              have hb4 := hb3.alloc hb3.size (.cells #[.int .i64 ui, .int .i64 uk, .bool ul] 69)
              clear HNJ
              go_wp2_with (first | (at_lookup; refine wpList_lookI_ok _ rfl _ _ 64 rfl 3 69 keyI mapIW wZ (zeroW _) _ _ _ _ rfl hM3 _ rfl hkv ?_; rw [hv]; simp only [Option.getD_some, Option.isSome_some, eW]) | go_in)
              refine bodyPost_ret (v := .tuple #[.map none, .bool false]) (by simp [results, Try.results30, go_sem]) rfl ⟨hb4, .inl ⟨H.out, rfl⟩⟩
        · have hj2 : j = l.length := by omega
          subst hj2
          rw [List.take_length] at hM2 HN2 HD2
          obtain ⟨q0, q1, q2, q3⟩ := hA2.cells4
          have CW := Lib.hid (writes_any s b c _ l wr (HOP.out _ hb2) HTK.out.2 (by omega))
          have hRR := Lib.hid (refWrites_rise HKK.out)
          clear HNO
          go_wp2_with fail
          refine (CW.out).mono ?_
          rintro e w6 ⟨v2, out, rfl, hO, hRise, hle2, hb6⟩
          obtain rfl := hRise.eq hRR.out
          have hM6 := hM2.below hb6
          have hb7 := below_then hb2 hb6
          have hO7 := hO.base (base' := 0) (Nat.zero_le _)
          have HWV := Lib.hid (rise_wv hRise)
          have HTO := Lib.hid (fun o (ho : o ∈ refWrites l) => HTK.out.2 o (lastW_key (((hRise.2 o).1 ho).1)).2.2)
          have hspl := hO.split
          have hwl := hM2.lt
          obtain ⟨ao2, cap2, rfl, hl2⟩ := hO7.ops.form
          have HNE : Hid (∀ g o q, ao2 = some (⟨g, o, q⟩ : Addr) → Value.ownBlock (.slice (some ⟨g, o, q⟩) (refWrites l).length cap2) ≠ some w.heap.size) := Lib.hid (fun g o q e hh => by
            rcases hspl with ⟨e1, _⟩ | ⟨g3, cap3, e1, hg3⟩
            · rw [e] at e1; simp at e1
            · rw [e] at e1; simp [Value.ownBlock] at e1 hh; omega)
          clear hO hRise hRR CW hM2 hA2 hb2 hb6 q0 q1 q2 q3
          generalize refWrites l = R at *
          generalize addF (k : Int) F l = F1 at *
          generalize hWW : W ++ wv l = W1 at *
          have HWW := Lib.hid hWW
          clear hWW
          go_wp2_with fail
          go_loopw [50] (fun i wx => ∃ j m2 : Nat, j ≤ R.length ∧ i = .int .i64 j ∧ m2 ≤ 2 * opsN (h.take k) + l.length + j ∧ Dom (finF (k : Int) F1 (R.take j)) W1 ∧ MapI eW Try.prog 3 wx w.heap.size m2 (finF (k : Int) F1 (R.take j)) W1.length ∧ Own wx 0 (.slice ao2 R.length cap2) R ∧ Below w.heap.size w wx) (fun i _ => R.length - (intOf i).toNat)
          case atStart => exact ⟨0, m, by omega, rfl, by omega, HD2.out, hM6, hO7, hb7⟩
          case round =>
            obtain ⟨j, m2, hj2, rfl, hmm3, hD3, hM8, hO8, hb8⟩ := hrel
            have HD3 := Lib.hid hD3
            clear hD3 hM6 hO7 hb7
            by_cases hltj : j < R.length
            · have hkj : (j : Int) < (R.length : Int) := by omega
              obtain ⟨g2, o2, hao2, e0, e1, e2⟩ := hO8.ops.at hltj
              cases hao2
              have HFJ : Hid (finF (k : Int) F1 (R.take (j + 1)) = putF (finF (k : Int) F1 (R.take j)) R[j].val ⟨k, R[j].key, true⟩) := Lib.hid (by rw [take_snoc R j hltj, finF_snoc])
              have hox := HTO.out R[j] (List.getElem_mem hltj)
              have hin := HWV.out R[j] (List.getElem_mem hltj)
              generalize R[j] = x at *
              obtain ⟨xw, xk, xv⟩ := x
              simp only at e0 e1 e2 HFJ hin
              have hkv := inI_of hox.2
              have hinW : Hid (xv ∈ W1) := Lib.hid (by rw [← HWW.out]; exact List.mem_append_right _ hin)
              have hM9 := hM8.alloc (.cells #[.bool xw, .int .i64 xk, .int .i64 xv] 31)
              have hO9 : Own _ _ _ _ := World.ownsRow.alloc hO8 (.cells #[.bool xw, .int .i64 xk, .int .i64 xv] 31)
              have hb9 := hb8.alloc hb8.size (.cells #[.bool xw, .int .i64 xk, .int .i64 xv] 31)
              have hszj := hb8.size
              have hne9 : Value.ownBlock (.slice (some ⟨g2, o2, none⟩) R.length cap2) ≠ some w.heap.size := HNE.out _ _ _ rfl
              clear hox hin hM8 hO8 hb8
              generalize finF (k : Int) F1 (R.take j) = F2 at *
              go_wp2_with (first | (at_mapUpdate; refine wpList_putI _ rfl _ _ _ 64 rfl 3 69 keyI mapIW _ _ _ _ rfl hM9 (by unfold maxLen; omega) _ rfl hkv ⟨k, xk, true⟩ rfl ?_; intro w5 hM5 hg5; go_frame) | go_in)
              have hb5 := hb9.grown hg5 hb9.size (fun j hj => by cases hj; omega)
              have hO5 : Own w5 0 (.slice (some ⟨g2, o2, none⟩) R.length cap2) R := World.ownsRow.kept hO9 hg5 (.inr hne9)
              have hsome : (F2 xv).isSome = true := by rw [HD3.out xv]; simpa using hinW.out
              rw [hsome] at hM5
              simp only [if_true] at hM5
              clear hM9 hO9 hb9 hg5 hsome
              go_wp2_with fail
              go_roundw
              case rel => exact ⟨j + 1, m2 + 1, by omega, by go_num, by omega, by rw [HFJ.out]; exact HD3.out.again hinW.out _, by rw [HFJ.out]; exact hM5, hO5, hb5⟩
              case measure => simp [intOf]; omega
            · have hj3 : j = R.length := by omega
              subst hj3
              rw [List.take_length] at hM8 HD3
              have HW1 : Hid (wvH (h.take (k + 1)) = W1) := Lib.hid HW.out
              go_wp2_with fail
              go_roundw
              case rel => exact ⟨k + 1, m2, by omega, by go_num, by omega, by rw [HW1.out]; exact HN2.out, by rw [HW1.out, HR.out]; exact HD3.out, by rw [HW1.out, HR.out]; exact hM8, hb8⟩
              case measure => simp [intOf]; omega
    · have hkl : k = h.length := by omega
      subst hkl
      have H : Hid (okW h = true) := Lib.hid (by have := HND.out; rw [List.take_length] at this; unfold okW; simpa using this)
      rw [List.take_length] at hM
      go_wp2_with fail
      refine bodyPost_ret (v := .tuple #[.map (some w.heap.size), .bool true]) (by simp [results, Try.results30, go_sem]) rfl ⟨hb, .inr ⟨H.out, _, _, rfl, Nat.le_refl _, hM⟩⟩
end Go.Proofs.Ytlkdojcimlfmdaa
