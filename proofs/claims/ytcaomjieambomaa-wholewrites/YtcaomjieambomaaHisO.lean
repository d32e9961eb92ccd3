/- The walk of the law on values written twice. Conditions: a slice's cells are known; a transaction has fewer operations than memory holds. -/
import Derived.Test.YtcaomjieambomaaHisN
namespace Go.Proofs.Ytcaomjieambomaa
set_option maxRecDepth 100000
open Go.RowKit

/-- How often each number stands in a list, as a map tells it. -/
def cntF (W : List Int) : Int → Option Int := fun x => if x ∈ W then some (W.count x : Int) else none
theorem cntF_nil : cntF [] = fun _ => none := by funext x; simp [cntF]
theorem cntF_snoc (W : List Int) (x : Int) : cntF (W ++ [x]) = putF (cntF W) x ((cntF W x).getD 0 + 1) := by
  funext y
  unfold putF cntF
  by_cases hy : y = x
  · subst hy
    by_cases hin : y ∈ W
    · simp [hin, List.count_append]
    · simp [hin, List.count_append, List.count_eq_zero_of_not_mem hin]
  · by_cases hin : y ∈ W
    · have : ¬ x = y := fun e => hy e.symm
      simp [hin, hy, List.count_append, this]
    · simp [hin, hy]
theorem cntF_le (W : List Int) (x : Int) : 0 ≤ (cntF W x).getD 0 ∧ (cntF W x).getD 0 ≤ W.length := by
  unfold cntF
  split
  · have := List.count_le_length (a := x) (l := W)
    simp; omega
  · simp
theorem nodup_more (W : List Int) (x : Int) : (!decide (W ++ [x]).Nodup) = (!decide W.Nodup || decide (1 < (cntF W x).getD 0 + 1)) := by
  by_cases hin : x ∈ W
  · have h1 : ¬ (W ++ [x]).Nodup := not_nodup_snoc hin
    have h2 : 0 < W.count x := List.count_pos_iff.2 hin
    have h3 : (1 : Int) < (cntF W x).getD 0 + 1 := by unfold cntF; rw [if_pos hin]; simp; omega
    simp [h1, h3]
  · have h3 : ¬ (1 : Int) < (cntF W x).getD 0 + 1 := by unfold cntF; rw [if_neg hin]; simp
    by_cases hn : W.Nodup
    · simp [hn, h3, nodup_snoc hn hin]
    · have h1 : ¬ (W ++ [x]).Nodup := fun h => hn (List.nodup_append.1 h).1
      simp [hn, h1]
theorem wvH_len (h : List TxnV) : (wvH h).length ≤ opsN h := by
  induction h with
  | nil => simp [wvH, opsN]
  | cons t h ih =>
    have := wv_len t.l
    unfold wvH opsN at *
    simp only [List.flatMap_cons, List.length_append, List.map_cons, List.sum_cons]
    omega
set_option maxHeartbeats 16000000 in
theorem twice_walk (va : Value) (h : List TxnV) (w : World) (hT : Txns w va h) (hok : ∀ t ∈ h, t.ok) (hsh : Short h) :
    Calls Try.prog 6 #[va] w fun e w' => e = .returned (.bool true) ∧ Below w.heap.size w w' := by
  have HT := Lib.hid (fun wx (hx : Below w.heap.size w wx) => hT.below hx)
  obtain ⟨ao, cap, rfl, hal⟩ := hT.form
  have HOK := Lib.hid hok
  have hmm := @run_makeMap Try.prog
  clear hT hok
  go_enter Try.func6, Try.ntmps6
  go_wp2_with fail
  refine (speaks6_any _).mono ?_
  rintro e w1 ⟨rfl, hb1⟩
  go_wp2_with fail
  refine (big_any _ h _ (HT.out _ hb1) hsh).mono ?_
  rintro e w2 ⟨rfl, hb2⟩
  have hb2 := below_then hb1 hb2
  clear hb1
  by_cases hbig : bigI h = 1
  · rw [hbig]
    go_wp2_with fail
    go_ret
    exact ⟨rfl, hb2⟩
  have h0 : bigI h = 0 := by
    unfold bigI at hbig ⊢; split at hbig
    · exact (hbig rfl).elim
    · rename_i hn; rw [if_neg hn]
  obtain ⟨hs1, hs2⟩ := big_no h0
  rw [h0]
  clear hbig h0 hsh
  go_wp2_with fail
  have hm0 := MapI.made eI Try.prog 3 w2
  have hb3 := hb2.alloc hb2.size (.map #[] 0)
  have hsz2 := hb2.size
  generalize w2.alloc (.map #[] 0) = w3 at *
  generalize w2.heap.size = bm at *
  clear hb2
  clear hmm
  have hm1 : MapI eI Try.prog 3 w3 bm 0 (cntF (wvH (h.take 0))) 0 := by rw [show wvH (h.take 0) = [] from rfl, cntF_nil]; exact hm0
  clear hm0
  go_loopw [3, 19] (fun tw i wr => ∃ k n c : Nat, k ≤ h.length ∧ i = .int .i64 k ∧ tw = .bool (!decide (wvH (h.take k)).Nodup) ∧ n ≤ opsN (h.take k) ∧ (∀ t ∈ h.take k, keysIn t.l) ∧ MapI eI Try.prog 3 wr bm n (cntF (wvH (h.take k))) c ∧ Below w.heap.size w wr) (fun _ i _ => h.length - (intOf i).toNat)
  case atStart => exact ⟨0, 0, 0, by omega, rfl, by simp [wvH], by omega, by simp, hm1, hb3⟩
  case round =>
    obtain ⟨k, n, c, hk, rfl, rfl, hnn, hKS, hM, hb⟩ := hrel
    have HKS := Lib.hid hKS
    clear hKS hm1 hb3
    by_cases hlt : k < h.length
    · have hki : (k : Int) < (h.length : Int) := by omega
      obtain ⟨g, o, hao, c0, c1, c2, c3⟩ := (HT.out _ hb).at hlt
      cases hao
      have HW := Lib.hid (wvH_succ h k hlt)
      have HWL := Lib.hid (wvH_len (h.take k))
      have HTS := Lib.hid (List.take_succ_eq_append_getElem hlt)
      have hOps := fun wx (hx : Below w.heap.size w wx) => (HT.out wx hx).ops hlt
      have HTK := Lib.hid (HOK.out h[k] (List.getElem_mem hlt))
      have hon := opsN_take h k hlt
      have hol := opsN_le h (k + 1)
      generalize h[k] = t at *
      obtain ⟨s, b, cc, v, l⟩ := t
      simp only at c0 c1 c2 c3 HW hOps HTK hon
      obtain ⟨ai, capi, rfl, hli⟩ := (hOps wr hb).form
      have HOP := Lib.hid hOps
      have hpl := hM.lt
      have hM1 := hM.alloc (.cells #[.int .i64 s, .int .i64 b, .int .i64 cc, .slice ai l.length capi] 33)
      have hbb := hb.alloc hb.size (.cells #[.int .i64 s, .int .i64 b, .int .i64 cc, .slice ai l.length capi] 33)
      have hsz := hb.size
      clear hOps hM hb
      have hwl := HWL.out
      generalize wvH (h.take k) = W at *
      go_wp2_with fail
      have hA0 := At.new wr (.cells #[.int .i64 s, .int .i64 b, .int .i64 cc, .slice ai l.length capi] 33)
      generalize wr.alloc (.cells #[.int .i64 s, .int .i64 b, .int .i64 cc, .slice ai l.length capi] 33) = w4 at *
      generalize hpp : wr.heap.size = p at *
      have hA1 : At w4 p (.cells #[.int .i64 s, .int .i64 b, .int .i64 cc, .slice ai l.length capi] 33) := hA0
      clear hA0 c0 c1 c2 c3
      refine (may5_any _ l _ (HOP.out _ hbb)).mono ?_
      rintro e w5 ⟨rfl, hb5⟩
      have hM5 := hM1.below hb5
      have hA5 := hA1.below hb5
      have hbb := below_then hbb hb5
      clear hM1 hA1 hb5
      obtain ⟨q0, q1, q2, q3⟩ := hA5.cells4
      cases hal2 : allM l with
      | false =>
        rw [show mayI false = 0 from rfl]
        go_wp2_with fail
        refine bodyPost_ret (v := .bool true) (by simp [results, Try.results6, go_sem]) rfl ⟨rfl, hbb⟩
      | true =>
        have hkeys := Lib.hid (allM_keys hal2)
        rw [show mayI true = 1 from rfl]
        clear hal2
        go_wp2_with fail
        clear q0 q1 q2 q3
        have hM6 : MapI eI Try.prog 3 w5 bm n (cntF (W ++ wv (l.take 0))) c := by rw [show wv (l.take 0) = [] from rfl, List.append_nil]; exact hM5
        clear hM5
        go_loopw [3, 30] (fun tw i wx => ∃ j m c : Nat, j ≤ l.length ∧ i = .int .i64 j ∧ tw = .bool (!decide (W ++ wv (l.take j)).Nodup) ∧ m ≤ opsN (h.take k) + j ∧ MapI eI Try.prog 3 wx bm m (cntF (W ++ wv (l.take j))) c ∧ Below w.heap.size w wx) (fun _ i _ => l.length - (intOf i).toNat)
        case atStart => exact ⟨0, n, c, by omega, rfl, by simp [wv], by omega, hM6, hbb⟩
        case round =>
          obtain ⟨j, m, c2, hj, rfl, rfl, hmm2, hM2, hb2⟩ := hrel
          clear hM6 hbb hA5
          by_cases hltj : j < l.length
          · have hkj : (j : Int) < (l.length : Int) := by omega
            obtain ⟨g2, o2, hao2, e0, e1, e2⟩ := (HOP.out _ hb2).at hltj
            cases hao2
            have HWJ : Hid (wv (l.take (j + 1)) = wv (l.take j) ++ (if l[j].wr then [l[j].val] else [])) := Lib.hid (by rw [take_snoc l j hltj, wv_snoc])
            have hox := HTK.out.2 l[j] (List.getElem_mem hltj)
            generalize l[j] = x at *
            obtain ⟨xw, xk, xv⟩ := x
            simp only at e0 e1 e2 HWJ
            have hkv := inI_of hox.2
            have hA2 := At.new wr (.cells #[.bool xw, .int .i64 xk, .int .i64 xv] 35)
            have hM3 := hM2.alloc (.cells #[.bool xw, .int .i64 xk, .int .i64 xv] 35)
            have hb3 := hb2.alloc hb2.size (.cells #[.bool xw, .int .i64 xk, .int .i64 xv] 35)
            have hszj := hb2.size
            have hbmx := hM2.lt
            have hwj := wv_len (l.take j)
            rw [List.length_take] at hwj
            clear hox hM2 hb2
            cases xw with
            | false =>
              simp only [Bool.false_eq_true, if_false, List.append_nil] at HWJ
              clear hA2
              go_wp2_with fail
              go_roundw
              case rel => exact ⟨j + 1, m, c2, by omega, by go_num, by rw [HWJ.out], by omega, by rw [HWJ.out]; exact hM3, hb3⟩
              case measure => simp [intOf]; omega
            | true =>
              simp only [if_true] at HWJ
              have hbd := cntF_le (W ++ wv (l.take j)) xv
              rw [List.length_append] at hbd
              have HN := Lib.hid (nodup_more (W ++ wv (l.take j)) xv)
              have HF := Lib.hid (cntF_snoc (W ++ wv (l.take j)) xv)
              have HX : Hid (W ++ wv (l.take (j + 1)) = (W ++ wv (l.take j)) ++ [xv]) := Lib.hid (by rw [HWJ.out, List.append_assoc])
              clear HWJ
              generalize W ++ wv (l.take j) = W1 at *
              generalize decide W1.Nodup = d at *
              generalize hF1 : cntF W1 = F1 at *
              clear hF1
              generalize hu : (F1 xv).getD 0 = u at *
              have hwr : wrap64 (u + 1) = u + 1 := wrap64_small (by omega) (by omega)
              have HLK : ∀ w6 m c, MapI eI Try.prog 3 w6 bm m (putF F1 xv (u + 1)) c → Sem.run Try.prog (Instr.lookup 42 (.map (some bm)) (.int .i64 xv) false) w6 = .ok (.int .i64 (u + 1)) w6 := fun w6 m c hM6 => by
                have HK := lookI_run (t := 42) (el := 3) (w := w6) false keyI mapII (0 : Int) (zeroI _) hM6 hkv
                rw [putF_same] at HK
                simpa only [Bool.false_eq_true, if_false, Option.getD_some, eI] using HK
              have HX2 : ∀ w6, (wr.alloc (.cells #[.bool true, .int .i64 xk, .int .i64 xv] 35)).grownBy w6 (some bm) → w6.cell? ⟨wr.heap.size, 2, none⟩ = some (.int .i64 xv) := fun w6 hg6 => by
                have hA6 := hA2.grown hg6 (fun e => by cases e; omega)
                unfold At at hA6; simp [World.cell?, hA6]
              cases d with
              | true =>
                go_wp2_with (first | (at_lookup; refine wpList_lookI _ rfl _ _ 42 rfl 3 3 keyI mapII (0 : Int) (zeroI _) _ _ _ _ rfl hM3 _ rfl hkv ?_; rw [hu]; simp only [eI]) | (at_mapUpdate; refine wpList_putI _ rfl _ _ _ 42 rfl 3 3 keyI mapII _ _ _ _ rfl hM3 (by unfold maxLen; omega) _ rfl hkv (u + 1) rfl ?_; intro w6 hM6 hg6; have HK := HLK w6 _ _ hM6; have x2 := HX2 w6 hg6; go_frame) | go_in)
                have hb6 := hb3.grown hg6 hb3.size (fun j hj => by cases hj; omega)
                clear hM3 hA2 hb3 hg6
                go_roundw
                case rel => exact ⟨j + 1, m + 1, _, by omega, by go_num, by rw [HX.out, HN.out]; rfl, by omega, by rw [HX.out, HF.out]; exact hM6, hb6⟩
                case measure => simp [intOf]; omega
              | false =>
                go_wp2_with (first | (at_lookup; refine wpList_lookI _ rfl _ _ 42 rfl 3 3 keyI mapII (0 : Int) (zeroI _) _ _ _ _ rfl hM3 _ rfl hkv ?_; rw [hu]; simp only [eI]) | (at_mapUpdate; refine wpList_putI _ rfl _ _ _ 42 rfl 3 3 keyI mapII _ _ _ _ rfl hM3 (by unfold maxLen; omega) _ rfl hkv (u + 1) rfl ?_; intro w6 hM6 hg6; have HK := HLK w6 _ _ hM6; have x2 := HX2 w6 hg6; go_frame) | go_in)
                have hb6 := hb3.grown hg6 hb3.size (fun j hj => by cases hj; omega)
                clear hM3 hA2 hb3 hg6
                go_roundw
                case rel => exact ⟨j + 1, m + 1, _, by omega, by go_num, by rw [HX.out, HN.out]; rfl, by omega, by rw [HX.out, HF.out]; exact hM6, hb6⟩
                case measure => simp [intOf]; omega
          · have hj2 : j = l.length := by omega
            subst hj2
            rw [List.take_length] at hM2
            have HW1 : Hid (wvH (h.take (k + 1)) = W ++ wv l) := Lib.hid HW.out
            have H2 : Hid ((!decide (W ++ wv (l.take l.length)).Nodup) = !decide (W ++ wv l).Nodup) := Lib.hid (by rw [List.take_length])
            generalize (!decide (W ++ wv (l.take l.length)).Nodup) = d at *
            go_wp2_with fail
            go_roundw
            case rel => exact ⟨k + 1, m, c2, by omega, by go_num, by rw [HW1.out, H2.out], by omega, by rw [HTS.out]; intro t ht; rcases List.mem_append.1 ht with h1 | h1; exact HKS.out t h1; simp at h1; subst h1; exact hkeys.out, by rw [HW1.out]; exact hM2, hb2⟩
            case measure => simp [intOf]; omega
    · have hkl : k = h.length := by omega
      subst hkl
      have H2 : Hid ((!decide (wvH (h.take h.length)).Nodup) = !okW h) := Lib.hid (by rw [List.take_length]; rfl)
      have HKS2 : Hid (∀ t ∈ h, keysIn t.l) := Lib.hid (by have := HKS.out; rw [List.take_length] at this; exact this)
      generalize (!decide (wvH (h.take h.length)).Nodup) = d at *
      clear hM HKS
      go_wp2_with fail
      refine (hwrites_any _ h _ (HT.out _ hb) HOK.out HKS2.out (by omega) (by omega)).mono ?_
      rintro e w7 ⟨hb7, ⟨hno, rfl⟩ | ⟨hyes, b, n3, rfl, hbb, hM⟩⟩
      · rw [hno] at H2
        obtain rfl := H2.out
        have hb8 := below_then hb hb7
        clear H2 hno
        go_wp2_with fail
        refine bodyPost_ret (v := .bool true) (by simp [results, Try.results6, go_sem]) rfl ⟨rfl, hb8⟩
      · rw [hyes] at H2
        obtain rfl := H2.out
        have hb8 := below_then hb hb7
        clear H2 hyes
        go_wp2_with fail
        refine bodyPost_ret (v := .bool true) (by simp [results, Try.results6, go_sem]) rfl ⟨rfl, hb8⟩
end Go.Proofs.Ytcaomjieambomaa
