/- Walks and plain facts that the proof of the statement WholeTexts uses, joined: HisD HisE HisF HisG HisH HisI HisJ HisK HisL HisM HisN ScrB ScrC. Conditions: each theorem's own. -/
import Derived.Deep.CutRange
import Derived.Laws.StructEq
import Derived.Deep.AppendLies
import Derived.Deep.RegionLaw
import Derived.Test.YtflalehpdngklaaGreatDoorPWholeTexts1
namespace Go.Proofs.YtflalehpdngklaaGreatDoor
set_option maxRecDepth 100000
open Go.RowKit

structure WV where
  i : Int
  key : Int
  last : Bool
def eW (x : WV) : Value := .agg #[.int .i64 x.i, .int .i64 x.key, .bool x.last]
def wZ : WV := ⟨0, 0, false⟩
def addOne (i : Int) (F : Int → Option WV) (o : OpV) : Int → Option WV := if o.wr then putF F o.val ⟨i, o.key, false⟩ else F
def addF (i : Int) (F : Int → Option WV) (l : List OpV) : Int → Option WV := l.foldl (addOne i) F
def finF (i : Int) (F : Int → Option WV) (l : List OpV) : Int → Option WV := l.foldl (fun F o => putF F o.val ⟨i, o.key, true⟩) F
theorem addF_snoc (i : Int) (F : Int → Option WV) (l : List OpV) (o : OpV) : addF i F (l ++ [o]) = addOne i (addF i F l) o := by unfold addF; rw [List.foldl_append]; rfl
theorem finF_snoc (i : Int) (F : Int → Option WV) (l : List OpV) (o : OpV) : finF i F (l ++ [o]) = putF (finF i F l) o.val ⟨i, o.key, true⟩ := by unfold finF; rw [List.foldl_append]; rfl
def opsAt (h : List TxnV) (k : Nat) : List OpV := ((h[k]?).map (·.l)).getD []
theorem opsAt_eq {h : List TxnV} {k : Nat} (hk : k < h.length) : opsAt h k = h[k].l := by unfold opsAt; rw [List.getElem?_eq_getElem hk]; rfl
/-- Who writes each value, by the first k transactions. -/
def wrTo (h : List TxnV) (k : Nat) : Int → Option WV := (List.range k).foldl (fun F (j : Nat) => finF (j : Int) (addF (j : Int) F (opsAt h j)) (refWrites (opsAt h j))) fun _ => none
theorem wrTo_succ (h : List TxnV) (k : Nat) : wrTo h (k + 1) = finF k (addF k (wrTo h k) (opsAt h k)) (refWrites (opsAt h k)) := by
  unfold wrTo; rw [List.range_succ, List.foldl_append]; rfl
/-- The values that are written. -/
def wv (l : List OpV) : List Int := (l.filter (·.wr)).map (·.val)
def wvH (h : List TxnV) : List Int := h.flatMap fun t => wv t.l
theorem wv_snoc (l : List OpV) (o : OpV) : wv (l ++ [o]) = wv l ++ (if o.wr then [o.val] else []) := by
  unfold wv; rw [List.filter_append, List.map_append]
  cases h : o.wr <;> simp [h]
theorem wvH_succ (h : List TxnV) (k : Nat) (hk : k < h.length) : wvH (h.take (k + 1)) = wvH (h.take k) ++ wv h[k].l := by
  unfold wvH; rw [List.take_succ_eq_append_getElem hk, List.flatMap_append]; simp
def okW (h : List TxnV) : Bool := decide (wvH h).Nodup
theorem okW_no {h : List TxnV} {k j : Nat} (hk : k < h.length) (hn : ¬ (wvH (h.take k) ++ wv (h[k].l.take j)).Nodup) : okW h = false := by
  unfold okW
  rw [decide_eq_false_iff_not]
  intro hd
  apply hn
  have e1 : wvH h = wvH (h.take (k + 1)) ++ wvH (h.drop (k + 1)) := by unfold wvH; rw [← List.flatMap_append, List.take_append_drop]
  have e2 : wv h[k].l = wv (h[k].l.take j) ++ wv (h[k].l.drop j) := by unfold wv; rw [← List.map_append, ← List.filter_append, List.take_append_drop]
  rw [e1, wvH_succ h k hk, e2, ← List.append_assoc] at hd
  exact (List.nodup_append.1 (List.nodup_append.1 hd).1).1
/-- The map has just these values. -/
def Dom (F : Int → Option WV) (W : List Int) : Prop := ∀ x, (F x).isSome = decide (x ∈ W)
theorem Dom.put {F : Int → Option WV} {W : List Int} (h : Dom F W) (x : Int) (u : WV) : Dom (putF F x u) (W ++ [x]) := by
  intro y
  unfold putF
  by_cases e : y = x
  · simp [e]
  · rw [if_neg e, h y]; simp [e]
theorem Dom.again {F : Int → Option WV} {W : List Int} (h : Dom F W) {x : Int} (hx : x ∈ W) (u : WV) : Dom (putF F x u) W := by
  intro y
  unfold putF
  by_cases e : y = x
  · simp [e, hx]
  · rw [if_neg e, h y]
theorem Dom.not {F : Int → Option WV} {W : List Int} (h : Dom F W) {x : Int} (hx : F x = none) : ¬ x ∈ W := by
  have := h x; rw [hx] at this; simpa using this.symm
theorem Dom.yes {F : Int → Option WV} {W : List Int} (h : Dom F W) {x : Int} {u : WV} (hx : F x = some u) : x ∈ W := by
  have := h x; rw [hx] at this; simpa using this.symm
theorem nodup_snoc {L : List Int} {x : Int} (h : L.Nodup) (hx : ¬ x ∈ L) : (L ++ [x]).Nodup := by
  rw [List.nodup_append]
  exact ⟨h, by simp, by intro a ha b hb; simp at hb; subst hb; rintro rfl; exact hx ha⟩
theorem not_nodup_snoc {L : List Int} {x : Int} (hx : x ∈ L) : ¬ (L ++ [x]).Nodup := fun hd => (List.nodup_append.1 hd).2.2 x hx x (by simp) rfl
theorem wv_mem {l : List OpV} {x : Int} : x ∈ wv l ↔ ∃ o ∈ l, o.wr = true ∧ o.val = x := by
  unfold wv; simp [and_assoc]
theorem rise_wv {l out : List OpV} (h : Rise (lastW l) true out) : ∀ o ∈ out, o.val ∈ wv l := by
  intro o ho
  obtain ⟨h1, h2⟩ := (h.2 o).1 ho
  exact wv_mem.2 ⟨o, (lastW_key h1).2.2, h2, rfl⟩
theorem wv_len (l : List OpV) : (wv l).length ≤ l.length := by unfold wv; rw [List.length_map]; exact List.length_filter_le _ _
end Go.Proofs.YtflalehpdngklaaGreatDoor

namespace Go.Proofs.YtflalehpdngklaaGreatDoor
set_option maxRecDepth 100000
open Go.RowKit

theorem mapIW : Tryz.prog.underlying 109 = some (.map 3 178) := Tryz.underlying109
theorem zeroW (w : World) : (zeroValue 178).run Tryz.prog w = .ok (eW wZ) w := by kernel_rfl
/-- The block p holds this. -/
def At (w : World) (p : Nat) (o : Obj) : Prop := w.heap[p]? = some o
theorem At.lt {w : World} {p : Nat} {o : Obj} (h : At w p o) : p < w.heap.size := (Array.getElem?_eq_some_iff.1 h).1
theorem At.new (w : World) (o : Obj) : At (w.alloc o) w.heap.size o := heap_alloc_new w o
theorem At.grown {w w' : World} {p : Nat} {o : Obj} {row : Option Nat} (h : At w p o) (hg : w.grownBy w' row) (hne : some p ≠ row) : At w' p o := (hg.block p h.lt hne).trans h
theorem At.alloc {w : World} {p : Nat} {o : Obj} (h : At w p o) (o' : Obj) : At (w.alloc o') p o := h.grown (World.grownBy_alloc w o' none) (by simp)
theorem At.below {w w' : World} {p : Nat} {o : Obj} (h : At w p o) (hb : Below w.heap.size w w') : At w' p o := (hb.block p h.lt).trans h
theorem At.cells4 {w : World} {p : Nat} {x y z u : Value} {t : TypeId} (h : At w p (.cells #[x, y, z, u] t)) : w.cell? ⟨p, 0, none⟩ = some x ∧ w.cell? ⟨p, 1, none⟩ = some y ∧ w.cell? ⟨p, 2, none⟩ = some z ∧ w.cell? ⟨p, 3, none⟩ = some u := by
  refine ⟨?_, ?_, ?_, ?_⟩ <;> (unfold At at h; simp [World.cell?, h])
/-- What Writes answers. -/
def WrPost (w : World) (h : List TxnV) (e : Ending) (w' : World) : Prop :=
  Below w.heap.size w w' ∧ ((okW h = false ∧ e = .returned (.tuple #[.map none, .bool false])) ∨
    (okW h = true ∧ ∃ b n, e = .returned (.tuple #[.map (some b), .bool true]) ∧ w.heap.size ≤ b ∧ MapI eW Tryz.prog 3 w' b n (wrTo h h.length) (wvH h).length))
set_option maxHeartbeats 16000000 in
theorem hwrites_any (va : Value) (h : List TxnV) (w : World) (hT : Txns w va h) (hok : ∀ t ∈ h, t.ok) (hks : ∀ t ∈ h, keysIn t.l) (hn : opsN h ≤ 100000) (hlen : h.length ≤ 100000) :
    Calls Tryz.prog 61 #[va] w (WrPost w h) := by
  obtain ⟨ao, cap, rfl, hal⟩ := hT.form
  have HOK := Lib.hid hok
  have HKS := Lib.hid hks
  clear hok hks
  have hm0 := MapI.made eW Tryz.prog 3 w
  have hb1 := (Below.refl w.heap.size w).alloc (Nat.le_refl _) (.map #[] 0)
  have hmm := @run_makeMap Tryz.prog
  go_enter Tryz.func61, Tryz.ntmps61
  go_wp2_with fail
  go_loopw [16] (fun i wr => ∃ k n : Nat, k ≤ h.length ∧ i = .int .i64 k ∧ n ≤ 2 * opsN (h.take k) ∧ (wvH (h.take k)).Nodup ∧ Dom (wrTo h k) (wvH (h.take k)) ∧ MapI eW Tryz.prog 3 wr w.heap.size n (wrTo h k) (wvH (h.take k)).length ∧ Below w.heap.size w wr) (fun i _ => h.length - (intOf i).toNat)
  case atStart => exact ⟨0, 0, by omega, rfl, by omega, by simp [wvH], fun x => by simp [wrTo, wvH], hm0, hb1⟩
  case round =>
    obtain ⟨k, n, hk, rfl, hnn, hN, hD, hM, hb⟩ := hrel
    have HND := Lib.hid hN
    have HD := Lib.hid hD
    clear hN hD hm0 hb1
    by_cases hlt : k < h.length
    · have hki : (k : Int) < (h.length : Int) := by omega
      obtain ⟨g, o, hao, c0, c1, c2, c3⟩ := (hT.below hb).at hlt
      cases hao
      have HW := Lib.hid (wvH_succ h k hlt)
      have HR : Hid (wrTo h (k + 1) = finF (k : Int) (addF (k : Int) (wrTo h k) h[k].l) (refWrites h[k].l)) := Lib.hid (by rw [wrTo_succ, opsAt_eq hlt])
      have HNO := Lib.hid (fun j hh => okW_no (j := j) hlt hh)
      have hOps := fun wx (hx : Below w.heap.size w wx) => (hT.ops hlt).below hx
      have HTK := Lib.hid (HOK.out h[k] (List.getElem_mem hlt))
      have HKK := Lib.hid (HKS.out h[k] (List.getElem_mem hlt))
      have hon := opsN_take h k hlt
      have hol := opsN_le h (k + 1)
      generalize h[k] = t at *
      obtain ⟨s, b, c, v, l⟩ := t
      simp only at c0 c1 c2 c3 HW HR HNO hOps HTK HKK hon
      obtain ⟨ai, capi, rfl, hli⟩ := (hOps w (Below.refl _ _)).form
      have HOP := Lib.hid hOps
      have hpl := hM.lt
      have hM1 := hM.alloc (.cells #[.int .i64 s, .int .i64 b, .int .i64 c, .slice ai l.length capi] 106)
      have hbb := hb.alloc hb.size (.cells #[.int .i64 s, .int .i64 b, .int .i64 c, .slice ai l.length capi] 106)
      have hsz := hb.size
      have hx := txnBlock wr (.int .i64 s) (.int .i64 b) (.int .i64 c) (.slice ai l.length capi) 106
      have hltx : wr.heap.size < (wr.alloc (.cells #[.int .i64 s, .int .i64 b, .int .i64 c, .slice ai l.length capi] 106)).heap.size := by simp
      clear hOps hM hb
      generalize wvH (h.take k) = W at *
      generalize wrTo h k = F at *
      go_wp2_with fail
      have hA0 := At.new wr (.cells #[.int .i64 s, .int .i64 b, .int .i64 c, .slice ai l.length capi] 106)
      generalize wr.alloc (.cells #[.int .i64 s, .int .i64 b, .int .i64 c, .slice ai l.length capi] 106) = w1 at *
      generalize hpp : wr.heap.size = p at *
      have hA1 : At w1 p (.cells #[.int .i64 s, .int .i64 b, .int .i64 c, .slice ai l.length capi] 106) := hA0
      clear hA0 c0 c1 c2 c3 hx hsz
      go_loopw [24] (fun i wx => ∃ j m : Nat, j ≤ l.length ∧ i = .int .i64 j ∧ m ≤ 2 * opsN (h.take k) + j ∧ (W ++ wv (l.take j)).Nodup ∧ Dom (addF (k : Int) F (l.take j)) (W ++ wv (l.take j)) ∧ MapI eW Tryz.prog 3 wx w.heap.size m (addF (k : Int) F (l.take j)) (W ++ wv (l.take j)).length ∧ At wx p (.cells #[.int .i64 s, .int .i64 b, .int .i64 c, .slice ai l.length capi] 106) ∧ Below w.heap.size w wx) (fun i _ => l.length - (intOf i).toNat)
      case atStart => exact ⟨0, n, by omega, rfl, by omega, by simpa [wv] using HND.out, by simpa [wv, addF] using HD.out, by simpa [wv, addF] using hM1, hA1, hbb⟩
      case round =>
        obtain ⟨j, m, hj, rfl, hmm2, hN2, hD2, hM2, hA2, hb2⟩ := hrel
        have HN2 := Lib.hid hN2
        have HD2 := Lib.hid hD2
        clear hN2 hD2 hM1 hA1 hbb
        by_cases hltj : j < l.length
        · have hkj : (j : Int) < (l.length : Int) := by omega
          obtain ⟨g2, o2, hao2, e0, e1, e2⟩ := (HOP.out _ hb2).at hltj
          cases hao2
          have HWJ : Hid (wv (l.take (j + 1)) = wv (l.take j) ++ (if l[j].wr then [l[j].val] else [])) := Lib.hid (by rw [take_snoc l j hltj, wv_snoc])
          have HFJ : Hid (addF (k : Int) F (l.take (j + 1)) = addOne (k : Int) (addF (k : Int) F (l.take j)) l[j]) := Lib.hid (by rw [take_snoc l j hltj, addF_snoc])
          have hox := HTK.out.2 l[j] (List.getElem_mem hltj)
          generalize l[j] = x at *
          obtain ⟨xw, xk, xv⟩ := x
          simp only at e0 e1 e2 HWJ HFJ
          have hkv := inI_of hox.2
          have hM3 := hM2.alloc (.cells #[.bool xw, .int .i64 xk, .int .i64 xv] 102)
          have hA3 := hA2.alloc (.cells #[.bool xw, .int .i64 xk, .int .i64 xv] 102)
          have hb3 := hb2.alloc hb2.size (.cells #[.bool xw, .int .i64 xk, .int .i64 xv] 102)
          have hszj := hb2.size
          clear hox hM2 hA2 hb2
          cases xw with
          | false =>
            simp only [Bool.false_eq_true, if_false, List.append_nil] at HWJ
            have HFJ2 : Hid (addF (k : Int) F (l.take (j + 1)) = addF (k : Int) F (l.take j)) := Lib.hid (by rw [HFJ.out]; rfl)
            clear HFJ
            go_wp2_with fail
            go_roundw
            case rel => exact ⟨j + 1, m, by omega, by go_num, by omega, by rw [HWJ.out]; exact HN2.out, by rw [HWJ.out, HFJ2.out]; exact HD2.out, by rw [HWJ.out, HFJ2.out]; exact hM3, hA3, hb3⟩
            case measure => simp [intOf]; omega
          | true =>
            simp only [if_true] at HWJ
            have HFJ2 : Hid (addF (k : Int) F (l.take (j + 1)) = putF (addF (k : Int) F (l.take j)) xv ⟨k, xk, false⟩) := Lib.hid (by rw [HFJ.out]; rfl)
            have HNJ : Hid (xv ∈ W ++ wv (l.take j) → okW h = false) := Lib.hid (fun hin => HNO.out (j + 1) (by rw [HWJ.out, ← List.append_assoc]; exact not_nodup_snoc hin))
            clear HFJ
            generalize addF (k : Int) F (l.take j) = F1 at *
            cases hv : F1 xv with
            | none =>
              have HX := Lib.hid (HD2.out.not hv)
              have hM4 := hM3.alloc (.cells #[.int .i64 0, .int .i64 0, .bool false] 178)
              have hA4 := hA3.alloc (.cells #[.int .i64 0, .int .i64 0, .bool false] 178)
              have hb4 := hb3.alloc hb3.size (.cells #[.int .i64 0, .int .i64 0, .bool false] 178)
              clear HNJ
              go_wp2_with (first | (at_lookup; refine wpList_lookI_ok _ rfl _ _ 109 rfl 3 178 keyI mapIW wZ (zeroW _) _ _ _ _ rfl hM3 _ rfl hkv ?_; rw [hv]; simp only [Option.getD_none, Option.isSome_none, eW, wZ]) | (at_mapUpdate; refine wpList_putI _ rfl _ _ _ 109 rfl 3 178 keyI mapIW _ _ _ _ rfl hM4 (by unfold maxLen; omega) _ rfl hkv ⟨k, xk, false⟩ rfl ?_; intro w5 hM5 hg5; go_frame) | go_in)
              have hb5 := hb4.grown hg5 hb4.size (fun j hj => by cases hj; omega)
              have hA5 := hA4.grown hg5 (fun e => by cases e; omega)
              rw [hv] at hM5
              simp only [Option.isSome_none, Bool.false_eq_true, if_false] at hM5
              clear hM4 hA4 hb4 hg5 hM3 hA3 hb3
              go_wp2_with fail
              go_roundw
              case rel => exact ⟨j + 1, m + 1, by omega, by go_num, by omega, by rw [HWJ.out, ← List.append_assoc]; exact nodup_snoc HN2.out HX.out, by rw [HWJ.out, HFJ2.out, ← List.append_assoc]; exact HD2.out.put _ _, by rw [HWJ.out, HFJ2.out, ← List.append_assoc]; simpa [Nat.add_assoc] using hM5, hA5, hb5⟩
              case measure => simp [intOf]; omega
            | some u =>
              have H := Lib.hid (HNJ.out (HD2.out.yes hv))
              obtain ⟨ui, uk, ul⟩ := u
              have hb4 := hb3.alloc hb3.size (.cells #[.int .i64 ui, .int .i64 uk, .bool ul] 178)
              clear HNJ
              go_wp2_with (first | (at_lookup; refine wpList_lookI_ok _ rfl _ _ 109 rfl 3 178 keyI mapIW wZ (zeroW _) _ _ _ _ rfl hM3 _ rfl hkv ?_; rw [hv]; simp only [Option.getD_some, Option.isSome_some, eW]) | go_in)
              refine bodyPost_ret (v := .tuple #[.map none, .bool false]) (by simp [results, Tryz.results61, go_sem]) rfl ⟨hb4, .inl ⟨H.out, rfl⟩⟩
        · have hj2 : j = l.length := by omega
          subst hj2
          rw [List.take_length] at hM2 HN2 HD2
          obtain ⟨q0, q1, q2, q3⟩ := hA2.cells4
          have CW := Lib.hid (writes_any s b c _ l wr (HOP.out _ hb2) HTK.out.2 (by omega))
          have hRR := Lib.hid (refWrites_rise HKK.out)
          clear HNO
          go_wp2_with fail
          refine (CW.out).mono ?_
          rintro e w6 ⟨v2, out, rfl, hO, hRise, hle2, hb6⟩
          obtain rfl := hRise.eq hRR.out
          have hM6 := hM2.below hb6
          have hb7 := below_then hb2 hb6
          have hO7 := hO.base (base' := 0) (Nat.zero_le _)
          have HWV := Lib.hid (rise_wv hRise)
          have HTO := Lib.hid (fun o (ho : o ∈ refWrites l) => HTK.out.2 o (lastW_key (((hRise.2 o).1 ho).1)).2.2)
          have hspl := hO.split
          have hwl := hM2.lt
          obtain ⟨ao2, cap2, rfl, hl2⟩ := hO7.ops.form
          have HNE : Hid (∀ g o q, ao2 = some (⟨g, o, q⟩ : Addr) → Value.ownBlock (.slice (some ⟨g, o, q⟩) (refWrites l).length cap2) ≠ some w.heap.size) := Lib.hid (fun g o q e hh => by
            rcases hspl with ⟨e1, _⟩ | ⟨g3, cap3, e1, hg3⟩
            · rw [e] at e1; simp at e1
            · rw [e] at e1; simp [Value.ownBlock] at e1 hh; omega)
          clear hO hRise hRR CW hM2 hA2 hb2 hb6 q0 q1 q2 q3
          generalize refWrites l = R at *
          generalize addF (k : Int) F l = F1 at *
          generalize hWW : W ++ wv l = W1 at *
          have HWW := Lib.hid hWW
          clear hWW
          go_wp2_with fail
          go_loopw [50] (fun i wx => ∃ j m2 : Nat, j ≤ R.length ∧ i = .int .i64 j ∧ m2 ≤ 2 * opsN (h.take k) + l.length + j ∧ Dom (finF (k : Int) F1 (R.take j)) W1 ∧ MapI eW Tryz.prog 3 wx w.heap.size m2 (finF (k : Int) F1 (R.take j)) W1.length ∧ Own wx 0 (.slice ao2 R.length cap2) R ∧ Below w.heap.size w wx) (fun i _ => R.length - (intOf i).toNat)
          case atStart => exact ⟨0, m, by omega, rfl, by omega, HD2.out, hM6, hO7, hb7⟩
          case round =>
            obtain ⟨j, m2, hj2, rfl, hmm3, hD3, hM8, hO8, hb8⟩ := hrel
            have HD3 := Lib.hid hD3
            clear hD3 hM6 hO7 hb7
            by_cases hltj : j < R.length
            · have hkj : (j : Int) < (R.length : Int) := by omega
              obtain ⟨g2, o2, hao2, e0, e1, e2⟩ := hO8.ops.at hltj
              cases hao2
              have HFJ : Hid (finF (k : Int) F1 (R.take (j + 1)) = putF (finF (k : Int) F1 (R.take j)) R[j].val ⟨k, R[j].key, true⟩) := Lib.hid (by rw [take_snoc R j hltj, finF_snoc])
              have hox := HTO.out R[j] (List.getElem_mem hltj)
              have hin := HWV.out R[j] (List.getElem_mem hltj)
              generalize R[j] = x at *
              obtain ⟨xw, xk, xv⟩ := x
              simp only at e0 e1 e2 HFJ hin
              have hkv := inI_of hox.2
              have hinW : Hid (xv ∈ W1) := Lib.hid (by rw [← HWW.out]; exact List.mem_append_right _ hin)
              have hM9 := hM8.alloc (.cells #[.bool xw, .int .i64 xk, .int .i64 xv] 102)
              have hO9 : Own _ _ _ _ := World.ownsRow.alloc hO8 (.cells #[.bool xw, .int .i64 xk, .int .i64 xv] 102)
              have hb9 := hb8.alloc hb8.size (.cells #[.bool xw, .int .i64 xk, .int .i64 xv] 102)
              have hszj := hb8.size
              have hne9 : Value.ownBlock (.slice (some ⟨g2, o2, none⟩) R.length cap2) ≠ some w.heap.size := HNE.out _ _ _ rfl
              clear hox hin hM8 hO8 hb8
              generalize finF (k : Int) F1 (R.take j) = F2 at *
              go_wp2_with (first | (at_mapUpdate; refine wpList_putI _ rfl _ _ _ 109 rfl 3 178 keyI mapIW _ _ _ _ rfl hM9 (by unfold maxLen; omega) _ rfl hkv ⟨k, xk, true⟩ rfl ?_; intro w5 hM5 hg5; go_frame) | go_in)
              have hb5 := hb9.grown hg5 hb9.size (fun j hj => by cases hj; omega)
              have hO5 : Own w5 0 (.slice (some ⟨g2, o2, none⟩) R.length cap2) R := World.ownsRow.kept hO9 hg5 (.inr hne9)
              have hsome : (F2 xv).isSome = true := by rw [HD3.out xv]; simpa using hinW.out
              rw [hsome] at hM5
              simp only [if_true] at hM5
              clear hM9 hO9 hb9 hg5 hsome
              go_wp2_with fail
              go_roundw
              case rel => exact ⟨j + 1, m2 + 1, by omega, by go_num, by omega, by rw [HFJ.out]; exact HD3.out.again hinW.out _, by rw [HFJ.out]; exact hM5, hO5, hb5⟩
              case measure => simp [intOf]; omega
            · have hj3 : j = R.length := by omega
              subst hj3
              rw [List.take_length] at hM8 HD3
              have HW1 : Hid (wvH (h.take (k + 1)) = W1) := Lib.hid HW.out
              go_wp2_with fail
              go_roundw
              case rel => exact ⟨k + 1, m2, by omega, by go_num, by omega, by rw [HW1.out]; exact HN2.out, by rw [HW1.out, HR.out]; exact HD3.out, by rw [HW1.out, HR.out]; exact hM8, hb8⟩
              case measure => simp [intOf]; omega
    · have hkl : k = h.length := by omega
      subst hkl
      have H : Hid (okW h = true) := Lib.hid (by have := HND.out; rw [List.take_length] at this; unfold okW; simpa using this)
      rw [List.take_length] at hM
      go_wp2_with fail
      refine bodyPost_ret (v := .tuple #[.map (some w.heap.size), .bool true]) (by simp [results, Tryz.results61, go_sem]) rfl ⟨hb, .inr ⟨H.out, _, _, rfl, Nat.le_refl _, hM⟩⟩
end Go.Proofs.YtflalehpdngklaaGreatDoor

namespace Go.Proofs.YtflalehpdngklaaGreatDoor
set_option maxRecDepth 100000
open Go.RowKit

/-- Is it a write, a read of 0, or of what is written to its key? -/
def rdOk (F : Int → Option WV) (o : OpV) : Bool := o.wr || o.val == 0 || (match F o.val with
  | none => false
  | some u => u.key == o.key)
def rowOk (F : Int → Option WV) (l : List OpV) : Bool := l.all (rdOk F)
def valuesB (h : List TxnV) : Bool := okW h && h.all fun t => rowOk (wrTo h h.length) t.l
theorem rowOk_succ (F : Int → Option WV) (l : List OpV) (k : Nat) (hk : k < l.length) : rowOk F (l.take (k + 1)) = (rowOk F (l.take k) && rdOk F l[k]) := by
  unfold rowOk; rw [take_snoc l k hk, List.all_append]; simp
theorem rowOk_no {F : Int → Option WV} {l : List OpV} {k : Nat} (hk : k < l.length) (hn : rdOk F l[k] = false) : rowOk F l = false := by
  unfold rowOk; exact List.all_eq_false.2 ⟨l[k], List.getElem_mem hk, by simp [hn]⟩
theorem valuesB_no {h : List TxnV} {k : Nat} (hk : k < h.length) (hn : rowOk (wrTo h h.length) h[k].l = false) : valuesB h = false := by
  unfold valuesB
  rw [Bool.and_eq_false_iff]
  exact .inr (List.all_eq_false.2 ⟨h[k], List.getElem_mem hk, by simp [hn]⟩)
set_option maxHeartbeats 16000000 in
theorem values_any (va : Value) (h : List TxnV) (w : World) (hT : Txns w va h) (hok : ∀ t ∈ h, t.ok) (hks : ∀ t ∈ h, keysIn t.l) (hn : opsN h ≤ 100000) (hlen : h.length ≤ 100000) :
    Calls Tryz.prog 131 #[va] w fun e w' => e = .returned (.bool (valuesB h)) ∧ Below w.heap.size w w' := by
  obtain ⟨ao, cap, rfl, hal⟩ := hT.form
  have HOK := Lib.hid hok
  have CW := Lib.hid (hwrites_any _ h w hT hok hks hn hlen)
  clear hok hks
  go_enter Tryz.func131, Tryz.ntmps131
  go_wp2_with fail
  refine (CW.out).mono ?_
  rintro e w1 ⟨hb1, ⟨hno, rfl⟩ | ⟨hyes, B, n0, rfl, hB, hM0⟩⟩
  · have H : Hid (false = valuesB h) := Lib.hid (by unfold valuesB; rw [hno]; rfl)
    clear hno
    go_wp2_with fail
    go_ret
    exact ⟨ret_b H.out, hb1⟩
  have HY := Lib.hid hyes
  clear hyes CW
  have HVN : Hid (∀ k, ∀ hk : k < h.length, rowOk (wrTo h h.length) h[k].l = false → valuesB h = false) := Lib.hid (fun k hk hh => valuesB_no hk hh)
  have HVY : Hid (h.all (fun t => rowOk (wrTo h h.length) t.l) = true → valuesB h = true) := Lib.hid (fun hh => by unfold valuesB; rw [HY.out, hh]; rfl)
  generalize wrTo h h.length = F at *
  generalize (wvH h).length = cnt at *
  go_wp2_with fail
  go_loopw [20] (fun i wr => ∃ k : Nat, k ≤ h.length ∧ i = .int .i64 k ∧ ((h.take k).all (fun t => rowOk F t.l) = true) ∧ MapI eW Tryz.prog 3 wr B n0 F cnt ∧ Below w.heap.size w wr) (fun i _ => h.length - (intOf i).toNat)
  case atStart => exact ⟨0, by omega, rfl, rfl, hM0, hb1⟩
  case round =>
    obtain ⟨k, hk, rfl, hP, hM, hb⟩ := hrel
    have HP := Lib.hid hP
    clear hP hM0 hb1
    by_cases hlt : k < h.length
    · have hki : (k : Int) < (h.length : Int) := by omega
      obtain ⟨g, o, hao, c0, c1, c2, c3⟩ := (hT.below hb).at hlt
      cases hao
      have HS : Hid ((h.take (k + 1)).all (fun t => rowOk F t.l) = ((h.take k).all (fun t => rowOk F t.l) && rowOk F h[k].l)) := Lib.hid (by rw [List.take_succ_eq_append_getElem hlt, List.all_append]; simp)
      have HNO := Lib.hid (HVN.out k hlt)
      have hOps := fun wx (hx : Below w.heap.size w wx) => (hT.ops hlt).below hx
      have HTK := Lib.hid (HOK.out h[k] (List.getElem_mem hlt))
      generalize h[k] = t at *
      obtain ⟨s, b, c, v, l⟩ := t
      simp only at c0 c1 c2 c3 HS HNO hOps HTK
      obtain ⟨ai, capi, rfl, hli⟩ := (hOps w (Below.refl _ _)).form
      have HOP := Lib.hid hOps
      have hM1 := hM.alloc (.cells #[.int .i64 s, .int .i64 b, .int .i64 c, .slice ai l.length capi] 106)
      have hbb := hb.alloc hb.size (.cells #[.int .i64 s, .int .i64 b, .int .i64 c, .slice ai l.length capi] 106)
      clear hOps hM hb HVN HVY
      go_wp2_with fail
      generalize wr.alloc (.cells #[.int .i64 s, .int .i64 b, .int .i64 c, .slice ai l.length capi] 106) = w2 at *
      go_loopw [27] (fun i wx => ∃ j : Nat, j ≤ l.length ∧ i = .int .i64 j ∧ rowOk F (l.take j) = true ∧ MapI eW Tryz.prog 3 wx B n0 F cnt ∧ Below w.heap.size w wx) (fun i _ => l.length - (intOf i).toNat)
      case atStart => exact ⟨0, by omega, rfl, rfl, hM1, hbb⟩
      case round =>
        obtain ⟨j, hj, rfl, hR, hM2, hb2⟩ := hrel
        have HR := Lib.hid hR
        clear hR hM1 hbb
        by_cases hltj : j < l.length
        · have hkj : (j : Int) < (l.length : Int) := by omega
          obtain ⟨g2, o2, hao2, e0, e1, e2⟩ := (HOP.out _ hb2).at hltj
          cases hao2
          have HRS := Lib.hid (rowOk_succ F l j hltj)
          have HRN := Lib.hid (fun hh => rowOk_no (F := F) hltj hh)
          have hox := HTK.out.2 l[j] (List.getElem_mem hltj)
          generalize l[j] = x at *
          obtain ⟨xw, xk, xv⟩ := x
          simp only at e0 e1 e2
          have hkv := inI_of hox.2
          have hM3 := hM2.alloc (.cells #[.bool xw, .int .i64 xk, .int .i64 xv] 102)
          have hb3 := hb2.alloc hb2.size (.cells #[.bool xw, .int .i64 xk, .int .i64 xv] 102)
          clear hox hM2 hb2
          cases xw with
          | true =>
            have H : Hid (rowOk F (l.take (j + 1)) = true) := Lib.hid (by rw [HRS.out, HR.out]; rfl)
            clear HRS HRN
            go_wp2_with fail
            go_roundw
            case rel => exact ⟨j + 1, by omega, by go_num, H.out, hM3, hb3⟩
            case measure => simp [intOf]; omega
          | false =>
            by_cases hx0 : xv = 0
            · subst hx0
              have H : Hid (rowOk F (l.take (j + 1)) = true) := Lib.hid (by rw [HRS.out, HR.out]; rfl)
              clear HRS HRN
              go_wp2_with fail
              go_roundw
              case rel => exact ⟨j + 1, by omega, by go_num, H.out, hM3, hb3⟩
              case measure => simp [intOf]; omega
            · have hx1 : (xv == 0) = false := by simpa using hx0
              have HD : Hid (rdOk F ⟨false, xk, xv⟩ = (match F xv with | none => false | some u => u.key == xk)) := Lib.hid (by unfold rdOk; simp only [hx1]; rfl)
              clear hx0
              cases hv : F xv with
              | none =>
                have H : Hid (false = valuesB h) := Lib.hid (HNO.out (HRN.out (by rw [HD.out, hv]))).symm
                have hb4 := hb3.alloc hb3.size (.cells #[.int .i64 0, .int .i64 0, .bool false] 178)
                clear HRS HRN HD
                go_wp2_with (first | (at_lookup; refine wpList_lookI_ok _ rfl _ _ 109 rfl 3 178 keyI mapIW wZ (zeroW _) _ _ _ _ rfl hM3 _ rfl hkv ?_; rw [hv]; simp only [Option.getD_none, Option.isSome_none, eW, wZ]) | go_in)
                go_ret
                exact ⟨ret_b H.out, hb4⟩
              | some u =>
                obtain ⟨ui, uk, ul⟩ := u
                have HD2 : Hid (rdOk F ⟨false, xk, xv⟩ = (uk == xk)) := Lib.hid (by rw [HD.out, hv])
                have hM4 := hM3.alloc (.cells #[.int .i64 ui, .int .i64 uk, .bool ul] 178)
                have hb4 := hb3.alloc hb3.size (.cells #[.int .i64 ui, .int .i64 uk, .bool ul] 178)
                clear HD
                by_cases huk : uk = xk
                · subst huk
                  have H : Hid (rowOk F (l.take (j + 1)) = true) := Lib.hid (by rw [HRS.out, HR.out, HD2.out]; simp)
                  have hne : (uk != uk) = false := by simp
                  clear HRS HRN HD2
                  go_wp2_with (first | (at_lookup; refine wpList_lookI_ok _ rfl _ _ 109 rfl 3 178 keyI mapIW wZ (zeroW _) _ _ _ _ rfl hM3 _ rfl hkv ?_; rw [hv]; simp only [Option.getD_some, Option.isSome_some, eW]) | go_in)
                  go_roundw
                  case rel => exact ⟨j + 1, by omega, by go_num, H.out, hM4, hb4⟩
                  case measure => simp [intOf]; omega
                · have H : Hid (false = valuesB h) := Lib.hid (HNO.out (HRN.out (by rw [HD2.out]; simpa using huk))).symm
                  have hne : (uk != xk) = true := by simpa using huk
                  clear HRS HRN HD2 huk
                  go_wp2_with (first | (at_lookup; refine wpList_lookI_ok _ rfl _ _ 109 rfl 3 178 keyI mapIW wZ (zeroW _) _ _ _ _ rfl hM3 _ rfl hkv ?_; rw [hv]; simp only [Option.getD_some, Option.isSome_some, eW]) | go_in)
                  go_ret
                  exact ⟨ret_b H.out, hb4⟩
        · have hj2 : j = l.length := by omega
          subst hj2
          have H : Hid ((h.take (k + 1)).all (fun t => rowOk F t.l) = true) := Lib.hid (by have := HR.out; rw [List.take_length] at this; rw [HS.out, HP.out, this]; rfl)
          go_wp2_with fail
          go_roundw
          case rel => exact ⟨k + 1, by omega, by go_num, H.out, hM2, hb2⟩
          case measure => simp [intOf]; omega
    · have hkl : k = h.length := by omega
      subst hkl
      have H : Hid (true = valuesB h) := Lib.hid (HVY.out (by have := HP.out; rw [List.take_length] at this; exact this)).symm
      go_wp2_with fail
      go_ret
      exact ⟨ret_b H.out, hb⟩
end Go.Proofs.YtflalehpdngklaaGreatDoor

namespace Go.Proofs.YtflalehpdngklaaGreatDoor
set_option maxRecDepth 100000
open Go.RowKit

def rightB (h : List TxnV) : Bool := partsB h && (valuesB h && (stampsB h && sesB h))
def checkI (h : List TxnV) : Int := if 64 < h.length ∨ 1024 < opsN h then 3 else if rightB h then 0 else 2
theorem opsN_short : ∀ (h : List TxnV), Short h → opsN h ≤ h.length * 6000000000000
  | [], _ => by simp [opsN]
  | t :: h, hs => by
    have h1 := opsN_short h (fun u hu => hs u (List.mem_cons_of_mem _ hu))
    have h2 := hs t List.mem_cons_self
    unfold opsN at *
    simp only [List.map_cons, List.sum_cons, List.length_cons]
    omega
theorem parts_keys {h : List TxnV} (hp : partsB h = true) : ∀ t ∈ h, keysIn t.l := by
  intro t ht
  have := List.all_eq_true.1 hp t ht
  unfold mayT at this
  simp only [Bool.and_eq_true] at this
  exact allM_keys this.2
set_option maxHeartbeats 8000000 in
theorem hcheck_any (va : Value) (h : List TxnV) (w : World) (hT : Txns w va h) (hok : ∀ t ∈ h, t.ok) (hsh : Short h) :
    Calls Tryz.prog 60 #[va] w fun e w' => e = .returned (.int .i64 (checkI h)) ∧ Below w.heap.size w w' := by
  obtain ⟨ao, cap, rfl, hal⟩ := hT.form
  by_cases hbig : 64 < h.length
  · have hbig' : (64 : Int) < (h.length : Int) := by omega
    have H : Hid ((3 : Int) = checkI h) := Lib.hid (by unfold checkI; rw [if_pos (.inl hbig)])
    go_enter Tryz.func60, Tryz.ntmps60
    go_wp2_with fail
    go_ret
    exact ⟨ret_int H.out, Below.refl _ _⟩
  have hbf : decide ((64 : Int) < (h.length : Int)) = false := by simp; omega
  have hle := opsN_short h hsh
  have CO := Lib.hid (hops_any _ h w hT (by omega))
  have HT := Lib.hid (fun wx (hx : Below w.heap.size w wx) => hT.below hx)
  have HOK := Lib.hid hok
  clear hT hok hsh
  go_enter Tryz.func60, Tryz.ntmps60
  go_wp2_with fail
  refine (CO.out).mono ?_
  rintro e w1 ⟨rfl, hb1⟩
  clear CO
  by_cases hov : 1024 < opsN h
  · have hov' : (1024 : Int) < (opsN h : Int) := by omega
    have H : Hid ((3 : Int) = checkI h) := Lib.hid (by unfold checkI; rw [if_pos (.inr hov)])
    go_wp2_with fail
    go_ret
    exact ⟨ret_int H.out, hb1⟩
  have hov' : decide ((1024 : Int) < (opsN h : Int)) = false := by simp; omega
  have HCK : Hid (checkI h = if rightB h then 0 else 2) := Lib.hid (by unfold checkI; rw [if_neg (by omega)])
  have CP := Lib.hid (parts_any _ h w1 (HT.out _ hb1))
  cases hp : partsB h
  · have H : Hid ((2 : Int) = checkI h) := Lib.hid (by rw [HCK.out]; unfold rightB; rw [hp]; rfl)
    rw [hp] at CP
    clear hp
    go_wp2_with fail
    refine (CP.out).mono ?_
    rintro e w2 ⟨rfl, hb2⟩
    have hb3 := below_then hb1 hb2
    go_wp2_with fail
    go_ret
    exact ⟨ret_int H.out, hb3⟩
  rw [hp] at CP
  have HKS := Lib.hid (parts_keys hp)
  have HR1 : Hid (rightB h = (valuesB h && (stampsB h && sesB h))) := Lib.hid (by unfold rightB; rw [hp]; rfl)
  clear hp
  go_wp2_with fail
  refine (CP.out).mono ?_
  rintro e w2 ⟨rfl, hb2⟩
  have hb3 := below_then hb1 hb2
  have CV := Lib.hid (values_any _ h w2 (HT.out _ hb3) HOK.out HKS.out (by omega) (by omega))
  clear CP hb1 hb2
  cases hv : valuesB h
  · have H : Hid ((2 : Int) = checkI h) := Lib.hid (by rw [HCK.out, HR1.out, hv]; rfl)
    rw [hv] at CV
    clear hv
    go_wp2_with fail
    refine (CV.out).mono ?_
    rintro e w4 ⟨rfl, hb4⟩
    have hb5 := below_then hb3 hb4
    go_wp2_with fail
    go_ret
    exact ⟨ret_int H.out, hb5⟩
  rw [hv] at CV
  have HR2 : Hid (rightB h = (stampsB h && sesB h)) := Lib.hid (by rw [HR1.out, hv]; rfl)
  clear hv HR1
  go_wp2_with fail
  refine (CV.out).mono ?_
  rintro e w4 ⟨rfl, hb4⟩
  have hb5 := below_then hb3 hb4
  have CS := Lib.hid (stamps_any _ h w4 (HT.out _ hb5) HOK.out (by omega))
  clear CV hb3 hb4
  cases hs : stampsB h
  · have H : Hid ((2 : Int) = checkI h) := Lib.hid (by rw [HCK.out, HR2.out, hs]; rfl)
    rw [hs] at CS
    clear hs
    go_wp2_with fail
    refine (CS.out).mono ?_
    rintro e w6 ⟨rfl, hb6⟩
    have hb7 := below_then hb5 hb6
    go_wp2_with fail
    go_ret
    exact ⟨ret_int H.out, hb7⟩
  rw [hs] at CS
  have HR3 : Hid (rightB h = sesB h) := Lib.hid (by rw [HR2.out, hs]; rfl)
  clear hs HR2
  go_wp2_with fail
  refine (CS.out).mono ?_
  rintro e w6 ⟨rfl, hb6⟩
  have hb7 := below_then hb5 hb6
  have CE := Lib.hid (sessions_any _ h w6 (HT.out _ hb7) HOK.out (by omega))
  clear CS hb5 hb6
  cases hse : sesB h
  · have H : Hid ((2 : Int) = checkI h) := Lib.hid (by rw [HCK.out, HR3.out, hse]; rfl)
    rw [hse] at CE
    clear hse
    go_wp2_with fail
    refine (CE.out).mono ?_
    rintro e w8 ⟨rfl, hb8⟩
    have hb9 := below_then hb7 hb8
    go_wp2_with fail
    go_ret
    exact ⟨ret_int H.out, hb9⟩
  · have H : Hid ((0 : Int) = checkI h) := Lib.hid (by rw [HCK.out, HR3.out, hse]; rfl)
    rw [hse] at CE
    clear hse
    go_wp2_with fail
    refine (CE.out).mono ?_
    rintro e w8 ⟨rfl, hb8⟩
    have hb9 := below_then hb7 hb8
    go_wp2_with fail
    go_ret
    exact ⟨ret_int H.out, hb9⟩
end Go.Proofs.YtflalehpdngklaaGreatDoor

namespace Go.Proofs.YtflalehpdngklaaGreatDoor
set_option maxRecDepth 100000
open Go.RowKit

set_option maxHeartbeats 4000000 in
theorem mayop_any (wr : Bool) (key val : Int) (w : World) :
    Calls Tryz.prog 174 #[.agg #[.bool wr, .int .i64 key, .int .i64 val]] w fun e w' => e = .returned (.bool (mayO ⟨wr, key, val⟩)) ∧ Below w.heap.size w w' := by
  have hi : mayO ⟨wr, key, val⟩ = true ↔ (0 ≤ key ∧ key < 64) ∧ (0 ≤ val ∧ val ≤ 2147483647) ∧ (wr = true → val ≠ 0) := mayO_iff ⟨wr, key, val⟩
  have hb := box_below w (.cells #[.bool wr, .int .i64 key, .int .i64 val] 102)
  have NO : Hid (¬ ((0 ≤ key ∧ key < 64) ∧ (0 ≤ val ∧ val ≤ 2147483647) ∧ (wr = true → val ≠ 0)) → false = mayO ⟨wr, key, val⟩) := Lib.hid (fun h => by
    cases hm : mayO ⟨wr, key, val⟩
    · rfl
    · exact absurd (hi.1 hm) h)
  by_cases d1 : key < 0
  · have H := Lib.hid (NO.out (by omega))
    go_enter Tryz.func174, Tryz.ntmps174
    go_wp2_with fail
    go_ret
    exact ⟨ret_b H.out, hb⟩
  by_cases d2 : (63 : Int) < key
  · have H := Lib.hid (NO.out (by omega))
    go_enter Tryz.func174, Tryz.ntmps174
    go_wp2_with fail
    go_ret
    exact ⟨ret_b H.out, hb⟩
  by_cases d3 : val < 0
  · have H := Lib.hid (NO.out (by omega))
    go_enter Tryz.func174, Tryz.ntmps174
    go_wp2_with fail
    go_ret
    exact ⟨ret_b H.out, hb⟩
  by_cases d4 : (2147483647 : Int) < val
  · have H := Lib.hid (NO.out (by omega))
    go_enter Tryz.func174, Tryz.ntmps174
    go_wp2_with fail
    go_ret
    exact ⟨ret_b H.out, hb⟩
  cases wr
  · have H : Hid (true = mayO ⟨false, key, val⟩) := Lib.hid (hi.2 ⟨by omega, by omega, fun h => by cases h⟩).symm
    clear hi NO
    go_enter Tryz.func174, Tryz.ntmps174
    go_wp2_with fail
    go_ret
    exact ⟨ret_b H.out, hb⟩
  · by_cases d5 : val = 0
    · have H := Lib.hid (NO.out (fun h => h.2.2 rfl d5))
      subst d5
      clear hi NO
      go_enter Tryz.func174, Tryz.ntmps174
      go_wp2_with fail
      go_ret
      exact ⟨ret_b H.out, hb⟩
    · have H : Hid (true = mayO ⟨true, key, val⟩) := Lib.hid (hi.2 ⟨by omega, by omega, fun _ => d5⟩).symm
      have d6 : (val != 0) = true := by simpa using d5
      clear hi NO d5
      go_enter Tryz.func174, Tryz.ntmps174
      go_wp2_with fail
      go_ret
      exact ⟨ret_b H.out, hb⟩
set_option maxHeartbeats 8000000 in
theorem maytxn_any (s b c : Int) (va : Value) (l : List OpV) (w : World) (ha : Ops w va l) :
    Calls Tryz.prog 152 #[.agg #[.int .i64 s, .int .i64 b, .int .i64 c, va]] w fun e w' => e = .returned (.bool (mayT s b c l)) ∧ Below w.heap.size w w' := by
  obtain ⟨ao, cap, rfl, hal⟩ := ha.form
  have hb0 := (Below.refl w.heap.size w).alloc (Nat.le_refl _) (.cells #[.int .i64 s, .int .i64 b, .int .i64 c, .slice ao l.length cap] 106)
  have hA0 := At.new w (.cells #[.int .i64 s, .int .i64 b, .int .i64 c, .slice ao l.length cap] 106)
  have NO : Hid (¬ (0 ≤ s ∧ s < 64 ∧ 0 ≤ b ∧ b < c ∧ c ≤ 2147483647 ∧ 1 ≤ l.length ∧ l.length ≤ 64) → false = mayT s b c l) := Lib.hid (fun h => (mayT_no h).symm)
  by_cases d1 : s < 0
  · have H := Lib.hid (NO.out (by omega))
    go_enter Tryz.func152, Tryz.ntmps152
    go_wp2_with fail
    go_ret
    exact ⟨ret_b H.out, hb0⟩
  by_cases d2 : (63 : Int) < s
  · have H := Lib.hid (NO.out (by omega))
    go_enter Tryz.func152, Tryz.ntmps152
    go_wp2_with fail
    go_ret
    exact ⟨ret_b H.out, hb0⟩
  by_cases d3 : b < 0
  · have H := Lib.hid (NO.out (by omega))
    go_enter Tryz.func152, Tryz.ntmps152
    go_wp2_with fail
    go_ret
    exact ⟨ret_b H.out, hb0⟩
  by_cases d4 : c ≤ b
  · have H := Lib.hid (NO.out (by omega))
    go_enter Tryz.func152, Tryz.ntmps152
    go_wp2_with fail
    go_ret
    exact ⟨ret_b H.out, hb0⟩
  by_cases d5 : (2147483647 : Int) < c
  · have H := Lib.hid (NO.out (by omega))
    go_enter Tryz.func152, Tryz.ntmps152
    go_wp2_with fail
    go_ret
    exact ⟨ret_b H.out, hb0⟩
  by_cases d6 : (l.length : Int) < 1
  · have H := Lib.hid (NO.out (by omega))
    go_enter Tryz.func152, Tryz.ntmps152
    go_wp2_with fail
    go_ret
    exact ⟨ret_b H.out, hb0⟩
  by_cases d7 : (64 : Int) < (l.length : Int)
  · have H := Lib.hid (NO.out (by omega))
    go_enter Tryz.func152, Tryz.ntmps152
    go_wp2_with fail
    go_ret
    exact ⟨ret_b H.out, hb0⟩
  have YES : Hid (mayT s b c l = allM l) := Lib.hid (mayT_yes (by omega))
  clear NO
  go_enter Tryz.func152, Tryz.ntmps152
  go_wp2_with fail
  clear d1 d2 d3 d4 d5 d6 d7
  go_loopw [3] (fun i wr => ∃ k : Nat, k ≤ l.length ∧ i = .int .i64 k ∧ allM (l.take k) = true ∧ At wr w.heap.size (.cells #[.int .i64 s, .int .i64 b, .int .i64 c, .slice ao l.length cap] 106) ∧ Below w.heap.size w wr) (fun i _ => l.length - (intOf i).toNat)
  case atStart => exact ⟨0, by omega, rfl, rfl, hA0, hb0⟩
  case round =>
    obtain ⟨k, hk, rfl, hal2, hA, hb⟩ := hrel
    have HA := Lib.hid hal2
    clear hal2 hb0 hA0
    obtain ⟨q0, q1, q2, q3⟩ := hA.cells4
    by_cases hlt : k < l.length
    · have hki : (k : Int) < (l.length : Int) := by omega
      obtain ⟨g, o, hao, c0, c1, c2⟩ := (ha.below hb).at hlt
      cases hao
      have HS := Lib.hid (allM_succ l k hlt)
      have HNO := Lib.hid (allM_no l k hlt)
      generalize l[k] = x at *
      obtain ⟨xw, xk, xv⟩ := x
      try simp only at c0 c1 c2
      have CR := Lib.hid (mayop_any xw xk xv wr)
      generalize mayO ⟨xw, xk, xv⟩ = q at *
      go_wp2_with fail
      refine (CR.out).mono ?_
      rintro e w1 ⟨rfl, hb1⟩
      have hb2 := below_then hb hb1
      have hA1 := hA.below hb1
      clear CR q0 q1 q2 q3
      cases q
      · have H : Hid (false = mayT s b c l) := Lib.hid (by rw [YES.out, HNO.out rfl])
        go_wp2_with fail
        go_ret
        exact ⟨ret_b H.out, hb2⟩
      · have H : Hid (allM (l.take (k + 1)) = true) := Lib.hid (by rw [HS.out, HA.out]; rfl)
        go_wp2_with fail
        go_roundw
        case rel => exact ⟨k + 1, by omega, by go_num, H.out, hA1, hb2⟩
        case measure => simp [intOf]; omega
    · have hkl : k = l.length := by omega
      have H : Hid (true = mayT s b c l) := Lib.hid (by have := HA.out; rw [hkl, List.take_length] at this; rw [YES.out, this])
      go_wp2_with fail
      go_ret
      exact ⟨ret_b H.out, hb⟩
/-- How often a value is written. -/
def tmO (x : Int) (l : List OpV) : Nat := (wv l).count x
def tmH (x : Int) (h : List TxnV) : Nat := (wvH h).count x
theorem tmO_succ (x : Int) (l : List OpV) (k : Nat) (hk : k < l.length) : tmO x (l.take (k + 1)) = tmO x (l.take k) + (if l[k].wr = true ∧ l[k].val = x then 1 else 0) := by
  unfold tmO
  rw [take_snoc l k hk, wv_snoc, List.count_append]
  cases hw : l[k].wr
  · simp
  · by_cases e : l[k].val = x <;> simp [e]
theorem tmH_succ (x : Int) (h : List TxnV) (k : Nat) (hk : k < h.length) : tmH x (h.take (k + 1)) = tmH x (h.take k) + tmO x h[k].l := by
  unfold tmH tmO; rw [wvH_succ h k hk, List.count_append]
theorem tmO_le (x : Int) (l : List OpV) (k : Nat) : tmO x (l.take k) ≤ k := by
  unfold tmO
  have h1 := List.count_le_length (a := x) (l := wv (l.take k))
  have h2 := wv_len (l.take k)
  rw [List.length_take] at h2
  omega
theorem tmH_le (x : Int) (h : List TxnV) : tmH x h ≤ opsN h := by
  unfold tmH
  have h1 := List.count_le_length (a := x) (l := wvH h)
  have h2 : (wvH h).length ≤ opsN h := by
    unfold wvH opsN
    rw [List.length_flatMap]
    clear h1
    induction h with
    | nil => simp
    | cons t h ih =>
      have := wv_len t.l
      simp only [List.map_cons, List.sum_cons]
      omega
  omega
set_option maxHeartbeats 8000000 in
theorem times_any (va : Value) (h : List TxnV) (x : Int) (w : World) (hT : Txns w va h) (hn : opsN h ≤ 100000) :
    Calls Tryz.prog 153 #[va, .int .i64 x] w fun e w' => e = .returned (.int .i64 (tmH x h)) ∧ Below w.heap.size w w' := by
  obtain ⟨ao, cap, rfl, hal⟩ := hT.form
  go_enter Tryz.func153, Tryz.ntmps153
  go_wp2_with fail
  go_loopw [5, 6] (fun n i wr => ∃ k : Nat, k ≤ h.length ∧ i = .int .i64 k ∧ n = .int .i64 (tmH x (h.take k)) ∧ w = wr) (fun _ i _ => h.length - (intOf i).toNat)
  case atStart => exact ⟨0, by omega, rfl, by simp [tmH, wvH], rfl⟩
  case round =>
    obtain ⟨k, hk, rfl, rfl, rfl⟩ := hrel
    by_cases hlt : k < h.length
    · have hki : (k : Int) < (h.length : Int) := by omega
      obtain ⟨g, o, hao, c0, c1, c2, c3⟩ := hT.at hlt
      cases hao
      have HS := Lib.hid (tmH_succ x h k hlt)
      have hle1 := tmH_le x (h.take k)
      have hle2 := opsN_le h k
      have hle3 := opsN_at h k hlt
      obtain ⟨ai, capi, hv, hli⟩ := (hT.ops hlt).form
      have hO := hT.ops hlt
      rw [hv] at c3 hO
      generalize h[k].l = l at *
      generalize tmH x (h.take k) = m at *
      clear hv c0 c1 c2 hT
      go_wp2_with fail
      go_loopw [5, 7] (fun n i wx => ∃ j : Nat, j ≤ l.length ∧ i = .int .i64 j ∧ n = .int .i64 ((m + tmO x (l.take j) : Nat)) ∧ w = wx) (fun _ i _ => l.length - (intOf i).toNat)
      case atStart => exact ⟨0, by omega, rfl, by simp [tmO, wv], rfl⟩
      case round =>
        obtain ⟨j, hj, rfl, rfl, rfl⟩ := hrel
        have htj := tmO_le x l j
        by_cases hltj : j < l.length
        · have hkj : (j : Int) < (l.length : Int) := by omega
          obtain ⟨g2, o2, hao2, e0, e1, e2⟩ := hO.at hltj
          cases hao2
          have HSJ := Lib.hid (tmO_succ x l j hltj)
          generalize l[j] = y at *
          obtain ⟨yw, yk, yv⟩ := y
          try simp only at e0 e1 e2
          generalize tmO x (l.take j) = n at *
          cases yw with
          | false =>
            have H : Hid (tmO x (l.take (j + 1)) = n) := Lib.hid (by rw [HSJ.out]; simp)
            clear HSJ
            go_wp2_with fail
            go_roundw
            case rel => exact ⟨j + 1, by omega, by go_num, by rw [H.out], by first | rfl | trivial⟩
            case measure => simp [intOf]; omega
          | true =>
            by_cases hx : yv = x
            · have H : Hid (tmO x (l.take (j + 1)) = n + 1) := Lib.hid (by rw [HSJ.out]; simp [hx])
              subst hx
              clear HSJ
              go_wp2_with fail
              go_roundw
              case rel => exact ⟨j + 1, by omega, by go_num, by rw [H.out]; go_num, by first | rfl | trivial⟩
              case measure => simp [intOf]; omega
            · have H : Hid (tmO x (l.take (j + 1)) = n) := Lib.hid (by rw [HSJ.out]; simp [hx])
              have hx' : (yv == x) = false := by simpa using hx
              clear HSJ hx
              go_wp2_with fail
              go_roundw
              case rel => exact ⟨j + 1, by omega, by go_num, by rw [H.out], by first | rfl | trivial⟩
              case measure => simp [intOf]; omega
        · have hj2 : j = l.length := by omega
          subst hj2
          have H : Hid (tmH x (h.take (k + 1)) = m + tmO x (l.take l.length)) := Lib.hid (by rw [HS.out, List.take_length])
          generalize tmO x (l.take l.length) = n at *
          go_wp2_with fail
          go_roundw
          case rel => exact ⟨k + 1, by omega, by go_num, by rw [H.out], by first | rfl | trivial⟩
          case measure => simp [intOf]; omega
    · have hkl : k = h.length := by omega
      subst hkl
      have H : Hid ((tmH x (h.take h.length) : Int) = tmH x h) := Lib.hid (by rw [List.take_length])
      generalize tmH x (h.take h.length) = n at *
      go_wp2_with fail
      go_ret
      exact ⟨ret_int H.out, Below.refl _ _⟩
end Go.Proofs.YtflalehpdngklaaGreatDoor

namespace Go.Proofs.YtflalehpdngklaaGreatDoor
set_option maxRecDepth 100000
open Go.RowKit

def isWr (key x : Int) (o : OpV) : Bool := o.wr && (o.key == key && o.val == x)
/-- Who writes a value to a key; -1: nobody does. -/
def wrI (key x : Int) (h : List TxnV) : Int := match h.findIdx? (fun t => t.l.any (isWr key x)) with
  | some i => i
  | none => -1
theorem wrI_hit {key x : Int} {h : List TxnV} {k j : Nat} (hk : k < h.length) (hj : j < h[k].l.length) (hn : ∀ i, ∀ hi : i < k, (h[i]'(by omega)).l.any (isWr key x) = false) (hh : isWr key x h[k].l[j] = true) : wrI key x h = k := by
  unfold wrI
  have : h.findIdx? (fun t => t.l.any (isWr key x)) = some k := by
    rw [List.findIdx?_eq_some_iff_getElem]
    exact ⟨hk, List.any_eq_true.2 ⟨_, List.getElem_mem hj, hh⟩, fun i hi => by rw [hn i hi]; simp⟩
  rw [this]
theorem wrI_none {key x : Int} {h : List TxnV} (hn : ∀ i, ∀ hi : i < h.length, h[i].l.any (isWr key x) = false) : wrI key x h = -1 := by
  unfold wrI
  have : h.findIdx? (fun t => t.l.any (isWr key x)) = none := by
    rw [List.findIdx?_eq_none_iff]
    intro t ht
    obtain ⟨i, hi, rfl⟩ := List.getElem_of_mem ht
    exact hn i hi
  rw [this]
theorem wrI_nonneg {key x : Int} {h : List TxnV} : wrI key x h < 0 ↔ ∀ t ∈ h, ∀ o ∈ t.l, isWr key x o = false := by
  unfold wrI
  cases hf : h.findIdx? (fun t => t.l.any (isWr key x)) with
  | none =>
    rw [List.findIdx?_eq_none_iff] at hf
    simp only [Int.reduceNeg, Int.reduceLT, true_iff]
    intro t ht o ho
    have := List.any_eq_false.1 (hf t ht) o ho
    simpa using this
  | some i =>
    rw [List.findIdx?_eq_some_iff_getElem] at hf
    obtain ⟨hi, h1, _⟩ := hf
    constructor
    · intro h2; simp only at h2; omega
    · intro h2
      obtain ⟨o, ho, hw⟩ := List.any_eq_true.1 h1
      rw [h2 _ (List.getElem_mem hi) o ho] at hw
      cases hw
set_option maxHeartbeats 8000000 in
theorem writer_any (va : Value) (h : List TxnV) (key x : Int) (w : World) (hT : Txns w va h) :
    Calls Tryz.prog 117 #[va, .int .i64 key, .int .i64 x] w fun e w' => e = .returned (.int .i64 (wrI key x h)) ∧ Below w.heap.size w w' := by
  obtain ⟨ao, cap, rfl, hal⟩ := hT.form
  have HT := Lib.hid (fun wx (hx : Below w.heap.size w wx) => hT.below hx)
  have HHIT : Hid (∀ k j, ∀ hk : k < h.length, ∀ hj : j < h[k].l.length, (∀ i, ∀ hi : i < k, (h[i]'(by omega)).l.any (isWr key x) = false) → isWr key x h[k].l[j] = true → (k : Int) = wrI key x h) := Lib.hid (fun k j hk hj hn hh => (wrI_hit hk hj hn hh).symm)
  have HNONE : Hid ((∀ i, ∀ hi : i < h.length, h[i].l.any (isWr key x) = false) → (-1 : Int) = wrI key x h) := Lib.hid (fun hn => (wrI_none hn).symm)
  clear hT
  go_enter Tryz.func117, Tryz.ntmps117
  go_wp2_with fail
  go_loopw [7] (fun i wr => ∃ k : Nat, k ≤ h.length ∧ i = .int .i64 k ∧ (∀ i, ∀ _ : i < k, ∀ hi2 : i < h.length, h[i].l.any (isWr key x) = false) ∧ Below w.heap.size w wr) (fun i _ => h.length - (intOf i).toNat)
  case atStart => exact ⟨0, by omega, rfl, by omega, Below.refl _ _⟩
  case round =>
    obtain ⟨k, hk, rfl, hN, hb⟩ := hrel
    have HN := Lib.hid hN
    clear hN
    by_cases hlt : k < h.length
    · have hki : (k : Int) < (h.length : Int) := by omega
      obtain ⟨g, o, hao, c0, c1, c2, c3⟩ := (HT.out _ hb).at hlt
      cases hao
      have HOP := Lib.hid (fun wx (hx : Below w.heap.size w wx) => (HT.out wx hx).ops hlt)
      have HAT := Lib.hid (fun wx (hx : Below w.heap.size w wx) => (HT.out wx hx).at hlt)
      have HHK := Lib.hid (fun j hj hh => HHIT.out k j hlt hj (fun i hi => HN.out i hi (by omega)) hh)
      have HLK : Hid (h[k].l.any (isWr key x) = false → ∀ i, ∀ _ : i < k + 1, ∀ hi2 : i < h.length, h[i].l.any (isWr key x) = false) := Lib.hid (fun hh i hi hi2 => by
        rcases Nat.lt_or_eq_of_le (Nat.le_of_lt_succ hi) with h1 | rfl
        · exact HN.out i h1 hi2
        · exact hh)
      obtain ⟨ai, capi, hv, hli⟩ := ((HT.out _ hb).ops hlt).form
      rw [hv] at HOP c3 HAT
      generalize h[k].l = l at *
      clear hv c0 c1 c2 c3 HHIT HNONE
      go_wp2_with fail
      go_loopw [8] (fun i wx => ∃ j : Nat, j ≤ l.length ∧ i = .int .i64 j ∧ ((l.take j).any (isWr key x) = false) ∧ Below w.heap.size w wx) (fun i _ => l.length - (intOf i).toNat)
      case atStart => exact ⟨0, by omega, rfl, rfl, hb⟩
      case round =>
        obtain ⟨j, hj, rfl, hA, hb2⟩ := hrel
        have HA := Lib.hid hA
        clear hA hb
        obtain ⟨_, _, hao, c0, c1, c2, c3⟩ := HAT.out _ hb2
        cases hao
        clear c0 c1 c2
        by_cases hltj : j < l.length
        · have hkj : (j : Int) < (l.length : Int) := by omega
          obtain ⟨g2, o2, hao2, e0, e1, e2⟩ := (HOP.out _ hb2).at hltj
          cases hao2
          have HS : Hid ((l.take (j + 1)).any (isWr key x) = ((l.take j).any (isWr key x) || isWr key x l[j])) := Lib.hid (by rw [take_snoc l j hltj, List.any_append]; simp)
          have HH := Lib.hid (HHK.out j hltj)
          generalize l[j] = y at *
          obtain ⟨yw, yk, yv⟩ := y
          try simp only at e0 e1 e2
          have hb3 := hb2.alloc hb2.size (.cells #[.bool yw, .int .i64 yk, .int .i64 yv] 102)
          clear HHK
          cases yw with
          | false =>
            have H : Hid ((l.take (j + 1)).any (isWr key x) = false) := Lib.hid (by rw [HS.out, HA.out]; rfl)
            clear HS HH
            go_wp2_with fail
            go_roundw
            case rel => exact ⟨j + 1, by omega, by go_num, H.out, hb3⟩
            case measure => simp [intOf]; omega
          | true =>
            by_cases hyk : yk = key
            · subst hyk
              by_cases hyv : yv = x
              · have H := Lib.hid (HH.out (by subst hyv; unfold isWr; simp))
                subst hyv
                clear HS HH
                go_wp2_with fail
                go_ret
                exact ⟨ret_int H.out, hb3⟩
              · have H : Hid ((l.take (j + 1)).any (isWr yk x) = false) := Lib.hid (by rw [HS.out, HA.out]; unfold isWr; simp [hyv])
                have hyv' : (yv == x) = false := by simpa using hyv
                clear HS HH hyv
                go_wp2_with fail
                go_roundw
                case rel => exact ⟨j + 1, by omega, by go_num, H.out, hb3⟩
                case measure => simp [intOf]; omega
            · have H : Hid ((l.take (j + 1)).any (isWr key x) = false) := Lib.hid (by rw [HS.out, HA.out]; unfold isWr; simp [hyk])
              have hyk' : (yk == key) = false := by simpa using hyk
              clear HS HH hyk
              go_wp2_with fail
              go_roundw
              case rel => exact ⟨j + 1, by omega, by go_num, H.out, hb3⟩
              case measure => simp [intOf]; omega
        · have hj2 : j = l.length := by omega
          subst hj2
          have H := Lib.hid (HLK.out (by have := HA.out; rwa [List.take_length] at this))
          go_wp2_with fail
          go_roundw
          case rel => exact ⟨k + 1, by omega, by go_num, H.out, hb2⟩
          case measure => simp [intOf]; omega
    · have hkl : k = h.length := by omega
      subst hkl
      have H := Lib.hid (HNONE.out (fun i hi => HN.out i hi hi))
      clear HHIT HNONE
      go_wp2_with fail
      go_ret
      exact ⟨ret_int H.out, hb⟩
end Go.Proofs.YtflalehpdngklaaGreatDoor

namespace Go.Proofs.YtflalehpdngklaaGreatDoor
set_option maxRecDepth 100000
open Go.RowKit

/-- Do two transactions' stamps, and their sessions', go beside each other? -/
def apartB (a t : TxnV) : Bool := (a.b != t.b && (a.b != t.c && (a.c != t.b && a.c != t.c))) && !(a.s == t.s && decide (t.b < a.c))
def opR (h : List TxnV) (o : OpV) : Bool := if o.wr then tmH o.val h == 1 else o.val == 0 || !decide (wrI o.key o.val h < 0)
def rowR (h : List TxnV) (k : Nat) (t : TxnV) : Bool := mayT t.s t.b t.c t.l && ((h.take k).all (fun a => apartB a t) && t.l.all (opR h))
def mayRef (h : List TxnV) : Bool := (List.range h.length).all fun k => match h[k]? with
  | some t => rowR h k t
  | none => true
theorem mayRef_no {h : List TxnV} {k : Nat} (hk : k < h.length) (hn : rowR h k h[k] = false) : mayRef h = false := by
  unfold mayRef
  rw [List.all_eq_false]
  exact ⟨k, List.mem_range.2 hk, by rw [List.getElem?_eq_getElem hk]; simp [hn]⟩
theorem mayRef_yes {h : List TxnV} (hn : ∀ k, ∀ hk : k < h.length, rowR h k h[k] = true) : mayRef h = true := by
  unfold mayRef
  rw [List.all_eq_true]
  intro k hk
  have := List.mem_range.1 hk
  rw [List.getElem?_eq_getElem this]; exact hn k this
theorem rowR_a {h : List TxnV} {k : Nat} {t : TxnV} (hn : mayT t.s t.b t.c t.l = false) : rowR h k t = false := by unfold rowR; rw [hn]; rfl
theorem rowR_b {h : List TxnV} {k : Nat} {t : TxnV} {j : Nat} (hj : j < k) (hk : k ≤ h.length) (hn : apartB (h[j]'(by omega)) t = false) : rowR h k t = false := by
  unfold rowR
  have : (h.take k).all (fun a => apartB a t) = false := List.all_eq_false.2 ⟨h[j]'(by omega), by rw [List.mem_take_iff_getElem]; exact ⟨j, by omega, rfl⟩, by simp [hn]⟩
  rw [this]; simp
theorem rowR_c {h : List TxnV} {k : Nat} {t : TxnV} {j : Nat} (hj : j < t.l.length) (hn : opR h t.l[j] = false) : rowR h k t = false := by
  unfold rowR
  have : t.l.all (opR h) = false := List.all_eq_false.2 ⟨t.l[j], List.getElem_mem hj, by simp [hn]⟩
  rw [this]; simp
set_option maxHeartbeats 16000000 in
theorem rmay_any (va : Value) (h : List TxnV) (w : World) (hT : Txns w va h) (hn : opsN h ≤ 100000) :
    Calls Tryz.prog 91 #[va] w fun e w' => e = .returned (.bool (mayRef h)) ∧ Below w.heap.size w w' := by
  obtain ⟨ao, cap, rfl, hal⟩ := hT.form
  have HT := Lib.hid (fun wx (hx : Below w.heap.size w wx) => hT.below hx)
  have HNO : Hid (∀ k, ∀ hk : k < h.length, rowR h k h[k] = false → false = mayRef h) := Lib.hid (fun k hk hh => (mayRef_no hk hh).symm)
  have HTM : Hid (∀ x wx, Below w.heap.size w wx → Calls Tryz.prog 153 #[.slice ao h.length cap, .int .i64 x] wx fun e w' => e = .returned (.int .i64 (tmH x h)) ∧ Below wx.heap.size wx w') := Lib.hid (fun x wx hx => times_any _ h x wx (hT.below hx) hn)
  have HWR : Hid (∀ key x wx, Below w.heap.size w wx → Calls Tryz.prog 117 #[.slice ao h.length cap, .int .i64 key, .int .i64 x] wx fun e w' => e = .returned (.int .i64 (wrI key x h)) ∧ Below wx.heap.size wx w') := Lib.hid (fun key x wx hx => writer_any _ h key x wx (hT.below hx))
  clear hT
  go_enter Tryz.func91, Tryz.ntmps91
  go_wp2_with fail
  go_loopw [3] (fun i wr => ∃ k : Nat, k ≤ h.length ∧ i = .int .i64 k ∧ (∀ j, ∀ _ : j < k, ∀ hj : j < h.length, rowR h j h[j] = true) ∧ Below w.heap.size w wr) (fun i _ => h.length - (intOf i).toNat)
  case atStart => exact ⟨0, by omega, rfl, by omega, Below.refl _ _⟩
  case round =>
    obtain ⟨k, hk, rfl, hN, hb⟩ := hrel
    have HN := Lib.hid hN
    clear hN
    by_cases hlt : k < h.length
    · have hki : (k : Int) < (h.length : Int) := by omega
      obtain ⟨g, o, hao, c0, c1, c2, c3⟩ := (HT.out _ hb).at hlt
      cases hao
      have HOP := Lib.hid (fun wx (hx : Below w.heap.size w wx) => (HT.out wx hx).ops hlt)
      have HAT := Lib.hid (fun wx (hx : Below w.heap.size w wx) => (HT.out wx hx).at hlt)
      have HAJ := Lib.hid (fun wx (hx : Below w.heap.size w wx) j (hj : j < h.length) => (HT.out wx hx).at hj)
      have HNK := Lib.hid (HNO.out k hlt)
      have HLK : Hid (rowR h k h[k] = true → ∀ i, ∀ _ : i < k + 1, ∀ hi2 : i < h.length, rowR h i h[i] = true) := Lib.hid (fun hh i hi hi2 => by
        rcases Nat.lt_or_eq_of_le (Nat.le_of_lt_succ hi) with h1 | rfl
        · exact HN.out i h1 hi2
        · exact hh)
      have HJV : Hid (∀ wx, Below w.heap.size w wx → ∀ j, ∀ hj : j < h.length, ∃ a' m' c', (h[j]).v = .slice a' m' c') := Lib.hid (fun wx hx j hj => by
        obtain ⟨a', c', hv', _⟩ := ((HT.out wx hx).ops hj).form
        exact ⟨a', _, c', hv'⟩)
      generalize ht : h[k] = t at *
      have HTK := Lib.hid ht
      clear ht
      obtain ⟨s, b, c, v, l⟩ := t
      simp only at c0 c1 c2 c3 HOP HAT
      obtain ⟨ai, capi, rfl, hli⟩ := (HOP.out _ hb).form
      have CM := Lib.hid (maytxn_any s b c _ l wr (HOP.out _ hb))
      clear HN
      cases hm : mayT s b c l
      · have H := Lib.hid (HNK.out (rowR_a hm))
        rw [hm] at CM
        clear hm HNK HLK HNO
        go_wp2_with fail
        refine (CM.out).mono ?_
        rintro e w1 ⟨rfl, hb1⟩
        have hb2 := below_then hb hb1
        go_wp2_with fail
        go_ret
        exact ⟨ret_b H.out, hb2⟩
      rw [hm] at CM
      have HM := Lib.hid hm
      clear hm
      go_wp2_with fail
      refine (CM.out).mono ?_
      rintro e w1 ⟨rfl, hb1⟩
      have hb2 := below_then hb hb1
      clear CM hb hb1 c0 c1 c2 c3
      go_wp2_with fail
      go_loopw [4] (fun i wx => ∃ j : Nat, j ≤ k ∧ i = .int .i64 j ∧ ((h.take j).all (fun a => apartB a ⟨s, b, c, .slice ai l.length capi, l⟩) = true) ∧ Below w.heap.size w wx) (fun i _ => k - (intOf i).toNat)
      case atStart => exact ⟨0, by omega, rfl, rfl, hb2⟩
      case round =>
        obtain ⟨j, hj, rfl, hA, hb3⟩ := hrel
        have HA := Lib.hid hA
        clear hA hb2
        by_cases hltj : j < k
        · have hkj : (j : Int) < (k : Int) := by omega
          have hjl : j < h.length := by omega
          have hjl' : (j : Int) < (h.length : Int) := by omega
          obtain ⟨_, _, hao, c0, c1, c2, c3⟩ := HAJ.out _ hb3 j hjl
          cases hao
          have HS : Hid ((h.take (j + 1)).all (fun a => apartB a ⟨s, b, c, .slice ai l.length capi, l⟩) = ((h.take j).all (fun a => apartB a ⟨s, b, c, .slice ai l.length capi, l⟩) && apartB h[j] ⟨s, b, c, .slice ai l.length capi, l⟩)) := Lib.hid (by rw [List.take_succ_eq_append_getElem hjl, List.all_append]; simp)
          have HB := Lib.hid (fun hh => HNK.out (rowR_b hltj hk hh))
          obtain ⟨a1, m1, cap1, hv1⟩ := HJV.out _ hb3 j hjl
          rw [hv1] at c3
          generalize h[j] = u at *
          obtain ⟨us, ub, uc, uv, ul⟩ := u
          simp only at c0 c1 c2 hv1
          subst hv1
          have hb4 := hb3.alloc hb3.size (.cells #[.int .i64 us, .int .i64 ub, .int .i64 uc, .slice a1 m1 cap1] 106)
          have hb5 := hb4.alloc hb4.size (.cells #[.int .i64 s, .int .i64 b, .int .i64 c, .slice ai l.length capi] 106)
          obtain ⟨_, _, hao, e0, e1, e2, e3⟩ := HAT.out _ hb4
          cases hao
          have HAP : Hid (apartB ⟨us, ub, uc, .slice a1 m1 cap1, ul⟩ ⟨s, b, c, .slice ai l.length capi, l⟩ = ((ub != b && (ub != c && (uc != b && uc != c))) && !(us == s && decide (b < uc)))) := Lib.hid rfl
          generalize apartB ⟨us, ub, uc, .slice a1 m1 cap1, ul⟩ ⟨s, b, c, .slice ai l.length capi, l⟩ = q at *
          cases b1 : ub == b
          case true =>
            have H := Lib.hid (HB.out (by rw [HAP.out]; simp [bne, b1]))
            clear HLK HNO HNK HB HAP HS
            go_wp2_with fail
            go_ret
            exact ⟨ret_b H.out, hb5⟩
          cases b2 : ub == c
          case true =>
            have H := Lib.hid (HB.out (by rw [HAP.out]; simp [bne, b1, b2]))
            clear HLK HNO HNK HB HAP HS
            go_wp2_with fail
            go_ret
            exact ⟨ret_b H.out, hb5⟩
          cases b3 : uc == b
          case true =>
            have H := Lib.hid (HB.out (by rw [HAP.out]; simp [bne, b1, b2, b3]))
            clear HLK HNO HNK HB HAP HS
            go_wp2_with fail
            go_ret
            exact ⟨ret_b H.out, hb5⟩
          cases b4 : uc == c
          case true =>
            have H := Lib.hid (HB.out (by rw [HAP.out]; simp [bne, b1, b2, b3, b4]))
            clear HLK HNO HNK HB HAP HS
            go_wp2_with fail
            go_ret
            exact ⟨ret_b H.out, hb5⟩
          cases b5 : us == s
          case false =>
            have H : Hid ((h.take (j + 1)).all (fun a => apartB a ⟨s, b, c, .slice ai l.length capi, l⟩) = true) := Lib.hid (by rw [HS.out, HA.out, HAP.out]; simp [bne, b1, b2, b3, b4, b5])
            clear HB HAP HS
            go_wp2_with fail
            go_roundw
            case rel => exact ⟨j + 1, by omega, by go_num, H.out, hb5⟩
            case measure => simp [intOf]; omega
          by_cases d6 : b < uc
          · have H := Lib.hid (HB.out (by rw [HAP.out]; simp [bne, b1, b2, b3, b4, b5, d6]))
            clear HLK HNO HNK HB HAP HS
            go_wp2_with fail
            go_ret
            exact ⟨ret_b H.out, hb5⟩
          · have H : Hid ((h.take (j + 1)).all (fun a => apartB a ⟨s, b, c, .slice ai l.length capi, l⟩) = true) := Lib.hid (by rw [HS.out, HA.out, HAP.out]; simp [bne, b1, b2, b3, b4, b5, d6])
            clear HB HAP HS
            go_wp2_with fail
            go_roundw
            case rel => exact ⟨j + 1, by omega, by go_num, H.out, hb5⟩
            case measure => simp [intOf]; omega
        · have hjk : j = k := by omega
          subst hjk
          have HRO : Hid (rowR h j ⟨s, b, c, .slice ai l.length capi, l⟩ = l.all (opR h)) := Lib.hid (by unfold rowR; rw [HM.out, HA.out]; rfl)
          have HOO := Lib.hid (fun i hi hh => HNK.out (rowR_c (j := i) hi hh))
          clear HNK HM HA HJV HAJ
          go_wp2_with fail
          go_loopw [7] (fun i wx => ∃ m : Nat, m ≤ l.length ∧ i = .int .i64 m ∧ (l.take m).all (opR h) = true ∧ Below w.heap.size w wx) (fun i _ => l.length - (intOf i).toNat)
          case atStart => exact ⟨0, by omega, rfl, rfl, hb3⟩
          case round =>
            obtain ⟨m, hm, rfl, hA, hb4⟩ := hrel
            have HA := Lib.hid hA
            clear hA hb3
            obtain ⟨_, _, hao, c0, c1, c2, c3⟩ := HAT.out _ hb4
            cases hao
            clear c0 c1 c2
            by_cases hltm : m < l.length
            · have hkm : (m : Int) < (l.length : Int) := by omega
              obtain ⟨g2, o2, hao2, e0, e1, e2⟩ := (HOP.out _ hb4).at hltm
              cases hao2
              have HS : Hid ((l.take (m + 1)).all (opR h) = ((l.take m).all (opR h) && opR h l[m])) := Lib.hid (by rw [take_snoc l m hltm, List.all_append]; simp)
              have HB := Lib.hid (HOO.out m hltm)
              generalize l[m] = y at *
              obtain ⟨yw, yk, yv⟩ := y
              try simp only at e0 e1 e2
              have hb5 := hb4.alloc hb4.size (.cells #[.bool yw, .int .i64 yk, .int .i64 yv] 102)
              have HOR : Hid (opR h ⟨yw, yk, yv⟩ = if yw then tmH yv h == 1 else yv == 0 || !decide (wrI yk yv h < 0)) := Lib.hid rfl
              generalize opR h ⟨yw, yk, yv⟩ = q at *
              cases yw with
              | true =>
                simp only [if_true] at HOR
                have CT := Lib.hid (HTM.out yv _ hb5)
                generalize tmH yv h = n at *
                cases hn1 : n == 1
                · have H := Lib.hid (HB.out (by rw [HOR.out, hn1]))
                  have hn2 : ((n : Int) != 1) = true := by simp at hn1 ⊢; omega
                  clear HLK HNO HOO HB HOR HS hn1
                  go_wp2_with fail
                  refine (CT.out).mono ?_
                  rintro e w6 ⟨rfl, hb6⟩
                  have hb7 := below_then hb5 hb6
                  go_wp2_with fail
                  go_ret
                  exact ⟨ret_b H.out, hb7⟩
                · have H : Hid ((l.take (m + 1)).all (opR h) = true) := Lib.hid (by rw [HS.out, HA.out, HOR.out, hn1]; rfl)
                  obtain rfl : n = 1 := by simpa using hn1
                  change Hid (Calls _ _ _ _ fun e w' => e = .returned (.int .i64 1) ∧ _) at CT
                  clear HB HOR HS hn1
                  obtain ⟨x0, x1, x2⟩ := opBlock wr (.bool true) (.int .i64 yk) (.int .i64 yv) 102
                  go_wp2_with fail
                  refine (CT.out).mono ?_
                  rintro e w6 ⟨rfl, hb6⟩
                  have hb7 := below_then hb5 hb6
                  have z0 := (hb6.cell (p := ⟨wr.heap.size, 0, none⟩) (block_lt x0)).trans x0
                  have z1 := (hb6.cell (p := ⟨wr.heap.size, 1, none⟩) (block_lt x1)).trans x1
                  have z2 := (hb6.cell (p := ⟨wr.heap.size, 2, none⟩) (block_lt x2)).trans x2
                  clear x0 x1 x2
                  go_wp2_with fail
                  go_roundw
                  case rel => exact ⟨m + 1, by omega, by go_num, H.out, hb7⟩
                  case measure => simp [intOf]; omega
              | false =>
                simp only [Bool.false_eq_true, if_false] at HOR
                cases hz : yv == 0
                · have hz2 : (yv != 0) = true := by simp [bne, hz]
                  have CW := Lib.hid (HWR.out yk yv _ hb5)
                  generalize wrI yk yv h = n at *
                  by_cases hneg : n < 0
                  · have H := Lib.hid (HB.out (by rw [HOR.out, hz]; simp [hneg]))
                    clear HLK HNO HOO HB HOR HS
                    go_wp2_with fail
                    refine (CW.out).mono ?_
                    rintro e w6 ⟨rfl, hb6⟩
                    have hb7 := below_then hb5 hb6
                    go_wp2_with fail
                    go_ret
                    exact ⟨ret_b H.out, hb7⟩
                  · have H : Hid ((l.take (m + 1)).all (opR h) = true) := Lib.hid (by rw [HS.out, HA.out, HOR.out, hz]; simp [hneg])
                    clear HB HOR HS
                    go_wp2_with fail
                    refine (CW.out).mono ?_
                    rintro e w6 ⟨rfl, hb6⟩
                    have hb7 := below_then hb5 hb6
                    go_wp2_with fail
                    go_roundw
                    case rel => exact ⟨m + 1, by omega, by go_num, H.out, hb7⟩
                    case measure => simp [intOf]; omega
                · have hz2 : (yv != 0) = false := by simp [bne, hz]
                  have H : Hid ((l.take (m + 1)).all (opR h) = true) := Lib.hid (by rw [HS.out, HA.out, HOR.out, hz]; rfl)
                  clear HB HOR HS
                  go_wp2_with fail
                  go_roundw
                  case rel => exact ⟨m + 1, by omega, by go_num, H.out, hb5⟩
                  case measure => simp [intOf]; omega
            · have hm2 : m = l.length := by omega
              subst hm2
              have H := Lib.hid (HLK.out (by rw [HRO.out]; have := HA.out; rwa [List.take_length] at this))
              go_wp2_with fail
              go_roundw
              case rel => exact ⟨j + 1, by omega, by go_num, H.out, hb4⟩
              case measure => simp [intOf]; omega
    · have hkl : k = h.length := by omega
      subst hkl
      have H : Hid (true = mayRef h) := Lib.hid (mayRef_yes (fun k hk => HN.out k hk hk)).symm
      clear HNO HTM HWR
      go_wp2_with fail
      go_ret
      exact ⟨ret_b H.out, hb⟩
end Go.Proofs.YtflalehpdngklaaGreatDoor

namespace Go.Proofs.YtflalehpdngklaaGreatDoor
set_option maxRecDepth 100000
open Go.RowKit

/-- All writes, one behind the other. -/
def wrs (h : List TxnV) : List OpV := h.flatMap fun t => t.l.filter (·.wr)
theorem wvH_map (h : List TxnV) : wvH h = (wrs h).map (·.val) := by unfold wvH wrs wv; rw [List.map_flatMap]
theorem wrs_mem {h : List TxnV} {o : OpV} : o ∈ wrs h ↔ ∃ t ∈ h, o ∈ t.l ∧ o.wr = true := by unfold wrs; simp
theorem inj_val : ∀ {L : List OpV}, (L.map (·.val)).Nodup → ∀ {o p : OpV}, o ∈ L → p ∈ L → o.val = p.val → o = p
  | a :: L, hd, o, p, ho, hp, e => by
    rw [List.map_cons, List.nodup_cons] at hd
    rcases List.mem_cons.1 ho with rfl | ho
    · rcases List.mem_cons.1 hp with rfl | hp
      · rfl
      · exact absurd (List.mem_map.2 ⟨p, hp, e.symm⟩) hd.1
    · rcases List.mem_cons.1 hp with hpe | hp
      · exact absurd (List.mem_map.2 ⟨o, ho, by rw [e, hpe]⟩) hd.1
      · exact inj_val hd.2 ho hp e
theorem okW_inj {h : List TxnV} (hw : okW h = true) {o p : OpV} (ho : o ∈ wrs h) (hp : p ∈ wrs h) (e : o.val = p.val) : o = p := by
  unfold okW at hw
  rw [decide_eq_true_eq, wvH_map] at hw
  exact inj_val hw ho hp e
theorem okW_count {h : List TxnV} : okW h = true ↔ ∀ t ∈ h, ∀ o ∈ t.l, o.wr = true → tmH o.val h = 1 := by
  unfold okW tmH
  rw [decide_eq_true_eq]
  constructor
  · intro hd t ht o ho hw
    rw [List.Nodup.count hd, if_pos]
    rw [wvH_map]
    exact List.mem_map.2 ⟨o, wrs_mem.2 ⟨t, ht, ho, hw⟩, rfl⟩
  · intro hc
    rw [List.nodup_iff_count]
    intro x
    by_cases hx : x ∈ wvH h
    · have hx2 := hx
      rw [wvH_map] at hx2
      obtain ⟨o, ho, rfl⟩ := List.mem_map.1 hx2
      obtain ⟨t, ht, ho2, hw⟩ := wrs_mem.1 ho
      exact Nat.le_of_eq (hc t ht o ho2 hw)
    · rw [List.count_eq_zero_of_not_mem hx]; omega
/-- What is told of each value is a write that there is. -/
def Real (h : List TxnV) (F : Int → Option WV) : Prop := ∀ x u, F x = some u → ∃ o ∈ wrs h, o.val = x ∧ o.key = u.key
theorem real_put {h : List TxnV} {F : Int → Option WV} (hF : Real h F) {o : OpV} (ho : o ∈ wrs h) (i : Int) (b : Bool) : Real h (putF F o.val ⟨i, o.key, b⟩) := by
  intro x u hx
  unfold putF at hx
  split at hx
  · rename_i e
    cases hx
    exact ⟨o, ho, e.symm, rfl⟩
  · exact hF x u hx
theorem real_add {h : List TxnV} (i : Int) : ∀ (l : List OpV) (F : Int → Option WV), Real h F → (∀ o ∈ l, o.wr = true → o ∈ wrs h) → Real h (addF i F l)
  | [], F, hF, _ => hF
  | a :: l, F, hF, hl => by
    show Real h (addF i (addOne i F a) l)
    refine real_add i l _ ?_ (fun o ho => hl o (List.mem_cons_of_mem _ ho))
    unfold addOne
    split
    · rename_i hw
      exact real_put hF (hl a List.mem_cons_self hw) i false
    · exact hF
theorem real_fin {h : List TxnV} (i : Int) : ∀ (l : List OpV) (F : Int → Option WV), Real h F → (∀ o ∈ l, o ∈ wrs h) → Real h (finF i F l)
  | [], F, hF, _ => hF
  | a :: l, F, hF, hl => by
    show Real h (finF i (putF F a.val ⟨i, a.key, true⟩) l)
    exact real_fin i l _ (real_put hF (hl a List.mem_cons_self) i true) (fun o ho => hl o (List.mem_cons_of_mem _ ho))
theorem refWrites_mem {l : List OpV} {o : OpV} (h : o ∈ refWrites l) : o ∈ l ∧ o.wr = true := by
  unfold refWrites at h
  obtain ⟨k, _, hk⟩ := upTo_mem.1 h
  have := lastW_key (l := l) (x := k) hk
  exact ⟨this.2.2, this.2.1⟩
theorem real_wr (h : List TxnV) : ∀ k, k ≤ h.length → Real h (wrTo h k)
  | 0, _ => fun x u hx => by simp [wrTo] at hx
  | k + 1, hk => by
    have hlt : k < h.length := by omega
    rw [wrTo_succ, opsAt_eq hlt]
    have hm : ∀ o ∈ h[k].l, o.wr = true → o ∈ wrs h := fun o ho hw => wrs_mem.2 ⟨_, List.getElem_mem hlt, ho, hw⟩
    exact real_fin _ _ _ (real_add _ _ _ (real_wr h k (by omega)) hm) (fun o ho => hm o (refWrites_mem ho).1 (refWrites_mem ho).2)
theorem dom_add (i : Int) : ∀ (l : List OpV) (F : Int → Option WV) (x : Int), (addF i F l x).isSome = ((F x).isSome || decide (x ∈ wv l))
  | [], F, x => by simp [addF, wv]
  | a :: l, F, x => by
    show (addF i (addOne i F a) l x).isSome = _
    rw [dom_add i l]
    have hc : wv (a :: l) = (if a.wr then [a.val] else []) ++ wv l := by
      unfold wv
      cases hw : a.wr <;> simp [hw]
    rw [hc]
    unfold addOne putF
    cases hw : a.wr
    · simp
    · by_cases e : x = a.val <;> simp [e]
theorem dom_fin (i : Int) : ∀ (l : List OpV) (F : Int → Option WV) (x : Int), (finF i F l x).isSome = ((F x).isSome || decide (x ∈ l.map (·.val)))
  | [], F, x => by simp [finF]
  | a :: l, F, x => by
    show (finF i (putF F a.val ⟨i, a.key, true⟩) l x).isSome = _
    rw [dom_fin i l]
    unfold putF
    by_cases e : x = a.val <;> simp [e]
theorem dom_wr (h : List TxnV) : ∀ k, k ≤ h.length → ∀ x, (wrTo h k x).isSome = decide (x ∈ wvH (h.take k))
  | 0, _ => fun x => by simp [wrTo, wvH]
  | k + 1, hk => fun x => by
    have hlt : k < h.length := by omega
    rw [wrTo_succ, opsAt_eq hlt, dom_fin, dom_add, dom_wr h k (by omega), wvH_succ h k hlt]
    have : x ∈ (refWrites h[k].l).map (·.val) → x ∈ wv h[k].l := fun hx => by
      obtain ⟨o, ho, rfl⟩ := List.mem_map.1 hx
      exact wv_mem.2 ⟨o, (refWrites_mem ho).1, (refWrites_mem ho).2, rfl⟩
    rw [Bool.eq_iff_iff]
    simp only [Bool.or_eq_true, decide_eq_true_eq, List.mem_append]
    constructor
    · rintro ((h1 | h1) | h1)
      · exact .inl h1
      · exact .inr h1
      · exact .inr (this h1)
    · rintro (h1 | h1)
      · exact .inl (.inl h1)
      · exact .inl (.inr h1)
theorem rd_iff {h : List TxnV} (hw : okW h = true) (o : OpV) : rdOk (wrTo h h.length) o = (o.wr || o.val == 0 || !decide (wrI o.key o.val h < 0)) := by
  unfold rdOk
  cases hv : (o.wr || o.val == 0)
  · rw [Bool.false_or, Bool.false_or]
    have hd := dom_wr h h.length (Nat.le_refl _) o.val
    rw [List.take_length] at hd
    cases hF : wrTo h h.length o.val with
    | none =>
      rw [hF] at hd
      simp only
      symm
      rw [Bool.not_eq_false', decide_eq_true_eq, wrI_nonneg]
      intro t ht p hp
      unfold isWr
      cases hpw : p.wr
      · rfl
      · have hne : ¬ p.val = o.val := fun e => by
          have : o.val ∈ wvH h := by rw [wvH_map]; exact List.mem_map.2 ⟨p, wrs_mem.2 ⟨t, ht, hp, hpw⟩, e⟩
          simp [this] at hd
        simp [hne]
    | some u =>
      obtain ⟨p, hp, e1, e2⟩ := real_wr h h.length (Nat.le_refl _) _ _ hF
      simp only
      rw [Bool.eq_iff_iff, beq_iff_eq, Bool.not_eq_true', decide_eq_false_iff_not, wrI_nonneg]
      constructor
      · intro e hn
        obtain ⟨t, ht, hp2, hpw⟩ := wrs_mem.1 hp
        have := hn t ht p hp2
        unfold isWr at this
        simp [hpw, e1, e2, e] at this
      · intro hn
        have : ∃ q ∈ wrs h, q.key = o.key ∧ q.val = o.val := Classical.byContradiction fun hno => hn fun t ht q hq => by
          unfold isWr
          cases hqw : q.wr
          · rfl
          · cases hqk : q.key == o.key
            · rfl
            · cases hqv : q.val == o.val
              · rfl
              · exact absurd ⟨q, wrs_mem.2 ⟨t, ht, hq, hqw⟩, by simpa using hqk, by simpa using hqv⟩ hno
        obtain ⟨q, hq, e3, e4⟩ := this
        have := okW_inj hw hp hq (by rw [e1, e4])
        subst this
        rw [← e2, e3]
  · rfl
/-- Stamps that are unlike. -/
def Apart (a t : TxnV) : Prop := a.b ≠ t.b ∧ a.b ≠ t.c ∧ a.c ≠ t.b ∧ a.c ≠ t.c
theorem apartB_iff (a t : TxnV) : apartB a t = true ↔ Apart a t ∧ ¬ (a.s = t.s ∧ t.b < a.c) := by
  unfold apartB Apart
  simp only [Bool.and_eq_true, bne_iff_ne, Bool.not_eq_true', Bool.and_eq_false_iff, beq_eq_false_iff_ne, decide_eq_false_iff_not, Classical.not_and_iff_not_or_not, ne_eq]
theorem stL_mem {h : List TxnV} {x : Int} : x ∈ stL h ↔ ∃ t ∈ h, x = t.b ∨ x = t.c := by unfold stL; simp
theorem st_take {h : List TxnV} {k : Nat} (hd : (stL (h.take k)).Nodup) : ∀ i j, ∀ hj : j < k, ∀ hk : k ≤ h.length, ∀ hi : i < j, Apart (h[i]'(by omega)) (h[j]'(by omega)) := by
  intro i j hj hk hi
  have e : stL (h.take k) = stL (h.take (j + 1)) ++ stL ((h.take k).drop (j + 1)) := by
    unfold stL
    rw [← List.flatMap_append]
    congr 1
    rw [show h.take (j + 1) = (h.take k).take (j + 1) from by rw [List.take_take]; congr 1; omega]
    exact (List.take_append_drop _ _).symm
  rw [e] at hd
  have h1 := (List.nodup_append.1 hd).1
  rw [stL_succ h j (by omega)] at h1
  have h2 := (List.nodup_append.1 h1).2.2
  have mem : h[i]'(by omega) ∈ h.take j := by rw [List.mem_take_iff_getElem]; exact ⟨i, by omega, rfl⟩
  have mb : (h[i]'(by omega)).b ∈ stL (h.take j) := stL_mem.2 ⟨_, mem, .inl rfl⟩
  have mc : (h[i]'(by omega)).c ∈ stL (h.take j) := stL_mem.2 ⟨_, mem, .inr rfl⟩
  exact ⟨h2 _ mb _ (by simp), h2 _ mb _ (by simp), h2 _ mc _ (by simp), h2 _ mc _ (by simp)⟩
theorem st_nodup {h : List TxnV} (hbc : ∀ t ∈ h, t.b < t.c) (ha : ∀ i j, ∀ hj : j < h.length, ∀ hi : i < j, Apart (h[i]'(by omega)) h[j]) : ∀ k, k ≤ h.length → (stL (h.take k)).Nodup
  | 0, _ => by simp [stL]
  | k + 1, hk => by
    have hlt : k < h.length := by omega
    rw [stL_succ h k hlt, List.nodup_append]
    refine ⟨st_nodup hbc ha k (by omega), ?_, ?_⟩
    · have := hbc _ (List.getElem_mem hlt)
      simp; omega
    · intro x hx y hy
      obtain ⟨t, ht, hxt⟩ := stL_mem.1 hx
      rw [List.mem_take_iff_getElem] at ht
      obtain ⟨i, hi, rfl⟩ := ht
      have hA := ha i k hlt (by omega)
      unfold Apart at hA
      simp at hy
      rcases hxt with rfl | rfl <;> rcases hy with rfl | rfl
      · exact hA.1
      · exact hA.2.1
      · exact hA.2.2.1
      · exact hA.2.2.2
end Go.Proofs.YtflalehpdngklaaGreatDoor

namespace Go.Proofs.YtflalehpdngklaaGreatDoor
set_option maxRecDepth 100000
open Go.RowKit

theorem endF_find (h : List TxnV) (s : Int) : ∀ k, k ≤ h.length → match endF (h.take k) s with
    | none => ∀ j, ∀ hj : j < k, ∀ hk : k ≤ h.length, (h[j]'(by omega)).s ≠ s
    | some e => ∃ m, ∃ hm : m < k, ∃ hk : k ≤ h.length, (h[m]'(by omega)).s = s ∧ (h[m]'(by omega)).c = e ∧ ∀ j, ∀ hj : j < k, m < j → (h[j]'(by omega)).s ≠ s
  | 0, _ => by simp [endF]
  | k + 1, hk => by
    have hlt : k < h.length := by omega
    have ih := endF_find h s k (by omega)
    rw [endF_succ h k hlt]
    unfold putF
    by_cases e : s = h[k].s
    · rw [if_pos e]
      exact ⟨k, by omega, hk, e.symm, rfl, fun j hj hmj => by omega⟩
    · rw [if_neg e]
      cases hF : endF (h.take k) s with
      | none =>
        rw [hF] at ih
        intro j hj hk2
        rcases Nat.lt_or_eq_of_le (Nat.le_of_lt_succ hj) with h1 | rfl
        · exact ih j h1 (by omega)
        · exact fun e2 => e e2.symm
      | some c =>
        rw [hF] at ih
        obtain ⟨m, hm, hk2, h1, h2, h3⟩ := ih
        refine ⟨m, by omega, hk, h1, h2, fun j hj hmj => ?_⟩
        rcases Nat.lt_or_eq_of_le (Nat.le_of_lt_succ hj) with h4 | rfl
        · exact h3 j h4 hmj
        · exact fun e2 => e e2.symm
theorem ses_all {h : List TxnV} (hs : sesB h = true) (hbc : ∀ t ∈ h, t.b < t.c) : ∀ j, ∀ hj : j < h.length, ∀ i, ∀ hi : i < j, (h[i]'(by omega)).s = h[j].s → (h[i]'(by omega)).c < h[j].b := by
  intro j
  induction j using Nat.strongRecOn with
  | ind j ih =>
    intro hj i hi e
    have h1 := List.all_eq_true.1 hs j (List.mem_range.2 hj)
    rw [sesOk_at hj] at h1
    have h2 := endF_find h h[j].s j (by omega)
    cases hF : endF (h.take j) h[j].s with
    | none =>
      rw [hF] at h2
      exact absurd e (h2 i hi (by omega))
    | some c =>
      rw [hF] at h1 h2
      obtain ⟨m, hm, hk2, e1, e2, e3⟩ := h2
      simp only [decide_eq_true_eq] at h1
      rcases Nat.lt_trichotomy i m with h4 | rfl | h4
      · have h5 := ih m hm (by omega) i h4 (by rw [e1]; exact e)
        have h6 := hbc _ (List.getElem_mem (show m < h.length by omega))
        omega
      · omega
      · exact absurd e (e3 i hi h4)
theorem ses_mk {h : List TxnV} (ha : ∀ j, ∀ hj : j < h.length, ∀ i, ∀ hi : i < j, (h[i]'(by omega)).s = h[j].s → (h[i]'(by omega)).c < h[j].b) : sesB h = true := by
  refine sesB_all fun j hj => ?_
  rw [sesOk_at hj]
  have h2 := endF_find h h[j].s j (by omega)
  cases hF : endF (h.take j) h[j].s with
  | none => rfl
  | some c =>
    rw [hF] at h2
    obtain ⟨m, hm, hk2, e1, e2, e3⟩ := h2
    simp only [decide_eq_true_eq]
    rw [← e2]; exact ha j hj m hm e1
theorem mayT_bc {t : TxnV} (h : mayT t.s t.b t.c t.l = true) : t.b < t.c := by
  unfold mayT at h
  simp only [Bool.and_eq_true, decide_eq_true_eq] at h
  exact h.1.2.2.2.1
theorem right_ref (h : List TxnV) : rightB h = mayRef h := by
  rw [Bool.eq_iff_iff]
  constructor
  · intro hr
    unfold rightB at hr
    simp only [Bool.and_eq_true] at hr
    obtain ⟨hp, hv, hst, hse⟩ := hr
    unfold valuesB at hv
    simp only [Bool.and_eq_true] at hv
    obtain ⟨hw, hro⟩ := hv
    have hP : ∀ t ∈ h, mayT t.s t.b t.c t.l = true := List.all_eq_true.1 hp
    have hbc : ∀ t ∈ h, t.b < t.c := fun t ht => mayT_bc (hP t ht)
    refine mayRef_yes fun k hk => ?_
    unfold rowR
    rw [hP _ (List.getElem_mem hk), Bool.true_and, Bool.and_eq_true]
    constructor
    · rw [List.all_eq_true]
      intro a ha
      rw [List.mem_take_iff_getElem] at ha
      obtain ⟨i, hi, rfl⟩ := ha
      rw [apartB_iff]
      unfold stampsB at hst
      rw [decide_eq_true_eq, ← List.take_length (l := h)] at hst
      refine ⟨st_take hst i k hk (Nat.le_refl _) (by omega), fun hh => ?_⟩
      have := ses_all hse hbc k hk i (by omega) hh.1
      omega
    · rw [List.all_eq_true]
      intro o ho
      unfold opR
      cases how : o.wr
      · have h1 := List.all_eq_true.1 (List.all_eq_true.1 hro _ (List.getElem_mem hk)) o ho
        rw [rd_iff hw o, how] at h1
        simpa using h1
      · simp only [if_true, beq_iff_eq]
        exact okW_count.1 hw _ (List.getElem_mem hk) o ho how
  · intro hm
    have hrow : ∀ k, ∀ hk : k < h.length, rowR h k h[k] = true := fun k hk => by
      have := List.all_eq_true.1 hm k (List.mem_range.2 hk)
      rwa [List.getElem?_eq_getElem hk] at this
    have hP : ∀ t ∈ h, mayT t.s t.b t.c t.l = true := fun t ht => by
      obtain ⟨k, hk, rfl⟩ := List.getElem_of_mem ht
      have := hrow k hk
      unfold rowR at this
      simp only [Bool.and_eq_true] at this
      exact this.1
    have hbc : ∀ t ∈ h, t.b < t.c := fun t ht => mayT_bc (hP t ht)
    have hA : ∀ i j, ∀ hj : j < h.length, ∀ hi : i < j, Apart (h[i]'(by omega)) h[j] ∧ ¬ ((h[i]'(by omega)).s = h[j].s ∧ h[j].b < (h[i]'(by omega)).c) := fun i j hj hi => by
      have := hrow j hj
      unfold rowR at this
      simp only [Bool.and_eq_true] at this
      exact (apartB_iff _ _).1 (List.all_eq_true.1 this.2.1 _ (by rw [List.mem_take_iff_getElem]; exact ⟨i, by omega, rfl⟩))
    have hO : ∀ t ∈ h, ∀ o ∈ t.l, opR h o = true := fun t ht => by
      obtain ⟨k, hk, rfl⟩ := List.getElem_of_mem ht
      have := hrow k hk
      unfold rowR at this
      simp only [Bool.and_eq_true] at this
      exact List.all_eq_true.1 this.2.2
    have hw : okW h = true := okW_count.2 fun t ht o ho how => by
      have := hO t ht o ho
      unfold opR at this
      rw [how] at this
      simpa using this
    unfold rightB
    simp only [Bool.and_eq_true]
    refine ⟨List.all_eq_true.2 hP, ?_, ?_, ?_⟩
    · unfold valuesB
      rw [hw, Bool.true_and, List.all_eq_true]
      intro t ht
      unfold rowOk
      rw [List.all_eq_true]
      intro o ho
      rw [rd_iff hw o]
      have := hO t ht o ho
      unfold opR at this
      cases how : o.wr
      · rw [how] at this
        simpa using this
      · rfl
    · unfold stampsB
      rw [decide_eq_true_eq]
      have := st_nodup hbc (fun i j hj hi => (hA i j hj hi).1) h.length (Nat.le_refl _)
      rwa [List.take_length] at this
    · refine ses_mk fun j hj i hi e => ?_
      obtain ⟨h1, h2⟩ := hA i j hj hi
      have h3 : ¬ h[j].b < (h[i]'(by omega)).c := fun hh => h2 ⟨e, hh⟩
      have h4 := h1.2.2.1
      omega
def checkR (h : List TxnV) : Int := if 64 < h.length ∨ 1024 < opsN h then 3 else if mayRef h then 0 else 2
theorem check_ref (h : List TxnV) : checkI h = checkR h := by unfold checkI checkR; rw [right_ref]
end Go.Proofs.YtflalehpdngklaaGreatDoor

namespace Go.Proofs.YtflalehpdngklaaGreatDoor
set_option maxRecDepth 100000
open Go.RowKit

set_option maxHeartbeats 4000000 in
theorem rcheck_any (va : Value) (h : List TxnV) (w : World) (hT : Txns w va h) (hsh : Short h) :
    Calls Tryz.prog 26 #[va] w fun e w' => e = .returned (.int .i64 (checkR h)) ∧ Below w.heap.size w w' := by
  obtain ⟨ao, cap, rfl, hal⟩ := hT.form
  by_cases hbig : 64 < h.length
  · have hbig' : (64 : Int) < (h.length : Int) := by omega
    have H : Hid ((3 : Int) = checkR h) := Lib.hid (by unfold checkR; rw [if_pos (.inl hbig)])
    go_enter Tryz.func26, Tryz.ntmps26
    go_wp2_with fail
    go_ret
    exact ⟨ret_int H.out, Below.refl _ _⟩
  have hbf : decide ((64 : Int) < (h.length : Int)) = false := by simp; omega
  have hle := opsN_short h hsh
  have CO := Lib.hid (count_any _ h w hT (by omega))
  have HT := Lib.hid (fun wx (hx : Below w.heap.size w wx) => hT.below hx)
  clear hT hsh
  go_enter Tryz.func26, Tryz.ntmps26
  go_wp2_with fail
  refine (CO.out).mono ?_
  rintro e w1 ⟨rfl, hb1⟩
  clear CO
  by_cases hov : 1024 < opsN h
  · have hov' : (1024 : Int) < (opsN h : Int) := by omega
    have H : Hid ((3 : Int) = checkR h) := Lib.hid (by unfold checkR; rw [if_pos (.inr hov)])
    go_wp2_with fail
    go_ret
    exact ⟨ret_int H.out, hb1⟩
  have hov' : decide ((1024 : Int) < (opsN h : Int)) = false := by simp; omega
  have HCK : Hid (checkR h = if mayRef h then 0 else 2) := Lib.hid (by unfold checkR; rw [if_neg (by omega)])
  have CM := Lib.hid (rmay_any _ h w1 (HT.out _ hb1) (by omega))
  generalize mayRef h = q at *
  go_wp2_with fail
  refine (CM.out).mono ?_
  rintro e w2 ⟨rfl, hb2⟩
  have hb3 := below_then hb1 hb2
  clear CM
  cases q
  · have H : Hid ((2 : Int) = checkR h) := Lib.hid (by rw [HCK.out]; rfl)
    go_wp2_with fail
    go_ret
    exact ⟨ret_int H.out, hb3⟩
  · have H : Hid ((0 : Int) = checkR h) := Lib.hid (by rw [HCK.out]; rfl)
    go_wp2_with fail
    go_ret
    exact ⟨ret_int H.out, hb3⟩
theorem Row.take {w : World} {ao : Option Addr} {n size cap : Nat} {cs : List Value} (h : Row w (.slice ao n cap) n size cs) {k : Nat} (hk : k ≤ n) : Row w (.slice ao k cap) k size (cs.take (k * size)) := by
  obtain ⟨hl, ao', cap', he, hm, hno, hc⟩ := h
  obtain ⟨rfl, rfl⟩ : ao = ao' ∧ cap = cap' := by simpa using he
  have hks : k * size ≤ n * size := Nat.mul_le_mul_right _ hk
  refine ⟨by rw [List.length_take]; omega, ao, cap, rfl, ⟨by omega, hm.2⟩, fun h0 => ⟨by have := hno h0; omega, (hno h0).2⟩, fun h0 => ?_⟩
  obtain ⟨b, off, hb, hcell⟩ := hc (by omega)
  exact ⟨b, off, hb, fun i hi => by rw [hcell i (by omega), List.getElem?_take, if_pos hi]⟩
theorem txV_take : ∀ (h : List TxnV) (k : Nat), txV (h.take k) = (txV h).take (k * 4)
  | [], _ => by simp [txV]
  | t :: h, 0 => by simp [txV]
  | t :: h, k + 1 => by
    have := txV_take h k
    have e : (k + 1) * 4 = k * 4 + 1 + 1 + 1 + 1 := by omega
    unfold txV at this ⊢
    rw [e, List.take_succ_cons, List.flatMap_cons, List.flatMap_cons, this]
    simp
theorem Txns.take {w : World} {ao : Option Addr} {n cap : Nat} {h : List TxnV} (hT : Txns w (.slice ao n cap) h) {k : Nat} (hk : k ≤ h.length) : Txns w (.slice ao k cap) (h.take k) := by
  obtain ⟨hR, hO⟩ := hT
  have hn : n = h.length := by obtain ⟨_, ao', cap', he, _⟩ := hR; simp at he; exact he.2.1
  subst hn
  have hl : (h.take k).length = k := by rw [List.length_take]; omega
  refine ⟨?_, fun t ht => hO t (List.mem_of_mem_take ht)⟩
  rw [hl, txV_take]; exact hR.take hk
end Go.Proofs.YtflalehpdngklaaGreatDoor

namespace Go.Proofs.YtflalehpdngklaaGreatDoor
set_option maxRecDepth 100000
open Go.RowKit

theorem big_no {h : List TxnV} (hb : bigI h = 0) : h.length ≤ 100 ∧ opsN h ≤ 1200 := by
  unfold bigI at hb; split at hb
  · cases hb
  · omega
end Go.Proofs.YtflalehpdngklaaGreatDoor

namespace Go.Proofs.YtflalehpdngklaaGreatDoor
set_option maxRecDepth 100000
open Go.RowKit

/-- What a line makes of transactions. -/
def stepL (H : List (Int × Int × Int × List OpV)) (s : ByteArray) : Option (List (Int × Int × Int × List OpV)) :=
  if (begR s).1 then some (H ++ [((begR s).2.1, (begR s).2.2.1, (begR s).2.2.2, [])])
  else match H.getLast? with
    | none => none
    | some t => if (parseR s).1 then some (H.dropLast ++ [(t.1, t.2.1, t.2.2.1, t.2.2.2 ++ [(parseR s).2])]) else none
def runL (L : List ByteArray) : Option (List (Int × Int × Int × List OpV)) := L.foldl (fun o s => o.bind fun H => stepL H s) (some [])
theorem runL_snoc (L : List ByteArray) (s : ByteArray) : runL (L ++ [s]) = (runL L).bind fun H => stepL H s := by unfold runL; rw [List.foldl_append]; rfl
theorem runL_at {L : List ByteArray} {k : Nat} (hk : k < L.length) {H : List (Int × Int × Int × List OpV)} (h : runL (L.take k) = some H) : runL (L.take (k + 1)) = stepL H L[k] := by
  rw [List.take_succ_eq_append_getElem hk, runL_snoc, h]; rfl
theorem stepL_beg {H : List (Int × Int × Int × List OpV)} {s : ByteArray} {a b c : Int} (h : begR s = (true, a, b, c)) : stepL H s = some (H ++ [(a, b, c, [])]) := by unfold stepL; rw [h]; rfl
theorem stepL_nil {s : ByteArray} {r : Int × Int × Int} (h : begR s = (false, r)) : stepL [] s = none := by unfold stepL; rw [h]; rfl
theorem stepL_op {H : List (Int × Int × Int × List OpV)} {s : ByteArray} {r : Int × Int × Int} (h : begR s = (false, r)) {o : OpV} (ho : parseR s = (true, o)) (t : Int × Int × Int × List OpV) : stepL (H ++ [t]) s = some (H ++ [(t.1, t.2.1, t.2.2.1, t.2.2.2 ++ [o])]) := by
  unfold stepL; rw [h, ho]; simp
theorem stepL_no {H : List (Int × Int × Int × List OpV)} {s : ByteArray} {r : Int × Int × Int} (h : begR s = (false, r)) {o : OpV} (ho : parseR s = (false, o)) : stepL H s = none := by
  unfold stepL; rw [h, ho]
  simp only [Bool.false_eq_true, if_false]
  cases H.getLast? <;> rfl
/-- A row of transactions that a call made: the row, and each one's operations, apart. -/
def Made (w : World) (base : Nat) (v : Value) (c : List TxnV) : Prop := OwnT w base v c ∧ (∀ t ∈ c, Own w base t.v t.l) ∧ c.Pairwise ApartT
theorem Made.below {w w' : World} {base : Nat} {v : Value} {c : List TxnV} (h : Made w base v c) (hb : Below w.heap.size w w') : Made w' base v c :=
  ⟨h.1.below hb, fun t ht => (h.2.1 t ht).below hb, h.2.2⟩
theorem Made.nil (w : World) (base : Nat) : Made w base (.slice none 0 0) [] := ⟨⟨rfl, .inl ⟨rfl, rfl⟩⟩, by simp, List.Pairwise.nil⟩
theorem Made.txns {w : World} {base : Nat} {v : Value} {c : List TxnV} (h : Made w base v c) : Txns w v c := ⟨h.1.row, fun t ht => (h.2.1 t ht).ops⟩
/-- Rows of unlike elements lie apart. -/
theorem own_apart {w : World} {base base' : Nat} {v u : Value} {c : List TxnV} {l : List OpV} (h : OwnT w base v c) (k : Own w base' u l) : u.ownBlock = none ∨ u.ownBlock ≠ v.ownBlock := by
  rcases k.2 with ⟨rfl, _⟩ | ⟨g, cap, cur, rfl, _, hg, _⟩
  · exact .inl rfl
  · refine .inr (fun e => ?_)
    rcases h.2 with ⟨rfl, _⟩ | ⟨g', cap', cur', rfl, _, hg', _⟩
    · cases e
    · have : g = g' := by simpa [Value.ownBlock] using e
      subst this
      rw [hg] at hg'
      have e2 := (Obj.cells.inj (Option.some.inj hg')).2.1
      exact absurd e2 (by decide)
theorem Made.beg {w w' : World} {base : Nat} {v v' : Value} {c : List TxnV} (h : Made w base v c) {a b d : Int} (hO : OwnT w' base v' (c ++ [⟨a, b, d, .slice none 0 0, []⟩])) (hg : w.grownBy w' v.ownBlock) : Made w' base v' (c ++ [⟨a, b, d, .slice none 0 0, []⟩]) := by
  refine ⟨hO, fun t ht => ?_, ?_⟩
  · rcases List.mem_append.1 ht with ht | ht
    · exact World.ownsRow.kept (h.2.1 t ht) hg (own_apart h.1 (h.2.1 t ht))
    · obtain rfl := List.mem_singleton.1 ht
      exact Own.nil _ _
  · rw [List.pairwise_append]
    refine ⟨h.2.2, List.pairwise_singleton _ _, fun t _ u hu => ?_⟩
    obtain rfl := List.mem_singleton.1 hu
    intro b1 _ h2
    cases h2
theorem Made.op {w w1 : World} {base g cap : Nat} {D : List TxnV} {t : TxnV} (h : Made w base (.slice (some ⟨g, 0, none⟩) (D.length + 1) cap) (D ++ [t])) {v' : Value} {l' : List OpV} (hg : w.grownBy w1 t.v.ownBlock) (hO : Own w1 base v' l') (hl : ∀ b, v'.ownBlock = some b → t.v.ownBlock = some b ∨ w.heap.size ≤ b) :
    Made (w1.setCell ⟨g, D.length * 4 + 3, none⟩ v') base (.slice (some ⟨g, 0, none⟩) (D.length + 1) cap) (D ++ [⟨t.s, t.b, t.c, v', l'⟩]) := by
  obtain ⟨h1, h2, h3⟩ := h
  have hle : (D ++ [t]).length = D.length + 1 := by simp
  have hT := h2 t (by simp)
  have hgt : some g ≠ t.v.ownBlock := fun e => by
    rcases own_apart h1 hT with q | q
    · rw [q] at e; cases e
    · exact q (by rw [← e]; rfl)
  have h1' : OwnT w1 base (.slice (some ⟨g, 0, none⟩) (D.length + 1) cap) (D ++ [t]) := World.ownsRow.kept h1 hg (.inr hgt)
  have hg2 := grown_setC w1 ⟨g, D.length * 4 + 3, none⟩ v'
  have hset : ∀ (u : Value) (m : List OpV), Own w1 base u m → Own (w1.setCell ⟨g, D.length * 4 + 3, none⟩ v') base u m := fun u m hu => World.ownsRow.kept hu hg2 (by
    rcases own_apart h1' hu with q | q
    · exact .inl q
    · exact .inr q)
  rw [List.pairwise_append] at h3
  refine ⟨?_, fun u hu => ?_, ?_⟩
  · have := OwnT.setCell (h' := D ++ [⟨t.s, t.b, t.c, v', l'⟩]) (j := D.length * 4 + 3) (u := v') (by rw [← hle] at h1'; exact h1') (by simp) (by
      have := txV_mid D t [] v' l'
      simpa using this)
    simpa using this
  · rcases List.mem_append.1 hu with hu | hu
    · refine hset _ _ (World.ownsRow.kept (h2 u (by simp [hu])) hg ?_)
      cases hb : u.v.ownBlock with
      | none => exact .inl rfl
      | some b => exact .inr (fun e => h3.2.2 u hu t (by simp) b hb e.symm)
    · obtain rfl := List.mem_singleton.1 hu
      exact hset _ _ hO
  · rw [List.pairwise_append]
    refine ⟨h3.1, List.pairwise_singleton _ _, fun u hu x hx => ?_⟩
    obtain rfl := List.mem_singleton.1 hx
    intro b hb hb2
    rcases hl b hb2 with q | q
    · exact h3.2.2 u hu t (by simp) b hb q
    · have := (World.ownsRow.lt (h2 u (by simp [hu])) b hb).2
      omega
theorem Made.same {w : World} {base g cap : Nat} {c : List TxnV} (h : Made w base (.slice (some ⟨g, 0, none⟩) c.length cap) c) {j : Nat} {u : Value} (hj : (txV c)[j]? = some u) : Made (w.setCell ⟨g, j, none⟩ u) base (.slice (some ⟨g, 0, none⟩) c.length cap) c := by
  have hg2 := grown_setC w ⟨g, j, none⟩ u
  have hlt : j < (txV c).length := (List.getElem?_eq_some_iff.1 hj).1
  have hset : txV c = (txV c).set j u := by
    apply List.ext_getElem?
    intro i
    rw [List.getElem?_set]
    split
    · rename_i e; subst e; first | exact hj | (rw [if_pos hlt]; exact hj)
    · rfl
  refine ⟨OwnT.setCell h.1 rfl hset, fun t ht => World.ownsRow.kept (h.2.1 t ht) hg2 ?_, h.2.2⟩
  rcases own_apart h.1 (h.2.1 t ht) with q | q
  · exact .inl q
  · exact .inr q
theorem Made.put {w : World} {base g cap : Nat} {D : List TxnV} {t : TxnV} (h : Made w base (.slice (some ⟨g, 0, none⟩) (D.length + 1) cap) (D ++ [t])) {v' : Value} {l' : List OpV} (hO : Own w base v' l') (hap : ∀ u ∈ D, ∀ b, u.v.ownBlock = some b → v'.ownBlock ≠ some b) :
    Made (w.setCell ⟨g, D.length * 4 + 3, none⟩ v') base (.slice (some ⟨g, 0, none⟩) (D.length + 1) cap) (D ++ [⟨t.s, t.b, t.c, v', l'⟩]) := by
  obtain ⟨h1, h2, h3⟩ := h
  have hle : (D ++ [t]).length = D.length + 1 := by simp
  have hg2 := grown_setC w ⟨g, D.length * 4 + 3, none⟩ v'
  have hset : ∀ (u : Value) (m : List OpV), Own w base u m → Own (w.setCell ⟨g, D.length * 4 + 3, none⟩ v') base u m := fun u m hu => World.ownsRow.kept hu hg2 (by
    rcases own_apart h1 hu with q | q
    · exact .inl q
    · exact .inr q)
  rw [List.pairwise_append] at h3
  refine ⟨?_, fun u hu => ?_, ?_⟩
  · have := OwnT.setCell (h' := D ++ [⟨t.s, t.b, t.c, v', l'⟩]) (j := D.length * 4 + 3) (u := v') (show OwnT w base (.slice (some ⟨g, 0, none⟩) (D ++ [t]).length cap) (D ++ [t]) by rw [hle]; exact h1) (by simp) (by
      have := txV_mid D t [] v' l'
      simpa using this)
    simpa using this
  · rcases List.mem_append.1 hu with hu | hu
    · exact hset _ _ (h2 u (by simp [hu]))
    · obtain rfl := List.mem_singleton.1 hu
      exact hset _ _ hO
  · rw [List.pairwise_append]
    refine ⟨h3.1, List.pairwise_singleton _ _, fun u hu x hx => ?_⟩
    obtain rfl := List.mem_singleton.1 hx
    exact hap u hu
end Go.Proofs.YtflalehpdngklaaGreatDoor

namespace Go.Proofs.YtflalehpdngklaaGreatDoor
set_option maxRecDepth 100000
open Go.RowKit

/-- What Lines answers. -/
def LinesRes (L : List ByteArray) (base : Nat) (w : World) (e : Ending) : Prop :=
  (∃ v c, e = .returned (.tuple #[v, .int .i64 0]) ∧ runL L = some (c.map txE) ∧ Made w base v c ∧ c.length ≤ L.length ∧ ∀ t ∈ c, t.l.length ≤ L.length) ∨
  (∃ k, k < L.length ∧ e = .returned (.tuple #[.slice none 0 0, .int .i64 ((k : Int) + 1)]) ∧ (∃ H, runL (L.take k) = some H) ∧ runL (L.take (k + 1)) = none)
theorem txE_app (c : List TxnV) (t : TxnV) : (c ++ [t]).map txE = c.map txE ++ [txE t] := by simp
theorem lit4 (w : World) (x y z u : Value) (t : TypeId) : ∀ j v, [x, y, z, u][j]? = some v → (w.alloc (.cells #[x, y, z, u] t)).cell? ((⟨w.heap.size, 0, none⟩ : Addr).add j) = some v := fun j v hv => by
  obtain ⟨c0, c1, c2, c3⟩ := txnBlock w x y z u t
  match j, hv with
  | 0, hv => simp at hv; subst hv; exact c0
  | 1, hv => simp at hv; subst hv; exact c1
  | 2, hv => simp at hv; subst hv; exact c2
  | 3, hv => simp at hv; subst hv; exact c3
  | j + 4, hv => simp at hv
set_option maxHeartbeats 8000000 in
theorem slines_any (va : Value) (L : List ByteArray) (w : World) (he : Env w) (ha : Strs w va L) (hs : ∀ s ∈ L, s.size ≤ 100000) (hL : L.length ≤ 2000000) :
    Calls Tryz.prog 122 #[va] w fun e w' => LinesRes L w.heap.size w' e ∧ Below w.heap.size w w' := by
  obtain ⟨i0, hi, hz0, hz1, hz2⟩ := info_parts infoTxn
  obtain ⟨i1, hj, hy0, hy1, hy2⟩ := info_parts infoOp
  obtain ⟨ao, cap, rfl, ⟨hal, hcl⟩, _⟩ := ha.form
  have HE := Lib.hid (fun wx (hx : Below w.heap.size w wx) => he.below hx)
  have HS := Lib.hid hs
  clear he hs
  go_enter Tryz.func122, Tryz.ntmps122
  go_wp2_with fail
  go_loopw [4, 14] (fun hv i wr => ∃ (k : Nat) (c : List TxnV), k ≤ L.length ∧ i = .int .i64 k ∧ runL (L.take k) = some (c.map txE) ∧ Made wr w.heap.size hv c ∧ c.length ≤ k ∧ (∀ t ∈ c, t.l.length ≤ k) ∧ Below w.heap.size w wr) (fun _ i _ => L.length - (intOf i).toNat)
  case atStart => exact ⟨0, [], by omega, rfl, rfl, Made.nil _ _, Nat.le_refl _, by simp, Below.refl _ _⟩
  case round =>
    obtain ⟨k, c, hk, rfl, hrun, hM, hc1, hc2, hb⟩ := hrel
    by_cases hlt : k < L.length
    · have hki : (k : Int) < (L.length : Int) := by omega
      obtain ⟨g, o, hao, c0⟩ := (ha.below hb).at hlt
      cases hao
      have HA := Lib.hid (runL_at hlt hrun)
      have hsl := HS.out _ (List.getElem_mem hlt)
      have CB := Lib.hid (begun_any L[k] wr (HE.out _ hb) hsl)
      have CP := Lib.hid (fun wx (hx : Below w.heap.size w wx) => parse_any L[k] wx (HE.out _ hx) hsl)
      have HNO : Hid (∀ r, begR L[k] = (false, r) → c = [] → runL (L.take (k + 1)) = none) := Lib.hid (fun r h1 h2 => by rw [HA.out, h2]; exact stepL_nil h1)
      have HNO2 : Hid (∀ r o, begR L[k] = (false, r) → parseR L[k] = (false, o) → runL (L.take (k + 1)) = none) := Lib.hid (fun r o h1 h2 => by rw [HA.out]; exact stepL_no h1 h2)
      have HBG : Hid (∀ a b d, begR L[k] = (true, a, b, d) → runL (L.take (k + 1)) = some ((c ++ [TxnV.mk a b d (.slice none 0 0) []]).map txE)) := Lib.hid (fun a b d h1 => by rw [HA.out, stepL_beg h1, txE_app]; rfl)
      have HOP : Hid (∀ r o D t v', begR L[k] = (false, r) → parseR L[k] = (true, o) → c = D ++ [t] → runL (L.take (k + 1)) = some ((D ++ [TxnV.mk t.s t.b t.c v' (t.l ++ [o])]).map txE)) := Lib.hid (fun r o D t v' h1 h2 h3 => by rw [HA.out, h3, txE_app, stepL_op h1 h2, txE_app]; rfl)
      have HRUN := Lib.hid hrun
      generalize L[k] = s at *
      generalize begR s = R at *
      generalize parseR s = Q at *
      obtain ⟨rb, ra, rc, rd⟩ := R
      obtain ⟨qb, qo⟩ := Q
      obtain ⟨qw, qk, qv⟩ := qo
      unfold begV at CB
      simp only at CB CP
      clear HA hrun hsl
      go_wp2_with fail
      refine (CB.out).mono ?_
      rintro e w1 ⟨rfl, hb1⟩
      have hM1 := hM.below hb1
      have hb1' := hb.trans (hb1.mono hb.size)
      cases rb
      · have hM2 := hM1.below (box_below w1 (.cells #[.int .i64 ra, .int .i64 rc, .int .i64 rd, .slice none 0 0] 106))
        have hb2 := hb1'.alloc hb1'.size (.cells #[.int .i64 ra, .int .i64 rc, .int .i64 rd, .slice none 0 0] 106)
        have CP2 := Lib.hid (CP.out _ hb2)
        clear HBG CP CB c0 hM1
        go_wp2_with fail
        refine (CP2.out).mono ?_
        rintro e w3 ⟨rfl, hb3⟩
        have hM3 := hM2.below hb3
        have hb3' := hb2.trans (hb3.mono hb2.size)
        have hb4 := hb3'.alloc hb3'.size (.cells #[.bool qw, .int .i64 qk, .int .i64 qv] 102)
        have hM4 := hM3.below (box_below w3 (.cells #[.bool qw, .int .i64 qk, .int .i64 qv] 102))
        clear hM hM2 hM3 CP2 hb2 hb3 hb1 hb1'
        cases qb
        · have HR : Hid (LinesRes L w.heap.size (w3.alloc (.cells #[.bool qw, .int .i64 qk, .int .i64 qv] 102)) (.returned (.tuple #[.slice none 0 0, .int .i64 ((k : Int) + 1)]))) := Lib.hid (.inr ⟨k, hlt, rfl, ⟨_, HRUN.out⟩, HNO2.out _ _ rfl rfl⟩)
          have hw1 : wrap64 ((k : Int) + 1) = (k : Int) + 1 := wrap64_small (by omega) (by omega)
          clear hM4 HOP HNO HNO2 hc2
          go_wp2_with fail
          go_ret2
          exact ⟨HR.out, hb4⟩
        · obtain ⟨av, cv, rfl⟩ : ∃ a cp, u4 = .slice a c.length cp := by
            rcases hM4.1.split with ⟨rfl, rfl⟩ | ⟨g, cp, rfl, _⟩
            · exact ⟨none, 0, rfl⟩
            · exact ⟨_, _, rfl⟩
          by_cases hcn : c = []
          · have HR : Hid (LinesRes L w.heap.size (w3.alloc (.cells #[.bool qw, .int .i64 qk, .int .i64 qv] 102)) (.returned (.tuple #[.slice none 0 0, .int .i64 ((k : Int) + 1)]))) := Lib.hid (.inr ⟨k, hlt, rfl, ⟨_, HRUN.out⟩, HNO.out _ rfl hcn⟩)
            have hw1 : wrap64 ((k : Int) + 1) = (k : Int) + 1 := wrap64_small (by omega) (by omega)
            subst hcn
            have hl0 : (([] : List TxnV).length : Int) = 0 := rfl
            clear hM4 HOP HNO HNO2 hc2
            go_wp2_with fail
            go_ret2
            exact ⟨HR.out, hb4⟩
          · obtain ⟨D, t, rfl⟩ : ∃ D t, c = D ++ [t] := ⟨c.dropLast, c.getLast hcn, (List.dropLast_concat_getLast hcn).symm⟩
            have hlD : (D ++ [t]).length = D.length + 1 := by simp
            have HN := Lib.hid (fun v' => HOP.out _ _ D t v' rfl rfl rfl)
            have HTL := Lib.hid (hc2 t (by simp))
            rw [hlD] at hM4 hc1 ⊢
            obtain ⟨g2, rfl⟩ : ∃ g2, av = some ⟨g2, 0, none⟩ := by
              rcases hM4.1.split with ⟨e, _⟩ | ⟨g, cp, e, _⟩
              · have := (Value.slice.inj e).2.1; omega
              · exact ⟨g, (Value.slice.inj e).1⟩
            have hO4 : OwnT (w3.alloc (.cells #[.bool qw, .int .i64 qk, .int .i64 qv] 102)) w.heap.size (.slice (some ⟨g2, 0, none⟩) (D ++ [t]).length cv) (D ++ [t]) := by rw [hlD]; exact hM4.1
            have a3 := (hO4.at (j := D.length * 4 + 3) (by omega)).1
            have f3 := (hO4.at (j := D.length * 4 + 3) (by omega)).2
            rw [txV_app, ← txV_len D, List.getElem?_append_right (by omega), Nat.add_sub_cancel_left, txV_len D] at a3
            change _ = some t.v at a3
            have hT := hM4.2.1 t (by simp)
            have HL : Hid (∀ v', ∀ u ∈ (D ++ [TxnV.mk t.s t.b t.c v' (t.l ++ [⟨qw, qk, qv⟩])]), u.l.length ≤ k + 1) := Lib.hid (fun v' u hu => by
              rcases List.mem_append.1 hu with hu | hu
              · exact Nat.le_succ_of_le (hc2 u (by simp [hu]))
              · obtain rfl := List.mem_singleton.1 hu
                have := hc2 t (by simp)
                simp; omega)
            have HLL : Hid (∀ v', (D ++ [TxnV.mk t.s t.b t.c v' (t.l ++ [⟨qw, qk, qv⟩])]).length ≤ k + 1) := Lib.hid (fun v' => by simp; omega)
            have HM4 := Lib.hid hM4
            clear hM4 hc2 HOP HNO HNO2 hO4 hcn HRUN
            obtain ⟨ts, tb, tc, tv, tl⟩ := t
            dsimp only at a3 hT HTL HN HL HLL
            obtain ⟨at', ct, rfl, _⟩ := hT.ops.form
            obtain ⟨b0, b1, b2⟩ := opBlock w3 (.bool qw) (.int .i64 qk) (.int .i64 qv) 102
            go_wp2_with fail
            generalize w3.alloc (.cells #[.bool qw, .int .i64 qk, .int .i64 qv] 102) = w4 at *
            generalize w3.heap.size = p at *
            have n1 : w4.heap.size ≠ g2 := Nat.ne_of_gt (block_lt a3)
            have n2 : w4.heap.size ≠ p := Nat.ne_of_gt (block_lt b0)
            have hgl : Hid (g2 < w4.heap.size) := Lib.hid (block_lt a3)
            have hsX : (w4.alloc (.cells #[.bool qw, .int .i64 qk, .int .i64 qv] 102)).heap.size = w4.heap.size + 1 := by simp
            have hbX := box_below w4 (.cells #[.bool qw, .int .i64 qk, .int .i64 qv] 102)
            have HMX := Lib.hid (HM4.out.below hbX)
            have hTX := Lib.hid (hT.below hbX)
            have hgr : Hid (some g2 ≠ (Value.slice at' tl.length ct).ownBlock) := Lib.hid (fun e => by
              rcases own_apart HM4.out.1 hT with q | q
              · rw [q] at e; cases e
              · exact q (by rw [← e]; rfl))
            have hA := Lib.hid ((hbX.cell (p := ⟨g2, D.length * 4 + 3, none⟩) hgl.out).trans a3)
            have hF := Lib.hid ((hbX.frozen (p := ⟨g2, D.length * 4 + 3, none⟩) hgl.out).trans f3)
            have hgX : Hid (g2 < (w4.alloc (.cells #[.bool qw, .int .i64 qk, .int .i64 qv] 102)).heap.size) := Lib.hid (by rw [hsX]; have := hgl.out; omega)
            have hb5 := Lib.hid (hb4.alloc hb4.size (.cells #[.bool qw, .int .i64 qk, .int .i64 qv] 102))
            have hbs : Hid (w.heap.size ≤ (w4.alloc (.cells #[.bool qw, .int .i64 qk, .int .i64 qv] 102)).heap.size) := Lib.hid hb5.out.size
            have u2 := Lib.hid (opV_one [⟨qw, qk, qv⟩])
            have m1 : Hid (tl.length + 1 ≤ maxLen) := Lib.hid (by have := HTL.out; unfold maxLen; omega)
            have m2 : Hid ((tl.length + 1) * 24 ≤ 140737488355328) := Lib.hid (by have := HTL.out; omega)
            have HS4 := Lib.hid hsX
            have HRG : Hid (∀ j, (Value.slice at' tl.length ct).ownBlock = some j → w.heap.size ≤ j) := Lib.hid (fun j hj => (World.ownsRow.lt hT j hj).1)
            have hA1 := hA.out
            have hA2 : (w4.alloc (.cells #[.bool qw, .int .i64 qk, .int .i64 qv] 102)).drew.cell? ⟨g2, D.length * 4 + 3, none⟩ = some (.slice at' tl.length ct) := hA.out
            have HFIN : Hid (∀ g9 c9 w9, World.ownsRow w9 w.heap.size 102 3 (.slice (some ⟨g9, 0, none⟩) (tl.length + 1) c9) (tl.length + 1) (opV tl ++ [.bool qw, .int .i64 qk, .int .i64 qv]) → (w4.alloc (.cells #[.bool qw, .int .i64 qk, .int .i64 qv] 102)).drew.grownBy w9 (Value.slice at' tl.length ct).ownBlock → ((Value.slice at' tl.length ct).ownBlock = some g9 ∨ g9 = w4.heap.size + 1) →
                Made (w9.setCell ⟨g2, D.length * 4 + 3, none⟩ (.slice (some ⟨g9, 0, none⟩) (tl.length + 1) c9)) w.heap.size (.slice (some ⟨g2, 0, none⟩) (D.length + 1) cv) (D ++ [TxnV.mk ts tb tc (.slice (some ⟨g9, 0, none⟩) (tl.length + 1) c9) (tl ++ [⟨qw, qk, qv⟩])]) ∧ Below w.heap.size w (w9.setCell ⟨g2, D.length * 4 + 3, none⟩ (.slice (some ⟨g9, 0, none⟩) (tl.length + 1) c9))) := Lib.hid (fun g9 c9 w9 h1 h2 h3 => by
              have hM := HMX.out.below (Below.refl _ _).drew
              have hO9 : Own w9 w.heap.size (.slice (some ⟨g9, 0, none⟩) (tl.length + 1) c9) (tl ++ [⟨qw, qk, qv⟩]) := by
                unfold Own
                rw [List.length_append, opV_app]
                exact h1
              have hM9 := Made.op hM h2 hO9 (fun b hb => by
                have : g9 = b := by simpa [Value.ownBlock] using hb
                subst this
                rcases h3 with q | q
                · exact .inl q
                · refine .inr ?_
                  have e : (w4.alloc (.cells #[.bool qw, .int .i64 qk, .int .i64 qv] 102)).drew.heap.size = w4.heap.size + 1 := hsX
                  rw [e, q]
                  exact Nat.le_refl _)
              have h5 := (hb5.out.drew).grown h2 hb5.out.size HRG.out
              exact ⟨hM9, h5.setCell (p := ⟨g2, D.length * 4 + 3, none⟩) ((World.ownsRow.lt HM4.out.1 g2 rfl).1) _⟩)
            clear hsX hbX hT HM4
            go_region_law (first
              | (refine step_append_lies _ rfl (.tmp 52) (.tmp 54) 104 rfl w.heap.size 102 i1 (.agg #[.bool false, .int .i64 0, .int .i64 0]) 3 24 Tryz.underlying104 hj hy0 hy1 hy2 rfl (by decide) (.slice at' tl.length ct) tl.length (opV tl) (by simp [Act.eval]) (by first | exact hTX.out | exact drew_own hTX.out) ⟨_, 0, none⟩ 1 1 [.bool qw, .int .i64 qk, .int .i64 qv] (by rfl) rfl (by exact lit_new _ _ _ _ _) u2.out (by decide) m1.out m2.out hbs.out (w4.heap.size + 1) HS4.out ?_
                 intro g9 c9 w9 hown9 hg9 hor9 hlt9; have a9 := (World.grownBy.cell_far hg9 ⟨g2, D.length * 4 + 3, none⟩ hgX.out hgr.out).trans hA.out; have f9 := (World.grownBy.frozen_far hg9 ⟨g2, D.length * 4 + 3, none⟩ hgX.out hgr.out).trans hF.out))
            all_goals
              obtain ⟨hMf, hbf⟩ := HFIN.out _ _ _ hown9 hg9 hor9
              clear hown9 hg9 hor9 HFIN HMX hb5 hTX
              try go_simp
              go_wp2_with fail
              go_roundw
              case rel => exact ⟨k + 1, _, by omega, by go_num, HN.out _, hMf, HLL.out _, HL.out _, hbf⟩
              case measure => simp [intOf]; omega
      · have HN := Lib.hid (HBG.out _ _ _ rfl)
        clear HNO HNO2 HOP HBG CP CB c0
        obtain ⟨av, cv, rfl⟩ : ∃ a cp, u4 = .slice a c.length cp := by
          rcases hM1.1.split with ⟨rfl, rfl⟩ | ⟨g, cp, rfl, _⟩
          · exact ⟨none, 0, rfl⟩
          · exact ⟨_, _, rfl⟩
        have hM2 := hM1.below (box_below w1 (.cells #[.int .i64 ra, .int .i64 rc, .int .i64 rd, .slice none 0 0] 106))
        have hM3 := hM2.below (box_below _ (.cells #[.int .i64 ra, .int .i64 rc, .int .i64 rd, .slice none 0 0] 106))
        have hsz := hb1'.size
        go_wp2_with (first | (at_builtin; refine wpList_append_own _ rfl _ _ 22 rfl w.heap.size 106 i0 (.agg #[.int .i64 0, .int .i64 0, .int .i64 0, .slice none 0 0]) 4 48 Tryz.underlying22 hi hz0 hz1 hz2 rfl (by decide) _ _ _ rfl hM3.1 ⟨_, 0, none⟩ 1 1 [.int .i64 ra, .int .i64 rc, .int .i64 rd, .slice none 0 0] rfl rfl ?c1 ?c2 ?c3 ?c4 ?c5 ?_) | go_in)
        case c1 =>
          have h := lit4 (w1.alloc (.cells #[.int .i64 ra, .int .i64 rc, .int .i64 rd, .slice none 0 0] 106)) (.int .i64 ra) (.int .i64 rc) (.int .i64 rd) (.slice none 0 0) 106
          rw [show (w1.alloc (.cells #[.int .i64 ra, .int .i64 rc, .int .i64 rd, .slice none 0 0] 106)).heap.size = w1.heap.size + 1 from by simp] at h
          exact h
        case c2 =>
          intro u hu
          simp at hu
          rcases hu with rfl | rfl | rfl | rfl <;> rfl
        case c3 => unfold maxLen; omega
        case c4 => omega
        case c5 => simp; omega
        intro v7 w7 hown7 hg7 _
        have hO7 : OwnT w7 w.heap.size v7 (c ++ [TxnV.mk ra rc rd (.slice none 0 0) []]) := by
          unfold OwnT
          rw [List.length_append, txV_app]
          exact hown7
        have hM7 := Made.beg hM3 hO7 hg7
        have hb7 := ((hb1'.alloc hb1'.size (.cells #[.int .i64 ra, .int .i64 rc, .int .i64 rd, .slice none 0 0] 106)).alloc (by simp; omega) (.cells #[.int .i64 ra, .int .i64 rc, .int .i64 rd, .slice none 0 0] 106)).grown hg7 (by simp; omega) (fun j hj => (World.ownsRow.lt hM3.1 j hj).1)
        have HL : Hid (∀ t ∈ (c ++ [TxnV.mk ra rc rd (.slice none 0 0) []]), t.l.length ≤ k + 1) := Lib.hid (fun t ht => by
          rcases List.mem_append.1 ht with ht | ht
          · exact Nat.le_succ_of_le (hc2 t ht)
          · obtain rfl := List.mem_singleton.1 ht
            exact Nat.zero_le _)
        have HLL : Hid ((c ++ [TxnV.mk ra rc rd (.slice none 0 0) []]).length ≤ k + 1) := Lib.hid (by simp; omega)
        clear hown7 hg7 hM hM1 hM2 hM3 hO7 hc2 hb1 hb1' hb
        go_wp2_with fail
        go_roundw
        case rel => exact ⟨k + 1, _, by omega, by go_num, HN.out, hM7, HLL.out, HL.out, hb7⟩
        case measure => simp [intOf]; omega
    · have hkl : k = L.length := by omega
      subst hkl
      rw [List.take_length] at hrun
      have HR : Hid (LinesRes L w.heap.size wr (.returned (.tuple #[u4, .int .i64 0]))) := Lib.hid (.inl ⟨_, c, rfl, hrun, hM, hc1, hc2⟩)
      clear hrun hM hc2
      go_wp2_with fail
      go_ret2
      exact ⟨HR.out, hb⟩
end Go.Proofs.YtflalehpdngklaaGreatDoor
