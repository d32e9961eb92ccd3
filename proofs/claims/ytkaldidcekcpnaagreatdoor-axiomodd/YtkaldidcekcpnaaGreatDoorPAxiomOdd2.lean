/- Walks and plain facts that the proof of the statement AxiomOdd uses, joined: HisC HisD HisE AxhD OrdD RelR AxhF ArgW LeaA AppS OrdA OrdB OrdC OrdG OrdH OrdE. Conditions: each theorem's own. -/
import Derived.OneCell
import Derived.Lib.BufferWrite
import Derived.Deep.AppendLies
import Derived.Test.YtkaldidcekcpnaaGreatDoorPAxiomOdd0
import Derived.Test.YtkaldidcekcpnaaGreatDoorPAxiomOdd1
namespace Go.Proofs.YtkaldidcekcpnaaGreatDoor
set_option maxRecDepth 100000
open Go.RowKit

/-- When the last transaction of a session ends. -/
def endF (h : List TxnV) : Int → Option Int := fun x => ((h.filter fun t => t.s == x).getLast?).map (·.c)
theorem endF_succ (h : List TxnV) (k : Nat) (hk : k < h.length) : endF (h.take (k + 1)) = putF (endF (h.take k)) h[k].s h[k].c := by
  funext y
  unfold endF putF
  rw [List.take_succ_eq_append_getElem hk, List.filter_append]
  by_cases e : y = h[k].s
  · subst e; simp
  · have : (h[k].s == y) = false := by simp; exact fun e2 => e e2.symm
    simp [this, e]
/-- Does the transaction at k begin behind the end of the last one of its session? -/
def sesOk (h : List TxnV) (k : Nat) : Bool := match h[k]? with
  | none => true
  | some t => match endF (h.take k) t.s with
    | none => true
    | some e => decide (e < t.b)
def sesB (h : List TxnV) : Bool := (List.range h.length).all (sesOk h)
theorem sesB_all {h : List TxnV} (hh : ∀ j, j < h.length → sesOk h j = true) : sesB h = true := by
  unfold sesB; rw [List.all_eq_true]; intro j hj; exact hh j (List.mem_range.1 hj)
theorem sesB_no {h : List TxnV} {k : Nat} (hk : k < h.length) (hh : sesOk h k = false) : sesB h = false := by
  unfold sesB; rw [List.all_eq_false]; exact ⟨k, List.mem_range.2 hk, by simp [hh]⟩
theorem sesOk_at {h : List TxnV} {k : Nat} (hk : k < h.length) : sesOk h k = match endF (h.take k) h[k].s with
    | none => true
    | some e => decide (e < h[k].b) := by
  unfold sesOk; rw [List.getElem?_eq_getElem hk]
set_option maxHeartbeats 8000000 in
theorem sessions_any (va : Value) (h : List TxnV) (w : World) (hT : Txns w va h) (hok : ∀ t ∈ h, t.ok) (hlen : h.length ≤ 100000) :
    Calls Tryz.prog 150 #[va] w fun e w' => e = .returned (.bool (sesB h)) ∧ Below w.heap.size w w' := by
  obtain ⟨ao, cap, rfl, hal⟩ := hT.form
  have HOK := Lib.hid hok
  clear hok
  have hm0 := MapI.made eI Tryz.prog 3 w
  have hb1 := (Below.refl w.heap.size w).alloc (Nat.le_refl _) (.map #[] 0)
  have hmm := @run_makeMap Tryz.prog
  go_enter Tryz.func150, Tryz.ntmps150
  go_wp2_with fail
  go_loopw [11] (fun i wr => ∃ k cnt : Nat, k ≤ h.length ∧ i = .int .i64 k ∧ (∀ j, j < k → sesOk h j = true) ∧ MapI eI Tryz.prog 3 wr w.heap.size k (endF (h.take k)) cnt ∧ Below w.heap.size w wr) (fun i _ => h.length - (intOf i).toNat)
  case atStart => exact ⟨0, 0, by omega, rfl, by omega, hm0, hb1⟩
  case round =>
    obtain ⟨k, cnt, hk, rfl, hN, hM, hb⟩ := hrel
    have HST := Lib.hid hN
    clear hN hm0 hb1
    by_cases hlt : k < h.length
    · have hki : (k : Int) < (h.length : Int) := by omega
      obtain ⟨g, o, hao, c0, c1, c2, c3⟩ := (hT.below hb).at hlt
      cases hao
      have HV := Lib.hid (endF_succ h k hlt)
      have HS := Lib.hid (sesOk_at hlt)
      have HNO := Lib.hid (fun hh => sesB_no hlt hh)
      have hOps := (hT.ops hlt)
      have htok := (HOK.out h[k] (List.getElem_mem hlt)).1
      generalize h[k] = t at *
      obtain ⟨s, b, c, v, l⟩ := t
      simp only at c0 c1 c2 c3 hOps htok
      have hkey := inI_of htok.1
      obtain ⟨ai, capi, rfl, hli⟩ := hOps.form
      have hM1 := hM.alloc (.cells #[.int .i64 s, .int .i64 b, .int .i64 c, .slice ai l.length capi] 118)
      have hbb := hb.alloc hb.size (.cells #[.int .i64 s, .int .i64 b, .int .i64 c, .slice ai l.length capi] 118)
      have hsz := hb.size
      clear hOps htok hM hb
      cases hv : endF (h.take k) s with
      | none =>
        have H : Hid (sesOk h k = true) := Lib.hid (by rw [HS.out]; simp only; rw [hv])
        clear HNO HS
        go_wp2_with (first | (at_lookup; refine wpList_lookI_ok _ rfl _ _ 218 rfl 3 3 keyI mapII 0 (zeroI _) _ _ _ _ rfl hM1 _ rfl hkey ?_; rw [hv]) | (at_mapUpdate; refine wpList_putI _ rfl _ _ _ 218 rfl 3 3 keyI mapII _ _ _ _ rfl hM1 (by unfold maxLen; omega) _ rfl hkey c rfl ?_; intro w1 hM2 hg; go_frame) | go_in)
        have hb2 := hbb.grown hg hbb.size (fun j hj => by cases hj; omega)
        go_wp2_with fail
        go_roundw
        case rel => exact ⟨k + 1, _, by omega, by go_num, all_snoc HST.out H.out, by rw [HV.out]; exact hM2, hb2⟩
        case measure => simp [intOf]; omega
      | some e =>
        have HSP : Hid (sesOk h k = decide (e < b)) := Lib.hid (by rw [HS.out]; simp only; rw [hv])
        clear HS
        by_cases hvv : e < b
        · have H : Hid (sesOk h k = true) := Lib.hid (by rw [HSP.out]; simp [hvv])
          have hne : ¬ b ≤ e := by omega
          clear HNO HSP hvv
          go_wp2_with (first | (at_lookup; refine wpList_lookI_ok _ rfl _ _ 218 rfl 3 3 keyI mapII 0 (zeroI _) _ _ _ _ rfl hM1 _ rfl hkey ?_; rw [hv]; simp only [Option.getD_some, Option.isSome_some, eI]) | (at_mapUpdate; refine wpList_putI _ rfl _ _ _ 218 rfl 3 3 keyI mapII _ _ _ _ rfl hM1 (by unfold maxLen; omega) _ rfl hkey c rfl ?_; intro w1 hM2 hg; go_frame) | go_in)
          have hb2 := hbb.grown hg hbb.size (fun j hj => by cases hj; omega)
          go_wp2_with fail
          go_roundw
          case rel => exact ⟨k + 1, _, by omega, by go_num, all_snoc HST.out H.out, by rw [HV.out]; exact hM2, hb2⟩
          case measure => simp [intOf]; omega
        · have H : Hid (sesB h = false) := Lib.hid (HNO.out (by rw [HSP.out]; simpa using hvv))
          have hne : b ≤ e := by omega
          clear HNO HSP hvv
          go_wp2_with (first | (at_lookup; refine wpList_lookI_ok _ rfl _ _ 218 rfl 3 3 keyI mapII 0 (zeroI _) _ _ _ _ rfl hM1 _ rfl hkey ?_; rw [hv]; simp only [Option.getD_some, Option.isSome_some, eI]) | go_in)
          go_ret
          exact ⟨ret_b H.out.symm, hbb⟩
    · have hkl : k = h.length := by omega
      have H : Hid (sesB h = true) := Lib.hid (sesB_all (by rw [← hkl]; exact HST.out))
      go_wp2_with fail
      go_ret
      exact ⟨ret_b H.out.symm, hb⟩
end Go.Proofs.YtkaldidcekcpnaaGreatDoor

namespace Go.Proofs.YtkaldidcekcpnaaGreatDoor
set_option maxRecDepth 100000
open Go.RowKit

structure WV where
  i : Int
  key : Int
  last : Bool
def eW (x : WV) : Value := .agg #[.int .i64 x.i, .int .i64 x.key, .bool x.last]
def wZ : WV := ⟨0, 0, false⟩
def addOne (i : Int) (F : Int → Option WV) (o : OpV) : Int → Option WV := if o.wr then putF F o.val ⟨i, o.key, false⟩ else F
def addF (i : Int) (F : Int → Option WV) (l : List OpV) : Int → Option WV := l.foldl (addOne i) F
def finF (i : Int) (F : Int → Option WV) (l : List OpV) : Int → Option WV := l.foldl (fun F o => putF F o.val ⟨i, o.key, true⟩) F
theorem addF_snoc (i : Int) (F : Int → Option WV) (l : List OpV) (o : OpV) : addF i F (l ++ [o]) = addOne i (addF i F l) o := by unfold addF; rw [List.foldl_append]; rfl
theorem finF_snoc (i : Int) (F : Int → Option WV) (l : List OpV) (o : OpV) : finF i F (l ++ [o]) = putF (finF i F l) o.val ⟨i, o.key, true⟩ := by unfold finF; rw [List.foldl_append]; rfl
def opsAt (h : List TxnV) (k : Nat) : List OpV := ((h[k]?).map (·.l)).getD []
theorem opsAt_eq {h : List TxnV} {k : Nat} (hk : k < h.length) : opsAt h k = h[k].l := by unfold opsAt; rw [List.getElem?_eq_getElem hk]; rfl
/-- Who writes each value, by the first k transactions. -/
def wrTo (h : List TxnV) (k : Nat) : Int → Option WV := (List.range k).foldl (fun F (j : Nat) => finF (j : Int) (addF (j : Int) F (opsAt h j)) (refWrites (opsAt h j))) fun _ => none
theorem wrTo_succ (h : List TxnV) (k : Nat) : wrTo h (k + 1) = finF k (addF k (wrTo h k) (opsAt h k)) (refWrites (opsAt h k)) := by
  unfold wrTo; rw [List.range_succ, List.foldl_append]; rfl
/-- The values that are written. -/
def wv (l : List OpV) : List Int := (l.filter (·.wr)).map (·.val)
def wvH (h : List TxnV) : List Int := h.flatMap fun t => wv t.l
theorem wv_snoc (l : List OpV) (o : OpV) : wv (l ++ [o]) = wv l ++ (if o.wr then [o.val] else []) := by
  unfold wv; rw [List.filter_append, List.map_append]
  cases h : o.wr <;> simp [h]
theorem wvH_succ (h : List TxnV) (k : Nat) (hk : k < h.length) : wvH (h.take (k + 1)) = wvH (h.take k) ++ wv h[k].l := by
  unfold wvH; rw [List.take_succ_eq_append_getElem hk, List.flatMap_append]; simp
def okW (h : List TxnV) : Bool := decide (wvH h).Nodup
theorem okW_no {h : List TxnV} {k j : Nat} (hk : k < h.length) (hn : ¬ (wvH (h.take k) ++ wv (h[k].l.take j)).Nodup) : okW h = false := by
  unfold okW
  rw [decide_eq_false_iff_not]
  intro hd
  apply hn
  have e1 : wvH h = wvH (h.take (k + 1)) ++ wvH (h.drop (k + 1)) := by unfold wvH; rw [← List.flatMap_append, List.take_append_drop]
  have e2 : wv h[k].l = wv (h[k].l.take j) ++ wv (h[k].l.drop j) := by unfold wv; rw [← List.map_append, ← List.filter_append, List.take_append_drop]
  rw [e1, wvH_succ h k hk, e2, ← List.append_assoc] at hd
  exact (List.nodup_append.1 (List.nodup_append.1 hd).1).1
/-- The map has just these values. -/
def Dom (F : Int → Option WV) (W : List Int) : Prop := ∀ x, (F x).isSome = decide (x ∈ W)
theorem Dom.put {F : Int → Option WV} {W : List Int} (h : Dom F W) (x : Int) (u : WV) : Dom (putF F x u) (W ++ [x]) := by
  intro y
  unfold putF
  by_cases e : y = x
  · simp [e]
  · rw [if_neg e, h y]; simp [e]
theorem Dom.again {F : Int → Option WV} {W : List Int} (h : Dom F W) {x : Int} (hx : x ∈ W) (u : WV) : Dom (putF F x u) W := by
  intro y
  unfold putF
  by_cases e : y = x
  · simp [e, hx]
  · rw [if_neg e, h y]
theorem Dom.not {F : Int → Option WV} {W : List Int} (h : Dom F W) {x : Int} (hx : F x = none) : ¬ x ∈ W := by
  have := h x; rw [hx] at this; simpa using this.symm
theorem Dom.yes {F : Int → Option WV} {W : List Int} (h : Dom F W) {x : Int} {u : WV} (hx : F x = some u) : x ∈ W := by
  have := h x; rw [hx] at this; simpa using this.symm
theorem nodup_snoc {L : List Int} {x : Int} (h : L.Nodup) (hx : ¬ x ∈ L) : (L ++ [x]).Nodup := by
  rw [List.nodup_append]
  exact ⟨h, by simp, by intro a ha b hb; simp at hb; subst hb; rintro rfl; exact hx ha⟩
theorem not_nodup_snoc {L : List Int} {x : Int} (hx : x ∈ L) : ¬ (L ++ [x]).Nodup := fun hd => (List.nodup_append.1 hd).2.2 x hx x (by simp) rfl
theorem wv_mem {l : List OpV} {x : Int} : x ∈ wv l ↔ ∃ o ∈ l, o.wr = true ∧ o.val = x := by
  unfold wv; simp [and_assoc]
theorem rise_wv {l out : List OpV} (h : Rise (lastW l) true out) : ∀ o ∈ out, o.val ∈ wv l := by
  intro o ho
  obtain ⟨h1, h2⟩ := (h.2 o).1 ho
  exact wv_mem.2 ⟨o, (lastW_key h1).2.2, h2, rfl⟩
theorem wv_len (l : List OpV) : (wv l).length ≤ l.length := by unfold wv; rw [List.length_map]; exact List.length_filter_le _ _
end Go.Proofs.YtkaldidcekcpnaaGreatDoor

namespace Go.Proofs.YtkaldidcekcpnaaGreatDoor
set_option maxRecDepth 100000
open Go.RowKit

theorem mapIW : Tryz.prog.underlying 120 = some (.map 3 191) := Tryz.underlying120
theorem zeroW (w : World) : (zeroValue 191).run Tryz.prog w = .ok (eW wZ) w := by kernel_rfl
/-- The block p holds this. -/
def At (w : World) (p : Nat) (o : Obj) : Prop := w.heap[p]? = some o
theorem At.lt {w : World} {p : Nat} {o : Obj} (h : At w p o) : p < w.heap.size := (Array.getElem?_eq_some_iff.1 h).1
theorem At.new (w : World) (o : Obj) : At (w.alloc o) w.heap.size o := heap_alloc_new w o
theorem At.grown {w w' : World} {p : Nat} {o : Obj} {row : Option Nat} (h : At w p o) (hg : w.grownBy w' row) (hne : some p ≠ row) : At w' p o := (hg.block p h.lt hne).trans h
theorem At.alloc {w : World} {p : Nat} {o : Obj} (h : At w p o) (o' : Obj) : At (w.alloc o') p o := h.grown (World.grownBy_alloc w o' none) (by simp)
theorem At.below {w w' : World} {p : Nat} {o : Obj} (h : At w p o) (hb : Below w.heap.size w w') : At w' p o := (hb.block p h.lt).trans h
theorem At.cells4 {w : World} {p : Nat} {x y z u : Value} {t : TypeId} (h : At w p (.cells #[x, y, z, u] t)) : w.cell? ⟨p, 0, none⟩ = some x ∧ w.cell? ⟨p, 1, none⟩ = some y ∧ w.cell? ⟨p, 2, none⟩ = some z ∧ w.cell? ⟨p, 3, none⟩ = some u := by
  refine ⟨?_, ?_, ?_, ?_⟩ <;> (unfold At at h; simp [World.cell?, h])
/-- What Writes answers. -/
def WrPost (w : World) (h : List TxnV) (e : Ending) (w' : World) : Prop :=
  Below w.heap.size w w' ∧ ((okW h = false ∧ e = .returned (.tuple #[.map none, .bool false])) ∨
    (okW h = true ∧ ∃ b n, e = .returned (.tuple #[.map (some b), .bool true]) ∧ w.heap.size ≤ b ∧ MapI eW Tryz.prog 3 w' b n (wrTo h h.length) (wvH h).length))
set_option maxHeartbeats 16000000 in
theorem hwrites_any (va : Value) (h : List TxnV) (w : World) (hT : Txns w va h) (hok : ∀ t ∈ h, t.ok) (hks : ∀ t ∈ h, keysIn t.l) (hn : opsN h ≤ 100000) (hlen : h.length ≤ 100000) :
    Calls Tryz.prog 77 #[va] w (WrPost w h) := by
  obtain ⟨ao, cap, rfl, hal⟩ := hT.form
  have HOK := Lib.hid hok
  have HKS := Lib.hid hks
  clear hok hks
  have hm0 := MapI.made eW Tryz.prog 3 w
  have hb1 := (Below.refl w.heap.size w).alloc (Nat.le_refl _) (.map #[] 0)
  have hmm := @run_makeMap Tryz.prog
  go_enter Tryz.func77, Tryz.ntmps77
  go_wp2_with fail
  go_loopw [16] (fun i wr => ∃ k n : Nat, k ≤ h.length ∧ i = .int .i64 k ∧ n ≤ 2 * opsN (h.take k) ∧ (wvH (h.take k)).Nodup ∧ Dom (wrTo h k) (wvH (h.take k)) ∧ MapI eW Tryz.prog 3 wr w.heap.size n (wrTo h k) (wvH (h.take k)).length ∧ Below w.heap.size w wr) (fun i _ => h.length - (intOf i).toNat)
  case atStart => exact ⟨0, 0, by omega, rfl, by omega, by simp [wvH], fun x => by simp [wrTo, wvH], hm0, hb1⟩
  case round =>
    obtain ⟨k, n, hk, rfl, hnn, hN, hD, hM, hb⟩ := hrel
    have HND := Lib.hid hN
    have HD := Lib.hid hD
    clear hN hD hm0 hb1
    by_cases hlt : k < h.length
    · have hki : (k : Int) < (h.length : Int) := by omega
      obtain ⟨g, o, hao, c0, c1, c2, c3⟩ := (hT.below hb).at hlt
      cases hao
      have HW := Lib.hid (wvH_succ h k hlt)
      have HR : Hid (wrTo h (k + 1) = finF (k : Int) (addF (k : Int) (wrTo h k) h[k].l) (refWrites h[k].l)) := Lib.hid (by rw [wrTo_succ, opsAt_eq hlt])
      have HNO := Lib.hid (fun j hh => okW_no (j := j) hlt hh)
      have hOps := fun wx (hx : Below w.heap.size w wx) => (hT.ops hlt).below hx
      have HTK := Lib.hid (HOK.out h[k] (List.getElem_mem hlt))
      have HKK := Lib.hid (HKS.out h[k] (List.getElem_mem hlt))
      have hon := opsN_take h k hlt
      have hol := opsN_le h (k + 1)
      generalize h[k] = t at *
      obtain ⟨s, b, c, v, l⟩ := t
      simp only at c0 c1 c2 c3 HW HR HNO hOps HTK HKK hon
      obtain ⟨ai, capi, rfl, hli⟩ := (hOps w (Below.refl _ _)).form
      have HOP := Lib.hid hOps
      have hpl := hM.lt
      have hM1 := hM.alloc (.cells #[.int .i64 s, .int .i64 b, .int .i64 c, .slice ai l.length capi] 118)
      have hbb := hb.alloc hb.size (.cells #[.int .i64 s, .int .i64 b, .int .i64 c, .slice ai l.length capi] 118)
      have hsz := hb.size
      have hx := txnBlock wr (.int .i64 s) (.int .i64 b) (.int .i64 c) (.slice ai l.length capi) 118
      have hltx : wr.heap.size < (wr.alloc (.cells #[.int .i64 s, .int .i64 b, .int .i64 c, .slice ai l.length capi] 118)).heap.size := by simp
      clear hOps hM hb
      generalize wvH (h.take k) = W at *
      generalize wrTo h k = F at *
      go_wp2_with fail
      have hA0 := At.new wr (.cells #[.int .i64 s, .int .i64 b, .int .i64 c, .slice ai l.length capi] 118)
      generalize wr.alloc (.cells #[.int .i64 s, .int .i64 b, .int .i64 c, .slice ai l.length capi] 118) = w1 at *
      generalize hpp : wr.heap.size = p at *
      have hA1 : At w1 p (.cells #[.int .i64 s, .int .i64 b, .int .i64 c, .slice ai l.length capi] 118) := hA0
      clear hA0 c0 c1 c2 c3 hx hsz
      go_loopw [24] (fun i wx => ∃ j m : Nat, j ≤ l.length ∧ i = .int .i64 j ∧ m ≤ 2 * opsN (h.take k) + j ∧ (W ++ wv (l.take j)).Nodup ∧ Dom (addF (k : Int) F (l.take j)) (W ++ wv (l.take j)) ∧ MapI eW Tryz.prog 3 wx w.heap.size m (addF (k : Int) F (l.take j)) (W ++ wv (l.take j)).length ∧ At wx p (.cells #[.int .i64 s, .int .i64 b, .int .i64 c, .slice ai l.length capi] 118) ∧ Below w.heap.size w wx) (fun i _ => l.length - (intOf i).toNat)
      case atStart => exact ⟨0, n, by omega, rfl, by omega, by simpa [wv] using HND.out, by simpa [wv, addF] using HD.out, by simpa [wv, addF] using hM1, hA1, hbb⟩
      case round =>
        obtain ⟨j, m, hj, rfl, hmm2, hN2, hD2, hM2, hA2, hb2⟩ := hrel
        have HN2 := Lib.hid hN2
        have HD2 := Lib.hid hD2
        clear hN2 hD2 hM1 hA1 hbb
        by_cases hltj : j < l.length
        · have hkj : (j : Int) < (l.length : Int) := by omega
          obtain ⟨g2, o2, hao2, e0, e1, e2⟩ := (HOP.out _ hb2).at hltj
          cases hao2
          have HWJ : Hid (wv (l.take (j + 1)) = wv (l.take j) ++ (if l[j].wr then [l[j].val] else [])) := Lib.hid (by rw [take_snoc l j hltj, wv_snoc])
          have HFJ : Hid (addF (k : Int) F (l.take (j + 1)) = addOne (k : Int) (addF (k : Int) F (l.take j)) l[j]) := Lib.hid (by rw [take_snoc l j hltj, addF_snoc])
          have hox := HTK.out.2 l[j] (List.getElem_mem hltj)
          generalize l[j] = x at *
          obtain ⟨xw, xk, xv⟩ := x
          simp only at e0 e1 e2 HWJ HFJ
          have hkv := inI_of hox.2
          have hM3 := hM2.alloc (.cells #[.bool xw, .int .i64 xk, .int .i64 xv] 114)
          have hA3 := hA2.alloc (.cells #[.bool xw, .int .i64 xk, .int .i64 xv] 114)
          have hb3 := hb2.alloc hb2.size (.cells #[.bool xw, .int .i64 xk, .int .i64 xv] 114)
          have hszj := hb2.size
          clear hox hM2 hA2 hb2
          cases xw with
          | false =>
            simp only [Bool.false_eq_true, if_false, List.append_nil] at HWJ
            have HFJ2 : Hid (addF (k : Int) F (l.take (j + 1)) = addF (k : Int) F (l.take j)) := Lib.hid (by rw [HFJ.out]; rfl)
            clear HFJ
            go_wp2_with fail
            go_roundw
            case rel => exact ⟨j + 1, m, by omega, by go_num, by omega, by rw [HWJ.out]; exact HN2.out, by rw [HWJ.out, HFJ2.out]; exact HD2.out, by rw [HWJ.out, HFJ2.out]; exact hM3, hA3, hb3⟩
            case measure => simp [intOf]; omega
          | true =>
            simp only [if_true] at HWJ
            have HFJ2 : Hid (addF (k : Int) F (l.take (j + 1)) = putF (addF (k : Int) F (l.take j)) xv ⟨k, xk, false⟩) := Lib.hid (by rw [HFJ.out]; rfl)
            have HNJ : Hid (xv ∈ W ++ wv (l.take j) → okW h = false) := Lib.hid (fun hin => HNO.out (j + 1) (by rw [HWJ.out, ← List.append_assoc]; exact not_nodup_snoc hin))
            clear HFJ
            generalize addF (k : Int) F (l.take j) = F1 at *
            cases hv : F1 xv with
            | none =>
              have HX := Lib.hid (HD2.out.not hv)
              have hM4 := hM3.alloc (.cells #[.int .i64 0, .int .i64 0, .bool false] 191)
              have hA4 := hA3.alloc (.cells #[.int .i64 0, .int .i64 0, .bool false] 191)
              have hb4 := hb3.alloc hb3.size (.cells #[.int .i64 0, .int .i64 0, .bool false] 191)
              clear HNJ
              go_wp2_with (first | (at_lookup; refine wpList_lookI_ok _ rfl _ _ 120 rfl 3 191 keyI mapIW wZ (zeroW _) _ _ _ _ rfl hM3 _ rfl hkv ?_; rw [hv]; simp only [Option.getD_none, Option.isSome_none, eW, wZ]) | (at_mapUpdate; refine wpList_putI _ rfl _ _ _ 120 rfl 3 191 keyI mapIW _ _ _ _ rfl hM4 (by unfold maxLen; omega) _ rfl hkv ⟨k, xk, false⟩ rfl ?_; intro w5 hM5 hg5; go_frame) | go_in)
              have hb5 := hb4.grown hg5 hb4.size (fun j hj => by cases hj; omega)
              have hA5 := hA4.grown hg5 (fun e => by cases e; omega)
              rw [hv] at hM5
              simp only [Option.isSome_none, Bool.false_eq_true, if_false] at hM5
              clear hM4 hA4 hb4 hg5 hM3 hA3 hb3
              go_wp2_with fail
              go_roundw
              case rel => exact ⟨j + 1, m + 1, by omega, by go_num, by omega, by rw [HWJ.out, ← List.append_assoc]; exact nodup_snoc HN2.out HX.out, by rw [HWJ.out, HFJ2.out, ← List.append_assoc]; exact HD2.out.put _ _, by rw [HWJ.out, HFJ2.out, ← List.append_assoc]; simpa [Nat.add_assoc] using hM5, hA5, hb5⟩
              case measure => simp [intOf]; omega
            | some u =>
              have H := Lib.hid (HNJ.out (HD2.out.yes hv))
              obtain ⟨ui, uk, ul⟩ := u
              have hb4 := hb3.alloc hb3.size (.cells #[.int .i64 ui, .int .i64 uk, .bool ul] 191)
              clear HNJ
              go_wp2_with (first | (at_lookup; refine wpList_lookI_ok _ rfl _ _ 120 rfl 3 191 keyI mapIW wZ (zeroW _) _ _ _ _ rfl hM3 _ rfl hkv ?_; rw [hv]; simp only [Option.getD_some, Option.isSome_some, eW]) | go_in)
              refine bodyPost_ret (v := .tuple #[.map none, .bool false]) (by simp [results, Tryz.results77, go_sem]) rfl ⟨hb4, .inl ⟨H.out, rfl⟩⟩
        · have hj2 : j = l.length := by omega
          subst hj2
          rw [List.take_length] at hM2 HN2 HD2
          obtain ⟨q0, q1, q2, q3⟩ := hA2.cells4
          have CW := Lib.hid (writes_any s b c _ l wr (HOP.out _ hb2) HTK.out.2 (by omega))
          have hRR := Lib.hid (refWrites_rise HKK.out)
          clear HNO
          go_wp2_with fail
          refine (CW.out).mono ?_
          rintro e w6 ⟨v2, out, rfl, hO, hRise, hle2, hb6⟩
          obtain rfl := hRise.eq hRR.out
          have hM6 := hM2.below hb6
          have hb7 := below_then hb2 hb6
          have hO7 := hO.base (base' := 0) (Nat.zero_le _)
          have HWV := Lib.hid (rise_wv hRise)
          have HTO := Lib.hid (fun o (ho : o ∈ refWrites l) => HTK.out.2 o (lastW_key (((hRise.2 o).1 ho).1)).2.2)
          have hspl := hO.split
          have hwl := hM2.lt
          obtain ⟨ao2, cap2, rfl, hl2⟩ := hO7.ops.form
          have HNE : Hid (∀ g o q, ao2 = some (⟨g, o, q⟩ : Addr) → Value.ownBlock (.slice (some ⟨g, o, q⟩) (refWrites l).length cap2) ≠ some w.heap.size) := Lib.hid (fun g o q e hh => by
            rcases hspl with ⟨e1, _⟩ | ⟨g3, cap3, e1, hg3⟩
            · rw [e] at e1; simp at e1
            · rw [e] at e1; simp [Value.ownBlock] at e1 hh; omega)
          clear hO hRise hRR CW hM2 hA2 hb2 hb6 q0 q1 q2 q3
          generalize refWrites l = R at *
          generalize addF (k : Int) F l = F1 at *
          generalize hWW : W ++ wv l = W1 at *
          have HWW := Lib.hid hWW
          clear hWW
          go_wp2_with fail
          go_loopw [50] (fun i wx => ∃ j m2 : Nat, j ≤ R.length ∧ i = .int .i64 j ∧ m2 ≤ 2 * opsN (h.take k) + l.length + j ∧ Dom (finF (k : Int) F1 (R.take j)) W1 ∧ MapI eW Tryz.prog 3 wx w.heap.size m2 (finF (k : Int) F1 (R.take j)) W1.length ∧ Own wx 0 (.slice ao2 R.length cap2) R ∧ Below w.heap.size w wx) (fun i _ => R.length - (intOf i).toNat)
          case atStart => exact ⟨0, m, by omega, rfl, by omega, HD2.out, hM6, hO7, hb7⟩
          case round =>
            obtain ⟨j, m2, hj2, rfl, hmm3, hD3, hM8, hO8, hb8⟩ := hrel
            have HD3 := Lib.hid hD3
            clear hD3 hM6 hO7 hb7
            by_cases hltj : j < R.length
            · have hkj : (j : Int) < (R.length : Int) := by omega
              obtain ⟨g2, o2, hao2, e0, e1, e2⟩ := hO8.ops.at hltj
              cases hao2
              have HFJ : Hid (finF (k : Int) F1 (R.take (j + 1)) = putF (finF (k : Int) F1 (R.take j)) R[j].val ⟨k, R[j].key, true⟩) := Lib.hid (by rw [take_snoc R j hltj, finF_snoc])
              have hox := HTO.out R[j] (List.getElem_mem hltj)
              have hin := HWV.out R[j] (List.getElem_mem hltj)
              generalize R[j] = x at *
              obtain ⟨xw, xk, xv⟩ := x
              simp only at e0 e1 e2 HFJ hin
              have hkv := inI_of hox.2
              have hinW : Hid (xv ∈ W1) := Lib.hid (by rw [← HWW.out]; exact List.mem_append_right _ hin)
              have hM9 := hM8.alloc (.cells #[.bool xw, .int .i64 xk, .int .i64 xv] 114)
              have hO9 : Own _ _ _ _ := World.ownsRow.alloc hO8 (.cells #[.bool xw, .int .i64 xk, .int .i64 xv] 114)
              have hb9 := hb8.alloc hb8.size (.cells #[.bool xw, .int .i64 xk, .int .i64 xv] 114)
              have hszj := hb8.size
              have hne9 : Value.ownBlock (.slice (some ⟨g2, o2, none⟩) R.length cap2) ≠ some w.heap.size := HNE.out _ _ _ rfl
              clear hox hin hM8 hO8 hb8
              generalize finF (k : Int) F1 (R.take j) = F2 at *
              go_wp2_with (first | (at_mapUpdate; refine wpList_putI _ rfl _ _ _ 120 rfl 3 191 keyI mapIW _ _ _ _ rfl hM9 (by unfold maxLen; omega) _ rfl hkv ⟨k, xk, true⟩ rfl ?_; intro w5 hM5 hg5; go_frame) | go_in)
              have hb5 := hb9.grown hg5 hb9.size (fun j hj => by cases hj; omega)
              have hO5 : Own w5 0 (.slice (some ⟨g2, o2, none⟩) R.length cap2) R := World.ownsRow.kept hO9 hg5 (.inr hne9)
              have hsome : (F2 xv).isSome = true := by rw [HD3.out xv]; simpa using hinW.out
              rw [hsome] at hM5
              simp only [if_true] at hM5
              clear hM9 hO9 hb9 hg5 hsome
              go_wp2_with fail
              go_roundw
              case rel => exact ⟨j + 1, m2 + 1, by omega, by go_num, by omega, by rw [HFJ.out]; exact HD3.out.again hinW.out _, by rw [HFJ.out]; exact hM5, hO5, hb5⟩
              case measure => simp [intOf]; omega
            · have hj3 : j = R.length := by omega
              subst hj3
              rw [List.take_length] at hM8 HD3
              have HW1 : Hid (wvH (h.take (k + 1)) = W1) := Lib.hid HW.out
              go_wp2_with fail
              go_roundw
              case rel => exact ⟨k + 1, m2, by omega, by go_num, by omega, by rw [HW1.out]; exact HN2.out, by rw [HW1.out, HR.out]; exact HD3.out, by rw [HW1.out, HR.out]; exact hM8, hb8⟩
              case measure => simp [intOf]; omega
    · have hkl : k = h.length := by omega
      subst hkl
      have H : Hid (okW h = true) := Lib.hid (by have := HND.out; rw [List.take_length] at this; unfold okW; simpa using this)
      rw [List.take_length] at hM
      go_wp2_with fail
      refine bodyPost_ret (v := .tuple #[.map (some w.heap.size), .bool true]) (by simp [results, Tryz.results77, go_sem]) rfl ⟨hb, .inr ⟨H.out, _, _, rfl, Nat.le_refl _, hM⟩⟩
end Go.Proofs.YtkaldidcekcpnaaGreatDoor

namespace Go.Proofs.YtkaldidcekcpnaaGreatDoor
set_option maxRecDepth 100000
open Go.RowKit

/-- One more pair, where it may be. -/
def putM (m : List Pr) (a b : Int) : List Pr := if (mayB a && mayB b) = true then putP m a b else m
theorem rep_add {V : Mat} {m : List Pr} (h : Rep V m) (a b : Int) : Rep (addM V a b) (putM m a b) := by
  unfold putM
  cases hab : (mayB a && mayB b) with
  | false =>
    rw [if_neg (by decide)]
    have e : addM V a b = V := by
      unfold addM
      rw [if_neg]
      rintro ⟨h1, h2⟩
      rw [h1, h2] at hab; cases hab
    rw [e]; exact h
  | true =>
    rw [if_pos rfl]
    rw [Bool.and_eq_true] at hab
    have h1 := (mayB_iff a).1 hab.1
    have h2 := (mayB_iff b).1 hab.2
    refine ⟨putP_nodup h.1, fun c d => ?_⟩
    rw [mem_putP, h.2]
    constructor
    · rintro (⟨i, j, hi, hj, rfl, rfl, hv⟩ | e)
      · exact ⟨i, j, hi, hj, rfl, rfl, (addM_iff V a b i j hi hj).2 (.inl hv)⟩
      · have e1 : c = a := congrArg Prod.fst e
        have e2 : d = b := congrArg Prod.snd e
        subst e1; subst e2
        exact ⟨c.toNat, d.toNat, by omega, by omega, by omega, by omega, (addM_iff V c d _ _ (by omega) (by omega)).2 (.inr ⟨by omega, by omega⟩)⟩
    · rintro ⟨i, j, hi, hj, rfl, rfl, hv⟩
      rcases (addM_iff V a b i j hi hj).1 hv with hv | ⟨e1, e2⟩
      · exact .inl ⟨i, j, hi, hj, rfl, rfl, hv⟩
      · exact .inr (by rw [e1, e2])
theorem prV_int {l : List Pr} {u : Value} (h : u ∈ prV l) : ∃ x : Int, u = .int .i64 x := by
  unfold prV at h
  obtain ⟨p, _, hp⟩ := List.mem_flatMap.1 h
  simp at hp
  rcases hp with rfl | rfl
  · exact ⟨_, rfl⟩
  · exact ⟨_, rfl⟩
theorem rowsA_u64 (V : Mat) {i : Nat} {u : Value} (h : (rowsA V)[i]? = some u) : ∃ n : Int, u = .int .u64 n := by
  have hi : i < 64 := by
    have := (Array.getElem?_eq_some_iff.1 h).1
    rwa [rowsA_size] at this
  rw [rowsA_at V hi] at h
  cases h
  exact ⟨_, rfl⟩
/-- A relation that is changed leaves pairs as they are. -/
theorem Prs.apart {w w' : World} {v : Value} {l : List Pr} {g : Nat} {V : Mat} (h : Prs w v l) (hV : RelAt w g 37 V) (hg : w.grownBy w' (some g)) : Prs w' v l := by
  obtain ⟨hl, ao, cap, rfl, hm, hno, hc⟩ := h
  refine ⟨hl, ao, cap, rfl, hm, hno, fun hn => ?_⟩
  obtain ⟨b, off, rfl, hcell⟩ := hc hn
  refine ⟨b, off, rfl, fun i hi => ?_⟩
  have h2 := hcell i hi
  rw [List.getElem?_eq_getElem (by omega)] at h2 ⊢
  refine hg.cell h2 (fun e => ?_)
  obtain rfl : b = g := by simpa using e
  obtain ⟨x, hx⟩ := prV_int (List.getElem_mem (show i < (prV l).length by omega))
  rw [cell_of_row w b (off + i) _ _ _ hV] at h2
  obtain ⟨n, hn2⟩ := rowsA_u64 V h2
  rw [hx] at hn2; cases hn2
/-- What lies there while pairs are put in. -/
structure Vis (B : Nat) (pv pl : Nat) (V : Mat) (m : List Pr) (w0 w : World) : Prop where
  rel : RelAt w pv 37 V
  box : ∃ vm, At w pl (.cells #[vm] 40) ∧ Prs w vm m
  rep : Rep V m
  below : Below B w0 w
theorem Vis.mono {B pv pl : Nat} {V : Mat} {m : List Pr} {w0 w w' : World} (h : Vis B pv pl V m w0 w) (hb : Below w.heap.size w w') (hB : B ≤ w.heap.size) : Vis B pv pl V m w0 w' := by
  obtain ⟨h1, ⟨vm, h2, h3⟩, h4, h5⟩ := h
  exact ⟨h1.below hb h1.lt, ⟨vm, h2.below hb, h3.below hb⟩, h4, h5.trans (hb.mono hB)⟩
end Go.Proofs.YtkaldidcekcpnaaGreatDoor

namespace Go.Proofs.YtkaldidcekcpnaaGreatDoor
set_option maxRecDepth 100000
open Go.RowKit

/-- The first k numbers of a row; the first a rows. -/
def prsRow (S : Nat → Nat → Bool) (a : Nat) (R : Mat) : Nat → Mat
  | 0 => R
  | b + 1 => if S a b then addM (prsRow S a R b) a b else prsRow S a R b
def prsTo (S : Nat → Nat → Bool) (n : Nat) : Nat → Mat
  | 0 => noR
  | a + 1 => prsRow S a (prsTo S n a) n
theorem prsRow_hit {S : Nat → Nat → Bool} {a b : Nat} (R : Mat) (h : S a b = true) : prsRow S a R (b + 1) = addM (prsRow S a R b) a b := if_pos h
theorem prsRow_miss {S : Nat → Nat → Bool} {a b : Nat} (R : Mat) (h : S a b = false) : prsRow S a R (b + 1) = prsRow S a R b := if_neg (by simp [h])
theorem results_rel1 {fn : Func} {p : Tmp} (h : fn.results = #[.cell p 37]) (tmps : Array Value) (w : World) (g : Nat) (R : Mat)
    (hp : tmps.getD p undef = .pointer (some ⟨g, 0, none⟩)) (hg : RelAt w g 37 R) : (results fn tmps).run Tryz.prog w = .ok (.agg (rowsA R)) w := by
  have hp' : tmps[p]?.getD undef = .pointer (some ⟨g, 0, none⟩) := by simpa using hp
  simp [results, h, hp', asAddr, run_loadVar_row w g _ 37 (rowsA R) _ _ hg Tryz.underlying37 rfl (infoRel' _)]
set_option maxHeartbeats 4000000 in
theorem pairs_any (S : Nat → Nat → Bool) (n : Nat) (hn : n ≤ 100) (f : FuncId) (cap : Array Value) (w : World) (hcf : ∀ (args : Array Value) (wx : World), Sem.run Tryz.prog (callFunc f args) wx = .ok (.enter f args) wx)
    (HF : ∀ (a b : Nat) (wx : World), a < n → b < n → Below w.heap.size w wx → Calls Tryz.prog f (#[.int .i64 a, .int .i64 b] ++ cap) wx fun e w' => e = .returned (.bool (S a b)) ∧ Below wx.heap.size wx w') :
    Calls Tryz.prog 82 #[.int .i64 n, .func (.func f) #[] cap] w fun e w' => e = .returned (.agg (rowsA (prsTo S n n))) ∧ Below w.heap.size w w' := by
  have HF' := Lib.hid HF
  clear HF
  go_enter Tryz.func82, Tryz.ntmps82
  go_wp2
  go_loopw [9] (fun i wr => ∃ k : Nat, k ≤ n ∧ i = .int .i64 k ∧ RelAt wr (w.heap.size + 1) 37 (prsTo S n k) ∧ RelAt wr w.heap.size 37 noR ∧ Below w.heap.size w wr)
    (fun i _ => n - (intOf i).toNat)
  case atStart =>
    refine ⟨0, by omega, rfl, ?_, ?_, ?_⟩
    · exact RelAt.made _ _ noR (by simp) (by rw [rowsA_none]; rfl)
    · exact (RelAt.made w _ noR rfl (by rw [rowsA_none]; rfl)).alloc _
    · exact ((Below.refl w.heap.size w).alloc (Nat.le_refl _) _).alloc (by simp) _
  case round =>
    obtain ⟨k, hk, rfl, h1, h0, hb⟩ := hrel
    by_cases hlt : k < n
    · have hki : (k : Int) < (n : Int) := by omega
      have HN : Hid (prsTo S n (k + 1) = prsRow S k (prsTo S n k) n) := Lib.hid rfl
      generalize prsTo S n k = R at *
      go_wp2_with fail
      go_loopw [13] (fun i wx => ∃ j : Nat, j ≤ n ∧ i = .int .i64 j ∧ RelAt wx (w.heap.size + 1) 37 (prsRow S k R j) ∧ RelAt wx w.heap.size 37 noR ∧ Below w.heap.size w wx)
        (fun i _ => n - (intOf i).toNat)
      case atStart => exact ⟨0, by omega, rfl, h1, h0, hb⟩
      case round =>
        clear h1 h0 hb
        obtain ⟨j, hj, rfl, h1, h0, hb⟩ := hrel
        by_cases hltj : j < n
        · have hkj : (j : Int) < (n : Int) := by omega
          have CF := Lib.hid (HF'.out k j wr hlt hltj hb)
          cases hs : S k j
          · rw [hs] at CF
            have HM := Lib.hid (prsRow_miss R hs)
            clear hs
            go_wp2_with fail
            refine (CF.out).mono ?_
            rintro e w6 ⟨rfl, hb6⟩
            have h16 := h1.below hb6 h1.lt
            have h06 := h0.below hb6 h0.lt
            have hbb := hb.trans (hb6.mono hb.size)
            clear h1 h0 hb hb6 CF
            go_wp2_with fail
            go_roundw
            case rel => exact ⟨j + 1, by omega, by go_num, by rw [HM.out]; exact h16, h06, hbb⟩
            case measure => simp [intOf]; omega
          · rw [hs] at CF
            have HM := Lib.hid (prsRow_hit R hs)
            clear hs
            go_wp2_with fail
            refine (CF.out).mono ?_
            rintro e w6 ⟨rfl, hb6⟩
            have h16 := h1.below hb6 h1.lt
            have h06 := h0.below hb6 h0.lt
            have hbb := hb.trans (hb6.mono hb.size)
            have CA := Lib.hid (add_any _ _ (k : Int) (j : Int) _ h16)
            clear h1 h0 hb hb6 CF h16
            go_wp2_with fail
            refine (CA.out).mono ?_
            rintro e w7 ⟨rfl, h17, hg7⟩
            have h07 : RelAt w7 w.heap.size 37 noR := by
              have := hg7.block w.heap.size h06.lt (by simp)
              unfold RelAt at *
              rw [this]
              exact h06
            have hb7 : Below w.heap.size w w7 := hbb.grown hg7 hbb.size (by simp)
            clear CA h06 hbb hg7
            go_wp2_with fail
            go_roundw
            case rel => exact ⟨j + 1, by omega, by go_num, by rw [HM.out]; exact h17, h07, hb7⟩
            case measure => simp [intOf]; omega
        · have hjn : j = n := by omega
          subst hjn
          go_wp2_with fail
          go_roundw
          case rel => exact ⟨k + 1, by omega, by go_num, by rw [HN.out]; exact h1, h0, hb⟩
          case measure => simp [intOf]; omega
    · have hkn : k = n := by omega
      subst hkn
      go_wp2_with (first
        | (with_reducible refine wpList_load_rel h1 rfl _ rfl rfl ?_)
        | (with_reducible refine wpList_store_rel h0 (prsTo S k k) rfl _ _ rfl rfl rfl ?_))
      have h3 := h0.setRow (prsTo S k k)
      exact bodyPost_ret (results_rel1 rfl _ _ _ _ rfl h3) rfl ⟨rfl, below_setRow hb (by omega) _⟩
end Go.Proofs.YtkaldidcekcpnaaGreatDoor

namespace Go.Proofs.YtkaldidcekcpnaaGreatDoor
set_option maxRecDepth 100000
open Go.RowKit

theorem Ints.take {w : World} {ao : Option Addr} {n cap : Nat} {l : List Int} (h : Ints w (.slice ao n cap) l) (k : Nat) (hk : k ≤ l.length) (hk0 : ao = none → cap = 0) :
    Ints w (.slice ao k cap) (l.take k) := by
  have hlen : (l.take k).length = k := by simp; omega
  obtain ⟨_, ao', cap', he, hm, hno, hc⟩ := h
  obtain ⟨rfl, rfl, rfl⟩ : ao = ao' ∧ n = l.length ∧ cap = cap' := by simpa using he
  refine ⟨by simp, ao, cap, by rw [hlen], by rw [hlen]; omega, (fun h => ⟨by rw [hlen]; have := hno h; omega, hk0 h⟩), fun hn => ?_⟩
  obtain ⟨b, off, rfl, hcell⟩ := hc (by omega)
  refine ⟨b, off, rfl, fun i hi => ?_⟩
  rw [hcell i (by omega), List.map_take, List.getElem?_take, if_pos (by omega)]
theorem zero_block (w : World) : RelAt (w.alloc (.cells #[.int .u64 0, .int .u64 0, .int .u64 0, .int .u64 0, .int .u64 0, .int .u64 0, .int .u64 0, .int .u64 0, .int .u64 0, .int .u64 0, .int .u64 0, .int .u64 0, .int .u64 0, .int .u64 0, .int .u64 0, .int .u64 0, .int .u64 0, .int .u64 0, .int .u64 0, .int .u64 0, .int .u64 0, .int .u64 0, .int .u64 0, .int .u64 0, .int .u64 0, .int .u64 0, .int .u64 0, .int .u64 0, .int .u64 0, .int .u64 0, .int .u64 0, .int .u64 0, .int .u64 0, .int .u64 0, .int .u64 0, .int .u64 0, .int .u64 0, .int .u64 0, .int .u64 0, .int .u64 0, .int .u64 0, .int .u64 0, .int .u64 0, .int .u64 0, .int .u64 0, .int .u64 0, .int .u64 0, .int .u64 0, .int .u64 0, .int .u64 0, .int .u64 0, .int .u64 0, .int .u64 0, .int .u64 0, .int .u64 0, .int .u64 0, .int .u64 0, .int .u64 0, .int .u64 0, .int .u64 0, .int .u64 0, .int .u64 0, .int .u64 0, .int .u64 0] 37)) w.heap.size 37 noR :=
  RelAt.made w _ noR rfl (by rw [rowsA_none]; rfl)
end Go.Proofs.YtkaldidcekcpnaaGreatDoor

namespace Go.Proofs.YtkaldidcekcpnaaGreatDoor
set_option maxRecDepth 100000
open Go.RowKit

/-- The slice v holds slices, of which each holds these ints. -/
def Lists (w : World) (v : Value) (LL : List (List Int)) : Prop := ∃ sv : List Value, Row w v LL.length 1 sv ∧ ∀ (k : Nat) (hk : k < LL.length), ∃ u, sv[k]? = some u ∧ Ints w u LL[k]
theorem Lists.below {w w' : World} {v : Value} {LL : List (List Int)} (h : Lists w v LL) (hb : Below w.heap.size w w') : Lists w' v LL := by
  obtain ⟨sv, h1, h2⟩ := h
  exact ⟨sv, h1.below hb, fun k hk => by obtain ⟨u, hu, hi⟩ := h2 k hk; exact ⟨u, hu, hi.below hb⟩⟩
theorem Lists.form {w : World} {v : Value} {LL : List (List Int)} (h : Lists w v LL) : ∃ ao cap, v = .slice ao LL.length cap ∧ LL.length ≤ 9223372036854775807 := by
  obtain ⟨sv, ⟨_, ao, cap, rfl, hm, _, _⟩, _⟩ := h
  exact ⟨ao, cap, rfl, Nat.le_trans hm.1 hm.2⟩
theorem Lists.at {w : World} {ao : Option Addr} {n cap : Nat} {LL : List (List Int)} (h : Lists w (.slice ao n cap) LL) {k : Nat} (hk : k < LL.length) :
    ∃ b off u, ao = some ⟨b, off, none⟩ ∧ w.cell? ⟨b, off + k, none⟩ = some u ∧ Ints w u LL[k] := by
  obtain ⟨sv, ⟨_, ao', cap', he, _, _, hc⟩, h2⟩ := h
  cases he
  obtain ⟨b, off, e, hcell⟩ := hc (by omega)
  obtain ⟨u, hu, hi⟩ := h2 k hk
  exact ⟨b, off, u, e, by rw [hcell k (by omega), hu], hi⟩
/-- Pairs of lists: whom each sees. -/
def insP (o : List Pr) (i : Int) (l : List Int) : List Pr := l.foldl (fun o a => putP o a i) o
theorem insP_succ (o : List Pr) (i : Int) (l : List Int) (k : Nat) (hk : k < l.length) : insP o i (l.take (k + 1)) = putP (insP o i (l.take k)) l[k] i := by
  unfold insP
  rw [List.take_succ_eq_append_getElem hk, List.foldl_append]; rfl
theorem insP_len (i : Int) : ∀ (l : List Int) (o : List Pr), (insP o i l).length ≤ o.length + l.length
  | [], o => by simp [insP]
  | a :: l, o => by
    have h1 := insP_len i l (putP o a i)
    have h2 := (putP_len o a i).1
    have e : insP o i (a :: l) = insP (putP o a i) i l := rfl
    rw [e, List.length_cons]; omega
def pairsL (LL : List (List Int)) : Nat → List Pr
  | 0 => []
  | k + 1 => insP (pairsL LL k) (k : Int) (LL.getD k [])
def okRow (n : Nat) (l : List Int) : Bool := l.all fun a => decide (0 ≤ a) && decide (a < (n : Int))
def okL (n : Nat) (LL : List (List Int)) : Bool := decide (LL.length = n) && LL.all (okRow n)
theorem rep_none : Rep noR [] := ⟨List.nodup_nil, fun a b => by simp [noR]⟩
theorem rep_put {V : Mat} {m : List Pr} (h : Rep V m) {a b : Int} (ha : 0 ≤ a ∧ a < 64) (hb : 0 ≤ b ∧ b < 64) : Rep (addM V a b) (putP m a b) := by
  have := rep_add h a b
  unfold putM at this
  rwa [(mayB_iff a).2 ha, (mayB_iff b).2 hb, if_pos (by rfl)] at this
/-- A relation that is changed leaves ints as they are. -/
theorem Ints.relApart {w w' : World} {v : Value} {l : List Int} {g : Nat} {V : Mat} (h : Ints w v l) (hV : RelAt w g 37 V) (hg : w.grownBy w' (some g)) : Ints w' v l := by
  obtain ⟨hl, ao, cap, rfl, hm, hno, hc⟩ := h
  refine ⟨hl, ao, cap, rfl, hm, hno, fun hn => ?_⟩
  obtain ⟨b, off, rfl, hcell⟩ := hc hn
  refine ⟨b, off, rfl, fun i hi => ?_⟩
  have h2 := hcell i hi
  rw [List.getElem?_eq_getElem (by omega)] at h2 ⊢
  refine hg.cell h2 (fun e => ?_)
  obtain rfl : b = g := by simpa using e
  rw [List.getElem_map, cell_of_row w b (off + i) _ _ _ hV] at h2
  obtain ⟨n, hn2⟩ := rowsA_u64 V h2
  cases hn2
theorem results_rel2 {fn : Func} {p u : Tmp} (h : fn.results = #[.cell p 37, .tmp u]) (tmps : Array Value) (w : World) (g : Nat) (R : Mat)
    (hp : tmps.getD p undef = .pointer (some ⟨g, 0, none⟩)) (hg : RelAt w g 37 R) : (results fn tmps).run Tryz.prog w = .ok (.tuple #[.agg (rowsA R), tmps.getD u undef]) w := by
  have hp' : tmps[p]?.getD undef = .pointer (some ⟨g, 0, none⟩) := by simpa using hp
  simp [results, h, hp', asAddr, run_loadVar_row w g _ 37 (rowsA R) _ _ hg Tryz.underlying37 rfl (infoRel' _)]
set_option maxRecDepth 100000 in
set_option maxHeartbeats 16000000 in
theorem arelation_any (n : Nat) (hn : n ≤ 64) (vs : Value) (LL : List (List Int)) (w : World) (hL : Lists w vs LL) :
    Calls Tryz.prog 115 #[.int .i64 n, vs] w fun e w' => (∃ R, e = .returned (.tuple #[.agg (rowsA R), .bool (okL n LL)]) ∧ (okL n LL = true → Rep R (pairsL LL n))) ∧ Below w.heap.size w w' := by
  obtain ⟨ao, cap, rfl, hll⟩ := hL.form
  have HL := Lib.hid (fun wx (hx : Below w.heap.size w wx) => hL.below hx)
  have HR : Hid (okL n LL = (decide (LL.length = n) && LL.all (okRow n))) := Lib.hid rfl
  clear hL
  go_enter Tryz.func115, Tryz.ntmps115
  by_cases hne : LL.length = n
  rotate_left
  · have h0 := (zero_block w).alloc (.cells #[.int .u64 0, .int .u64 0, .int .u64 0, .int .u64 0, .int .u64 0, .int .u64 0, .int .u64 0, .int .u64 0, .int .u64 0, .int .u64 0, .int .u64 0, .int .u64 0, .int .u64 0, .int .u64 0, .int .u64 0, .int .u64 0, .int .u64 0, .int .u64 0, .int .u64 0, .int .u64 0, .int .u64 0, .int .u64 0, .int .u64 0, .int .u64 0, .int .u64 0, .int .u64 0, .int .u64 0, .int .u64 0, .int .u64 0, .int .u64 0, .int .u64 0, .int .u64 0, .int .u64 0, .int .u64 0, .int .u64 0, .int .u64 0, .int .u64 0, .int .u64 0, .int .u64 0, .int .u64 0, .int .u64 0, .int .u64 0, .int .u64 0, .int .u64 0, .int .u64 0, .int .u64 0, .int .u64 0, .int .u64 0, .int .u64 0, .int .u64 0, .int .u64 0, .int .u64 0, .int .u64 0, .int .u64 0, .int .u64 0, .int .u64 0, .int .u64 0, .int .u64 0, .int .u64 0, .int .u64 0, .int .u64 0, .int .u64 0, .int .u64 0, .int .u64 0] 37)
    have h1 := zero_block (w.alloc (.cells #[.int .u64 0, .int .u64 0, .int .u64 0, .int .u64 0, .int .u64 0, .int .u64 0, .int .u64 0, .int .u64 0, .int .u64 0, .int .u64 0, .int .u64 0, .int .u64 0, .int .u64 0, .int .u64 0, .int .u64 0, .int .u64 0, .int .u64 0, .int .u64 0, .int .u64 0, .int .u64 0, .int .u64 0, .int .u64 0, .int .u64 0, .int .u64 0, .int .u64 0, .int .u64 0, .int .u64 0, .int .u64 0, .int .u64 0, .int .u64 0, .int .u64 0, .int .u64 0, .int .u64 0, .int .u64 0, .int .u64 0, .int .u64 0, .int .u64 0, .int .u64 0, .int .u64 0, .int .u64 0, .int .u64 0, .int .u64 0, .int .u64 0, .int .u64 0, .int .u64 0, .int .u64 0, .int .u64 0, .int .u64 0, .int .u64 0, .int .u64 0, .int .u64 0, .int .u64 0, .int .u64 0, .int .u64 0, .int .u64 0, .int .u64 0, .int .u64 0, .int .u64 0, .int .u64 0, .int .u64 0, .int .u64 0, .int .u64 0, .int .u64 0, .int .u64 0] 37))
    have hb := ((Below.refl w.heap.size w).alloc (Nat.le_refl _) (.cells #[.int .u64 0, .int .u64 0, .int .u64 0, .int .u64 0, .int .u64 0, .int .u64 0, .int .u64 0, .int .u64 0, .int .u64 0, .int .u64 0, .int .u64 0, .int .u64 0, .int .u64 0, .int .u64 0, .int .u64 0, .int .u64 0, .int .u64 0, .int .u64 0, .int .u64 0, .int .u64 0, .int .u64 0, .int .u64 0, .int .u64 0, .int .u64 0, .int .u64 0, .int .u64 0, .int .u64 0, .int .u64 0, .int .u64 0, .int .u64 0, .int .u64 0, .int .u64 0, .int .u64 0, .int .u64 0, .int .u64 0, .int .u64 0, .int .u64 0, .int .u64 0, .int .u64 0, .int .u64 0, .int .u64 0, .int .u64 0, .int .u64 0, .int .u64 0, .int .u64 0, .int .u64 0, .int .u64 0, .int .u64 0, .int .u64 0, .int .u64 0, .int .u64 0, .int .u64 0, .int .u64 0, .int .u64 0, .int .u64 0, .int .u64 0, .int .u64 0, .int .u64 0, .int .u64 0, .int .u64 0, .int .u64 0, .int .u64 0, .int .u64 0, .int .u64 0] 37)).alloc (by simp) (.cells #[.int .u64 0, .int .u64 0, .int .u64 0, .int .u64 0, .int .u64 0, .int .u64 0, .int .u64 0, .int .u64 0, .int .u64 0, .int .u64 0, .int .u64 0, .int .u64 0, .int .u64 0, .int .u64 0, .int .u64 0, .int .u64 0, .int .u64 0, .int .u64 0, .int .u64 0, .int .u64 0, .int .u64 0, .int .u64 0, .int .u64 0, .int .u64 0, .int .u64 0, .int .u64 0, .int .u64 0, .int .u64 0, .int .u64 0, .int .u64 0, .int .u64 0, .int .u64 0, .int .u64 0, .int .u64 0, .int .u64 0, .int .u64 0, .int .u64 0, .int .u64 0, .int .u64 0, .int .u64 0, .int .u64 0, .int .u64 0, .int .u64 0, .int .u64 0, .int .u64 0, .int .u64 0, .int .u64 0, .int .u64 0, .int .u64 0, .int .u64 0, .int .u64 0, .int .u64 0, .int .u64 0, .int .u64 0, .int .u64 0, .int .u64 0, .int .u64 0, .int .u64 0, .int .u64 0, .int .u64 0, .int .u64 0, .int .u64 0, .int .u64 0, .int .u64 0] 37)
    have hsz : (w.alloc (.cells #[.int .u64 0, .int .u64 0, .int .u64 0, .int .u64 0, .int .u64 0, .int .u64 0, .int .u64 0, .int .u64 0, .int .u64 0, .int .u64 0, .int .u64 0, .int .u64 0, .int .u64 0, .int .u64 0, .int .u64 0, .int .u64 0, .int .u64 0, .int .u64 0, .int .u64 0, .int .u64 0, .int .u64 0, .int .u64 0, .int .u64 0, .int .u64 0, .int .u64 0, .int .u64 0, .int .u64 0, .int .u64 0, .int .u64 0, .int .u64 0, .int .u64 0, .int .u64 0, .int .u64 0, .int .u64 0, .int .u64 0, .int .u64 0, .int .u64 0, .int .u64 0, .int .u64 0, .int .u64 0, .int .u64 0, .int .u64 0, .int .u64 0, .int .u64 0, .int .u64 0, .int .u64 0, .int .u64 0, .int .u64 0, .int .u64 0, .int .u64 0, .int .u64 0, .int .u64 0, .int .u64 0, .int .u64 0, .int .u64 0, .int .u64 0, .int .u64 0, .int .u64 0, .int .u64 0, .int .u64 0, .int .u64 0, .int .u64 0, .int .u64 0, .int .u64 0] 37)).heap.size = w.heap.size + 1 := by simp
    rw [hsz] at h1
    have hnb : ((LL.length : Int) != (n : Int)) = true := by rw [bne_iff_ne]; omega
    have hnq : ¬ (LL.length : Int) = (n : Int) := by omega
    have HV : Hid (okL n LL = false) := Lib.hid (by rw [HR.out, decide_eq_false hne]; rfl)
    clear HR hne
    go_upto_region 2 with fail
    generalize (w.alloc (.cells #[.int .u64 0, .int .u64 0, .int .u64 0, .int .u64 0, .int .u64 0, .int .u64 0, .int .u64 0, .int .u64 0, .int .u64 0, .int .u64 0, .int .u64 0, .int .u64 0, .int .u64 0, .int .u64 0, .int .u64 0, .int .u64 0, .int .u64 0, .int .u64 0, .int .u64 0, .int .u64 0, .int .u64 0, .int .u64 0, .int .u64 0, .int .u64 0, .int .u64 0, .int .u64 0, .int .u64 0, .int .u64 0, .int .u64 0, .int .u64 0, .int .u64 0, .int .u64 0, .int .u64 0, .int .u64 0, .int .u64 0, .int .u64 0, .int .u64 0, .int .u64 0, .int .u64 0, .int .u64 0, .int .u64 0, .int .u64 0, .int .u64 0, .int .u64 0, .int .u64 0, .int .u64 0, .int .u64 0, .int .u64 0, .int .u64 0, .int .u64 0, .int .u64 0, .int .u64 0, .int .u64 0, .int .u64 0, .int .u64 0, .int .u64 0, .int .u64 0, .int .u64 0, .int .u64 0, .int .u64 0, .int .u64 0, .int .u64 0, .int .u64 0, .int .u64 0] 37)).alloc (.cells #[.int .u64 0, .int .u64 0, .int .u64 0, .int .u64 0, .int .u64 0, .int .u64 0, .int .u64 0, .int .u64 0, .int .u64 0, .int .u64 0, .int .u64 0, .int .u64 0, .int .u64 0, .int .u64 0, .int .u64 0, .int .u64 0, .int .u64 0, .int .u64 0, .int .u64 0, .int .u64 0, .int .u64 0, .int .u64 0, .int .u64 0, .int .u64 0, .int .u64 0, .int .u64 0, .int .u64 0, .int .u64 0, .int .u64 0, .int .u64 0, .int .u64 0, .int .u64 0, .int .u64 0, .int .u64 0, .int .u64 0, .int .u64 0, .int .u64 0, .int .u64 0, .int .u64 0, .int .u64 0, .int .u64 0, .int .u64 0, .int .u64 0, .int .u64 0, .int .u64 0, .int .u64 0, .int .u64 0, .int .u64 0, .int .u64 0, .int .u64 0, .int .u64 0, .int .u64 0, .int .u64 0, .int .u64 0, .int .u64 0, .int .u64 0, .int .u64 0, .int .u64 0, .int .u64 0, .int .u64 0, .int .u64 0, .int .u64 0, .int .u64 0, .int .u64 0] 37) = w1 at *
    clear hsz
    go_wp2_with (first
        | (with_reducible refine wpList_load_rel h1 rfl _ rfl rfl ?_)
        | (with_reducible refine wpList_store_rel h0 noR rfl _ _ rfl rfl rfl ?_))
    have h3 := h0.setRow noR
    exact bodyPost_ret (results_rel2 rfl _ _ _ _ rfl h3) rfl ⟨⟨noR, by rw [HV.out]; rfl, fun h => by rw [HV.out] at h; cases h⟩, below_setRow hb (by omega) _⟩
  have hnb : ((LL.length : Int) != (n : Int)) = false := by rw [bne_eq_false_iff_eq]; omega
  have hnq : (LL.length : Int) = (n : Int) := by omega
  rw [decide_eq_true hne, Bool.true_and] at HR
  have HNE := Lib.hid hne
  have HZ0 : Hid (#[.int .u64 0, .int .u64 0, .int .u64 0, .int .u64 0, .int .u64 0, .int .u64 0, .int .u64 0, .int .u64 0, .int .u64 0, .int .u64 0, .int .u64 0, .int .u64 0, .int .u64 0, .int .u64 0, .int .u64 0, .int .u64 0, .int .u64 0, .int .u64 0, .int .u64 0, .int .u64 0, .int .u64 0, .int .u64 0, .int .u64 0, .int .u64 0, .int .u64 0, .int .u64 0, .int .u64 0, .int .u64 0, .int .u64 0, .int .u64 0, .int .u64 0, .int .u64 0, .int .u64 0, .int .u64 0, .int .u64 0, .int .u64 0, .int .u64 0, .int .u64 0, .int .u64 0, .int .u64 0, .int .u64 0, .int .u64 0, .int .u64 0, .int .u64 0, .int .u64 0, .int .u64 0, .int .u64 0, .int .u64 0, .int .u64 0, .int .u64 0, .int .u64 0, .int .u64 0, .int .u64 0, .int .u64 0, .int .u64 0, .int .u64 0, .int .u64 0, .int .u64 0, .int .u64 0, .int .u64 0, .int .u64 0, .int .u64 0, .int .u64 0, .int .u64 0] = rowsA noR) := Lib.hid (by rw [rowsA_none]; rfl)
  clear hne
  have h0 := (zero_block w).alloc (.cells #[.int .u64 0, .int .u64 0, .int .u64 0, .int .u64 0, .int .u64 0, .int .u64 0, .int .u64 0, .int .u64 0, .int .u64 0, .int .u64 0, .int .u64 0, .int .u64 0, .int .u64 0, .int .u64 0, .int .u64 0, .int .u64 0, .int .u64 0, .int .u64 0, .int .u64 0, .int .u64 0, .int .u64 0, .int .u64 0, .int .u64 0, .int .u64 0, .int .u64 0, .int .u64 0, .int .u64 0, .int .u64 0, .int .u64 0, .int .u64 0, .int .u64 0, .int .u64 0, .int .u64 0, .int .u64 0, .int .u64 0, .int .u64 0, .int .u64 0, .int .u64 0, .int .u64 0, .int .u64 0, .int .u64 0, .int .u64 0, .int .u64 0, .int .u64 0, .int .u64 0, .int .u64 0, .int .u64 0, .int .u64 0, .int .u64 0, .int .u64 0, .int .u64 0, .int .u64 0, .int .u64 0, .int .u64 0, .int .u64 0, .int .u64 0, .int .u64 0, .int .u64 0, .int .u64 0, .int .u64 0, .int .u64 0, .int .u64 0, .int .u64 0, .int .u64 0] 37)
  have h1 := zero_block (w.alloc (.cells #[.int .u64 0, .int .u64 0, .int .u64 0, .int .u64 0, .int .u64 0, .int .u64 0, .int .u64 0, .int .u64 0, .int .u64 0, .int .u64 0, .int .u64 0, .int .u64 0, .int .u64 0, .int .u64 0, .int .u64 0, .int .u64 0, .int .u64 0, .int .u64 0, .int .u64 0, .int .u64 0, .int .u64 0, .int .u64 0, .int .u64 0, .int .u64 0, .int .u64 0, .int .u64 0, .int .u64 0, .int .u64 0, .int .u64 0, .int .u64 0, .int .u64 0, .int .u64 0, .int .u64 0, .int .u64 0, .int .u64 0, .int .u64 0, .int .u64 0, .int .u64 0, .int .u64 0, .int .u64 0, .int .u64 0, .int .u64 0, .int .u64 0, .int .u64 0, .int .u64 0, .int .u64 0, .int .u64 0, .int .u64 0, .int .u64 0, .int .u64 0, .int .u64 0, .int .u64 0, .int .u64 0, .int .u64 0, .int .u64 0, .int .u64 0, .int .u64 0, .int .u64 0, .int .u64 0, .int .u64 0, .int .u64 0, .int .u64 0, .int .u64 0, .int .u64 0] 37))
  have hb := ((Below.refl w.heap.size w).alloc (Nat.le_refl _) (.cells #[.int .u64 0, .int .u64 0, .int .u64 0, .int .u64 0, .int .u64 0, .int .u64 0, .int .u64 0, .int .u64 0, .int .u64 0, .int .u64 0, .int .u64 0, .int .u64 0, .int .u64 0, .int .u64 0, .int .u64 0, .int .u64 0, .int .u64 0, .int .u64 0, .int .u64 0, .int .u64 0, .int .u64 0, .int .u64 0, .int .u64 0, .int .u64 0, .int .u64 0, .int .u64 0, .int .u64 0, .int .u64 0, .int .u64 0, .int .u64 0, .int .u64 0, .int .u64 0, .int .u64 0, .int .u64 0, .int .u64 0, .int .u64 0, .int .u64 0, .int .u64 0, .int .u64 0, .int .u64 0, .int .u64 0, .int .u64 0, .int .u64 0, .int .u64 0, .int .u64 0, .int .u64 0, .int .u64 0, .int .u64 0, .int .u64 0, .int .u64 0, .int .u64 0, .int .u64 0, .int .u64 0, .int .u64 0, .int .u64 0, .int .u64 0, .int .u64 0, .int .u64 0, .int .u64 0, .int .u64 0, .int .u64 0, .int .u64 0, .int .u64 0, .int .u64 0] 37)).alloc (by simp) (.cells #[.int .u64 0, .int .u64 0, .int .u64 0, .int .u64 0, .int .u64 0, .int .u64 0, .int .u64 0, .int .u64 0, .int .u64 0, .int .u64 0, .int .u64 0, .int .u64 0, .int .u64 0, .int .u64 0, .int .u64 0, .int .u64 0, .int .u64 0, .int .u64 0, .int .u64 0, .int .u64 0, .int .u64 0, .int .u64 0, .int .u64 0, .int .u64 0, .int .u64 0, .int .u64 0, .int .u64 0, .int .u64 0, .int .u64 0, .int .u64 0, .int .u64 0, .int .u64 0, .int .u64 0, .int .u64 0, .int .u64 0, .int .u64 0, .int .u64 0, .int .u64 0, .int .u64 0, .int .u64 0, .int .u64 0, .int .u64 0, .int .u64 0, .int .u64 0, .int .u64 0, .int .u64 0, .int .u64 0, .int .u64 0, .int .u64 0, .int .u64 0, .int .u64 0, .int .u64 0, .int .u64 0, .int .u64 0, .int .u64 0, .int .u64 0, .int .u64 0, .int .u64 0, .int .u64 0, .int .u64 0, .int .u64 0, .int .u64 0, .int .u64 0, .int .u64 0] 37)
  have hsz : (w.alloc (.cells #[.int .u64 0, .int .u64 0, .int .u64 0, .int .u64 0, .int .u64 0, .int .u64 0, .int .u64 0, .int .u64 0, .int .u64 0, .int .u64 0, .int .u64 0, .int .u64 0, .int .u64 0, .int .u64 0, .int .u64 0, .int .u64 0, .int .u64 0, .int .u64 0, .int .u64 0, .int .u64 0, .int .u64 0, .int .u64 0, .int .u64 0, .int .u64 0, .int .u64 0, .int .u64 0, .int .u64 0, .int .u64 0, .int .u64 0, .int .u64 0, .int .u64 0, .int .u64 0, .int .u64 0, .int .u64 0, .int .u64 0, .int .u64 0, .int .u64 0, .int .u64 0, .int .u64 0, .int .u64 0, .int .u64 0, .int .u64 0, .int .u64 0, .int .u64 0, .int .u64 0, .int .u64 0, .int .u64 0, .int .u64 0, .int .u64 0, .int .u64 0, .int .u64 0, .int .u64 0, .int .u64 0, .int .u64 0, .int .u64 0, .int .u64 0, .int .u64 0, .int .u64 0, .int .u64 0, .int .u64 0, .int .u64 0, .int .u64 0, .int .u64 0, .int .u64 0] 37)).heap.size = w.heap.size + 1 := by simp
  rw [hsz] at h1
  go_wp2_with fail
  generalize (w.alloc (.cells #[.int .u64 0, .int .u64 0, .int .u64 0, .int .u64 0, .int .u64 0, .int .u64 0, .int .u64 0, .int .u64 0, .int .u64 0, .int .u64 0, .int .u64 0, .int .u64 0, .int .u64 0, .int .u64 0, .int .u64 0, .int .u64 0, .int .u64 0, .int .u64 0, .int .u64 0, .int .u64 0, .int .u64 0, .int .u64 0, .int .u64 0, .int .u64 0, .int .u64 0, .int .u64 0, .int .u64 0, .int .u64 0, .int .u64 0, .int .u64 0, .int .u64 0, .int .u64 0, .int .u64 0, .int .u64 0, .int .u64 0, .int .u64 0, .int .u64 0, .int .u64 0, .int .u64 0, .int .u64 0, .int .u64 0, .int .u64 0, .int .u64 0, .int .u64 0, .int .u64 0, .int .u64 0, .int .u64 0, .int .u64 0, .int .u64 0, .int .u64 0, .int .u64 0, .int .u64 0, .int .u64 0, .int .u64 0, .int .u64 0, .int .u64 0, .int .u64 0, .int .u64 0, .int .u64 0, .int .u64 0, .int .u64 0, .int .u64 0, .int .u64 0, .int .u64 0] 37)).alloc (.cells #[.int .u64 0, .int .u64 0, .int .u64 0, .int .u64 0, .int .u64 0, .int .u64 0, .int .u64 0, .int .u64 0, .int .u64 0, .int .u64 0, .int .u64 0, .int .u64 0, .int .u64 0, .int .u64 0, .int .u64 0, .int .u64 0, .int .u64 0, .int .u64 0, .int .u64 0, .int .u64 0, .int .u64 0, .int .u64 0, .int .u64 0, .int .u64 0, .int .u64 0, .int .u64 0, .int .u64 0, .int .u64 0, .int .u64 0, .int .u64 0, .int .u64 0, .int .u64 0, .int .u64 0, .int .u64 0, .int .u64 0, .int .u64 0, .int .u64 0, .int .u64 0, .int .u64 0, .int .u64 0, .int .u64 0, .int .u64 0, .int .u64 0, .int .u64 0, .int .u64 0, .int .u64 0, .int .u64 0, .int .u64 0, .int .u64 0, .int .u64 0, .int .u64 0, .int .u64 0, .int .u64 0, .int .u64 0, .int .u64 0, .int .u64 0, .int .u64 0, .int .u64 0, .int .u64 0, .int .u64 0, .int .u64 0, .int .u64 0, .int .u64 0, .int .u64 0] 37) = w1 at *
  clear hsz
  go_loopw [18] (fun iv wr => ∃ (i : Nat) (R : Mat), i ≤ n ∧ iv = .int .i64 i ∧ RelAt wr (w.heap.size + 1) 37 R ∧ RelAt wr w.heap.size 37 noR ∧ Hid (Rep R (pairsL LL i)) ∧ Hid ((LL.take i).all (okRow n) = true) ∧ Below w.heap.size w wr) (fun iv _ => n - (intOf iv).toNat)
  case atStart => exact ⟨0, noR, by omega, rfl, h1, h0, Lib.hid rep_none, Lib.hid rfl, hb⟩
  case round =>
    clear h1 h0 hb
    obtain ⟨i, R, hi, rfl, h1, h0, HP, HA, hb⟩ := hrel
    by_cases hlt : i < n
    · have hii : (i : Int) < (n : Int) := by omega
      have hil : i < LL.length := by have := HNE.out; omega
      have hli : (i : Int) < (LL.length : Int) := by omega
      obtain ⟨g, o, u, hao, c1, hI⟩ := (HL.out _ hb).at hil
      cases hao
      have HYES := Lib.hid (fun hy : okRow n LL[i] = true => show (LL.take (i + 1)).all (okRow n) = true by rw [List.take_succ_eq_append_getElem hil, List.all_append, HA.out]; simp [hy])
      have HNO := Lib.hid (fun hy : okRow n LL[i] = false => show okL n LL = false by rw [HR.out, List.all_eq_false]; exact ⟨_, List.getElem_mem hil, by rw [hy]; decide⟩)
      have HPS : Hid (pairsL LL (i + 1) = insP (pairsL LL i) (i : Int) LL[i]) := Lib.hid (by
        show insP (pairsL LL i) (i : Int) (LL.getD i []) = _
        rw [List.getD_eq_getElem?_getD, List.getElem?_eq_getElem hil]; rfl)
      clear HA
      generalize LL[i] = l at *
      obtain ⟨ro, rcap, rfl, hlm⟩ := hI.form
      have HI := Lib.hid (fun wx (hx : Below wr.heap.size wr wx) => hI.below hx)
      have hbr := Below.refl wr.heap.size wr
      generalize pairsL LL i = P at *
      clear hI
      go_wp2_with fail
      go_loopw [25] (fun kv wx => ∃ (k : Nat) (R : Mat), k ≤ l.length ∧ kv = .int .i64 k ∧ RelAt wx (w.heap.size + 1) 37 R ∧ RelAt wx w.heap.size 37 noR ∧ Hid (Rep R (insP P (i : Int) (l.take k))) ∧ Hid (okRow n (l.take k) = true) ∧ Below w.heap.size w wx ∧ Ints wx (.slice ro l.length rcap) l) (fun kv _ => l.length - (intOf kv).toNat)
      case atStart => exact ⟨0, R, by omega, rfl, h1, h0, HP, Lib.hid rfl, hb, HI.out _ hbr⟩
      case round =>
        clear h1 h0 hb HP c1 HI hbr
        obtain ⟨k, R, hk, rfl, h1, h0, HP, HA, hb, hI⟩ := hrel
        by_cases hlk : k < l.length
        · have hkk : (k : Int) < (l.length : Int) := by omega
          obtain ⟨g2, o2, hao2, e1⟩ := hI.at hlk
          cases hao2
          have HS := Lib.hid (fun (h0 : 0 ≤ l[k]) (h1 : l[k] < (n : Int)) => show okRow n (l.take (k + 1)) = true by
            have := HA.out
            unfold okRow at *
            rw [List.take_succ_eq_append_getElem hlk, List.all_append, this]
            simp [h0, h1])
          have HN := Lib.hid (fun (hb : ¬ (0 ≤ l[k] ∧ l[k] < (n : Int))) => HNO.out (by
            unfold okRow
            rw [List.all_eq_false]
            refine ⟨_, List.getElem_mem hlk, ?_⟩
            simp only [Bool.and_eq_true, decide_eq_true_eq]
            exact hb))
          have HI2 := Lib.hid (insP_succ P (i : Int) l k hlk)
          generalize l[k] = a at *
          have hIg := Lib.hid hI
          by_cases ha0 : a < 0
          · have HV : Hid (okL n LL = false) := Lib.hid (HN.out (by omega))
            clear HS HN HI2 HA HP hI hIg
            have hz0 := HZ0.out
            go_wp2_with (first | (with_reducible refine wpList_store_rel h0 noR rfl _ _ rfl rfl rfl ?_))
            have h3 := h0.setRow noR
            exact bodyPost_ret (results_rel2 rfl _ _ _ _ rfl h3) rfl ⟨⟨noR, by rw [HV.out]; rfl, fun h => by rw [HV.out] at h; cases h⟩, below_setRow hb (by omega) _⟩
          by_cases han : (n : Int) ≤ a
          · have HV : Hid (okL n LL = false) := Lib.hid (HN.out (by omega))
            clear HS HN HI2 HA HP hI hIg
            have hz0 := HZ0.out
            go_wp2_with (first | (with_reducible refine wpList_store_rel h0 noR rfl _ _ rfl rfl rfl ?_))
            have h3 := h0.setRow noR
            exact bodyPost_ret (results_rel2 rfl _ _ _ _ rfl h3) rfl ⟨⟨noR, by rw [HV.out]; rfl, fun h => by rw [HV.out] at h; cases h⟩, below_setRow hb (by omega) _⟩
          have HA2 := Lib.hid (HS.out (by omega) (by omega))
          have HP2 : Hid (Rep (addM R a (i : Int)) (insP P (i : Int) (l.take (k + 1)))) := Lib.hid (by rw [HI2.out]; exact rep_put HP.out (by omega) (by omega))
          have CA := Lib.hid (add_any R _ a (i : Int) _ h1)
          have hni : ¬ (n : Int) ≤ a := han
          clear HS HN HI2 HA HP hI
          go_wp2_with fail
          refine (CA.out).mono ?_
          rintro e w7 ⟨rfl, h17, hg7⟩
          have h07 : RelAt w7 w.heap.size 37 noR := by
            have := hg7.block w.heap.size h0.lt (by simp)
            unfold RelAt at *
            rw [this]
            exact h0
          have hb7 : Below w.heap.size w w7 := hb.grown hg7 hb.size (by simp)
          have hI7 : Ints w7 (.slice (some ⟨g2, o2, none⟩) l.length rcap) l := hIg.out.relApart h1 hg7
          clear CA h1 h0 hb hg7 e1 hIg
          go_wp2_with fail
          go_roundw
          case rel => exact ⟨k + 1, _, by omega, by go_num, h17, h07, HP2, HA2, hb7, hI7⟩
          case measure => simp [intOf]; omega
        · have hkl : k = l.length := by omega
          subst hkl
          have HA2 := Lib.hid (HYES.out (by have := HA.out; rwa [List.take_length] at this))
          have HP2 : Hid (Rep R (pairsL LL (i + 1))) := Lib.hid (by have := HP.out; rw [List.take_length] at this; rw [HPS.out]; exact this)
          clear HP HA HYES HNO HPS hI
          go_wp2_with fail
          go_roundw
          case rel => exact ⟨i + 1, R, by omega, by go_num, h1, h0, HP2, HA2, hb⟩
          case measure => simp [intOf]; omega
    · have hin : i = n := by omega
      subst hin
      have HV : Hid (okL i LL = true) := Lib.hid (by have := HA.out; rw [← HNE.out, List.take_length] at this; rw [HR.out]; rw [← HNE.out]; exact this)
      have hli : ¬ (i : Int) < (LL.length : Int) := by omega
      clear HA HR
      go_wp2_with (first
        | (with_reducible refine wpList_load_rel h1 rfl _ rfl rfl ?_)
        | (with_reducible refine wpList_store_rel h0 R rfl _ _ rfl rfl rfl ?_))
      have h3 := h0.setRow R
      exact bodyPost_ret (results_rel2 rfl _ _ _ _ rfl h3) rfl ⟨⟨R, by rw [HV.out]; rfl, fun _ => HP.out⟩, below_setRow hb (by omega) _⟩
end Go.Proofs.YtkaldidcekcpnaaGreatDoor

namespace Go.Proofs.YtkaldidcekcpnaaGreatDoor
set_option maxRecDepth 100000
open Go.ChangeShapes Go.WideShapes Go.ChangeAt Go.RowKit Go.Deep

theorem cellsIntW : Tryz.prog.cellsOf 3 = 1 := by kernel_rfl
theorem cellsIntsW : Tryz.prog.cellsOf 32 = 1 := by kernel_rfl
theorem ints_of_cells {H : Type} {enc : TypeId × Value → H} {W : World} {v : Value} {fuel : Nat} {x : DataW H × List MemPlace}
    (hf : DataW.trod enc Tryz.prog W 0 (fun _ => true) true fuel 32 [v] = some x) : ∃ xs, Ints W v xs := by
  rcases open_ints Tryz.underlying32 Tryz.underlying3 cellsIntW hf with ⟨hcs, hx⟩ | ⟨a, len, cap, zs, hcs, _, hl, hm, hz, hx, hcell, hwz⟩
  · obtain rfl : v = .slice none 0 0 := by simpa using hcs
    exact ⟨[], rfl, none, 0, rfl, by simp, (fun _ => ⟨rfl, rfl⟩), (fun h => by simp at h)⟩
  · obtain rfl : v = .slice (some a) len cap := by simpa using hcs
    simp only [if_true] at hz
    have hlen : (zs.take len).length = len := by simp; omega
    refine ⟨zs.take len, by simp, some a, cap, by rw [hlen], by rw [hlen]; omega, (fun h => by cases h), (fun hn => ?_)⟩
    obtain ⟨b, off, spot⟩ := a
    have hspot : spot = none := by simpa [Addr.add] using World.cell?_spot (hcell 0 (by omega))
    subst hspot
    refine ⟨b, off, rfl, fun i hi => ?_⟩
    have hi' : i < len := by omega
    have := hcell i (by omega)
    rw [Addr.add_lit] at this
    rw [this]
    simp [hi', List.getD, List.getElem?_eq_getElem (show i < zs.length by omega)]
theorem lists_of_cells {H : Type} {enc : TypeId × Value → H} {W : World} {v : Value} {fuel : Nat} {x : DataW H × List MemPlace}
    (hf : DataW.trod enc Tryz.prog W 0 (fun _ => true) true fuel 63 [v] = some x) : ∃ LL : List (List Int), Lists W v LL := by
  rcases open_slice Tryz.underlying63 hf with ⟨hcs, _⟩ | ⟨a, len, cap, m, n, D, Pl, hcs, _, hl, hm, hmm, _, hi⟩
  · obtain rfl : v = .slice none 0 0 := by simpa using hcs
    exact ⟨[], [], ⟨rfl, none, 0, rfl, by simp, (fun _ => ⟨rfl, rfl⟩), (fun h => by simp at h)⟩, fun k hk => by cases hk⟩
  · obtain rfl : v = .slice (some a) len cap := by simpa using hcs
    simp only [if_true] at hmm
    have key : ∀ i, ∃ q : Value × List Int, i < len → W.cell? ((a.add (i * 1)).add 0) = some q.1 ∧ Ints W q.1 q.2 := fun i => by
      by_cases hlt : i < len
      · obtain ⟨cs', hc, ht⟩ := hi i (by omega)
        rw [cellsIntsW] at hc
        obtain ⟨_, hcl, hat⟩ := World.cells?_some hc
        match cs', hcl with
        | [u], _ =>
          obtain ⟨xs, hI⟩ := ints_of_cells ht
          exact ⟨(u, xs), fun _ => ⟨hat 0 (by omega), hI⟩⟩
      · exact ⟨(.nilIface, []), fun h => absurd h hlt⟩
    obtain ⟨O, hO⟩ := Classical.skolem.1 key
    obtain ⟨b, off, spot⟩ := a
    have hlen : ((List.range len).map fun i => (O i).2).length = len := by simp
    refine ⟨(List.range len).map fun i => (O i).2, (List.range len).map fun i => (O i).1, ⟨by simp, some ⟨b, off, spot⟩, cap, by rw [hlen], ⟨by rw [hlen]; exact hl, hm⟩, (fun h => by cases h), fun hn => ?_⟩, fun k hk => ?_⟩
    · rw [hlen] at hn
      have hspot : spot = none := by simpa [Addr.add] using World.cell?_spot (hO 0 hn).1
      subst hspot
      refine ⟨b, off, rfl, fun i hii => ?_⟩
      rw [hlen] at hii
      have hi' : i < len := by omega
      have := (hO i hi').1
      simp only [Addr.add_lit] at this
      rw [show off + i = off + i * 1 + 0 by omega, this]
      simp [hi']
    · rw [hlen] at hk
      refine ⟨(O k).1, by simp [hk], ?_⟩
      have := (hO k hk).2
      simpa using this
theorem cellsWit : Tryz.prog.cellsOf 65 = 2 := by kernel_rfl
theorem wit_of_trod {H : Type} {enc : TypeId × Value → H} {W : World} {base : Nat} {v : Value} {d : DataW H} {p : List MemPlace}
    (hval : Value.okWide Tryz.prog W .any base 65 v) (h : DataW.Trod enc Tryz.prog W 0 (fun _ => true) true 65 v d p) :
    ∃ (vo vs : Value) (l : List Int) (LL : List (List Int)), v = .agg #[vo, vs] ∧ Ints W vo l ∧ Lists W vs LL := by
  obtain ⟨v0, v1, y0, y1, n, rfl, hd, _, h0, h1⟩ := Joins.open_agg2 Tryz.underlying65 (by kernel_rfl) cellsWit hval h
  obtain ⟨l, hI⟩ := ints_of_cells h0
  obtain ⟨LL, hL⟩ := lists_of_cells h1
  exact ⟨v0, v1, l, LL, rfl, hI, hL⟩
end Go.Proofs.YtkaldidcekcpnaaGreatDoor

namespace Go.Proofs.YtkaldidcekcpnaaGreatDoor
set_option maxRecDepth 100000

/-- What must be seen: what there is at the start, and what follows. -/
inductive Must (S A : Mat) (tr pf : Bool) : Nat → Nat → Prop
  | base {i j : Nat} : S i j = true → Must S A tr pf i j
  | trans {i m j : Nat} : tr = true → m < 64 → Must S A tr pf i m → Must S A tr pf m j → Must S A tr pf i j
  | pre {i m j : Nat} : pf = true → m < 64 → A i m = true → Must S A tr pf m j → Must S A tr pf i j
def moreT (V : Mat) (tr : Bool) : Mat := if tr then clo V else V
def moreM (V A : Mat) (tr pf : Bool) : Mat := if pf then orR (moreT V tr) (thenR A (moreT V tr)) else moreT V tr
section
variable {S A V : Mat} {tr pf : Bool}
theorem path_must (ht : tr = true) (hV : ∀ i j, i < 64 → j < 64 → V i j = true → Must S A tr pf i j) {i j : Nat} (h : Path V i j) (hi : i < 64) (hj : j < 64) : Must S A tr pf i j := by
  induction h with
  | one h => exact hV _ _ hi hj h
  | more h h2 _ ih => exact .trans ht h2 (hV _ _ hi h2 h) (ih h2 hj)
theorem moreT_sound (hV : ∀ i j, i < 64 → j < 64 → V i j = true → Must S A tr pf i j) (i j : Nat) (hi : i < 64) (hj : j < 64) (h : moreT V tr i j = true) : Must S A tr pf i j := by
  cases tr with
  | false => exact hV i j hi hj h
  | true => exact path_must rfl hV ((clo_iff V i j).1 h) hi hj
theorem thenR_iff (R S : Mat) (i j : Nat) : thenR R S i j = true ↔ ∃ m, m < 64 ∧ R i m = true ∧ S m j = true := by
  unfold thenR
  rw [List.any_eq_true]
  constructor
  · rintro ⟨m, hm, h⟩
    rw [Bool.and_eq_true] at h
    exact ⟨m, List.mem_range.1 hm, h.1, h.2⟩
  · rintro ⟨m, hm, h1, h2⟩
    exact ⟨m, List.mem_range.2 hm, by rw [h1, h2]; rfl⟩
theorem orR_iff (R S : Mat) (i j : Nat) : orR R S i j = true ↔ R i j = true ∨ S i j = true := by
  unfold orR; rw [Bool.or_eq_true]
theorem moreM_sound (hV : ∀ i j, i < 64 → j < 64 → V i j = true → Must S A tr pf i j) (i j : Nat) (hi : i < 64) (hj : j < 64) (h : moreM V A tr pf i j = true) : Must S A tr pf i j := by
  cases pf with
  | false => exact moreT_sound hV i j hi hj h
  | true =>
    rcases (orR_iff _ _ _ _).1 h with h | h
    · exact moreT_sound hV i j hi hj h
    · obtain ⟨m, hm, h1, h2⟩ := (thenR_iff _ _ _ _).1 h
      exact .pre rfl hm h1 (moreT_sound hV m j hm hj h2)
theorem moreT_grows {i j : Nat} (h : V i j = true) : moreT V tr i j = true := by
  cases tr with
  | false => exact h
  | true => exact cloTo_sub V i j h 64
theorem moreM_grows {i j : Nat} (h : V i j = true) : moreM V A tr pf i j = true := by
  cases pf with
  | false => exact moreT_grows h
  | true => exact (orR_iff _ _ _ _).2 (.inl (moreT_grows h))
theorem more_done (hS : ∀ i j, i < 64 → j < 64 → S i j = true → V i j = true) (hf : rowsA (moreM V A tr pf) = rowsA V) {i j : Nat} (h : Must S A tr pf i j) (hi : i < 64) (hj : j < 64) : V i j = true := by
  induction h with
  | base h => exact hS _ _ hi hj h
  | @trans i m j ht hm _ _ ih1 ih2 =>
    rw [← rowsA_inj hf i j hi hj]
    have hp : moreT V tr i j = true := by
      rw [ht]
      exact (clo_iff V i j).2 ((Path.one (ih1 hi hm)).trans hm (.one (ih2 hm hj)))
    cases pf with
    | false => exact hp
    | true => exact (orR_iff _ _ _ _).2 (.inl hp)
  | @pre i m j hp hm ha _ ih =>
    rw [← rowsA_inj hf i j hi hj]
    rw [hp]
    exact (orR_iff _ _ _ _).2 (.inr ((thenR_iff _ _ _ _).2 ⟨m, hm, ha, moreT_grows (ih hm hj)⟩))
end
theorem filter_le {α : Type} {p q : α → Bool} : ∀ (l : List α), (∀ a ∈ l, p a = true → q a = true) → (l.filter p).length ≤ (l.filter q).length
  | [], _ => by simp
  | a :: l, h => by
    have ih := filter_le l (fun b hb => h b (List.mem_cons_of_mem _ hb))
    have ha := h a List.mem_cons_self
    cases hp : p a with
    | true => rw [List.filter_cons_of_pos hp, List.filter_cons_of_pos (ha hp)]; simpa using ih
    | false =>
      rw [List.filter_cons_of_neg (by simp [hp])]
      cases hq : q a with
      | true => rw [List.filter_cons_of_pos hq]; simp; omega
      | false => rw [List.filter_cons_of_neg (by simp [hq])]; exact ih
theorem filter_lt {α : Type} {p q : α → Bool} : ∀ (l : List α), (∀ a ∈ l, p a = true → q a = true) → ∀ x ∈ l, q x = true → p x = false → (l.filter p).length < (l.filter q).length
  | [], _, _, hx, _, _ => by cases hx
  | a :: l, h, x, hx, hq, hp => by
    have h2 := fun b hb => h b (List.mem_cons_of_mem a hb)
    rcases List.mem_cons.1 hx with rfl | hx
    · rw [List.filter_cons_of_neg (by simp [hp]), List.filter_cons_of_pos hq]
      have := filter_le l h2
      simp; omega
    · have ih := filter_lt l h2 x hx hq hp
      have ha := h a List.mem_cons_self
      cases hp1 : p a with
      | true => rw [List.filter_cons_of_pos hp1, List.filter_cons_of_pos (ha hp1)]; simpa using ih
      | false =>
        rw [List.filter_cons_of_neg (by simp [hp1])]
        cases hq1 : q a with
        | true => rw [List.filter_cons_of_pos hq1]; simp; omega
        | false => rw [List.filter_cons_of_neg (by simp [hq1])]; exact ih
/-- How many pairs there are. -/
def cntP (R : Mat) : Nat := ((List.range 4096).filter fun n => R (n / 64) (n % 64)).length
theorem cntP_lt {R S : Mat} (h : ∀ i j, R i j = true → S i j = true) (hne : rowsA R ≠ rowsA S) : cntP R < cntP S := by
  by_cases hx : ∃ i j, i < 64 ∧ j < 64 ∧ S i j = true ∧ R i j = false
  · obtain ⟨i, j, hi, hj, h1, h2⟩ := hx
    have e1 : (i * 64 + j) / 64 = i := by omega
    have e2 : (i * 64 + j) % 64 = j := by omega
    exact filter_lt _ (fun n _ hn => h _ _ hn) (i * 64 + j) (List.mem_range.2 (by omega)) (by rw [e1, e2]; exact h1) (by rw [e1, e2]; exact h2)
  · refine absurd (rowsA_congr fun i j hi hj => ?_) hne
    cases hr : R i j with
    | true => exact (h i j hr).symm
    | false =>
      cases hs : S i j with
      | true => exact absurd ⟨i, j, hi, hj, hs, hr⟩ hx
      | false => rfl
end Go.Proofs.YtkaldidcekcpnaaGreatDoor

namespace Go.Proofs.YtkaldidcekcpnaaGreatDoor
set_option maxRecDepth 100000
open Go.RowKit

/-- An append onto an owned row, at a step of a region that draws: whatever is appended, nothing too. -/
theorem step_app {P : Program} (w : World) {ops : Array Oper} {o : Oper} {a : Act} {K : Act → World → Prop} {Q : Exit → Act → World → Prop} {E : Prop} (hgd : o.guard = none) (s x : Operand) (t : TypeId)
    (ho : o.op = .call { callee := .builtin .append, args := #[s, x], argTypes := #[t, t] })
    (base : Nat) (e : TypeId) (i : TypeInfo) (z : Value) (size bytes : Nat) (ht : P.underlying t = some (.slice e)) (hi : P.info? e = some i) (hz : i.zero = some z)
    (hsize : i.size = size) (hby : i.bytes = bytes) (hzs : z.cells.size = size) (hsz : 0 < size)
    (v : Value) (n : Nat) (xs : List Value) (hs : a.eval s = v) (hown : w.ownsRow base e size v n xs)
    (ad : Addr) (m c : Nat) (news : List Value) (hx : a.eval x = .slice (some ad) m c) (hl : news.length = m * size) (hnews : ∀ j u, news[j]? = some u → w.cell? (ad.add j) = some u) (h1 : ∀ u ∈ news, u.oneCell' = true)
    (h63 : n + m ≤ maxLen) (hbytes : (n + m) * bytes ≤ 140737488355328) (hbase : base ≤ w.heap.size)
    (h : ∀ v' w', w'.ownsRow base e size v' (n + m) (xs ++ news) → w.grownBy w' v.ownBlock → K (a.put o.dst v') w') :
    if Region.wanted o (yielded ops a.tmps) = true then Oper.wp P o a w K Q else E := by
  have hw : Region.wanted o (yielded ops a.tmps) = true := by simp [Region.wanted, hgd]
  rw [if_pos hw]
  obtain ⟨v', w', hr, h2, h3, _⟩ := run_append_own (P := P) w base t o.type e i z size bytes ht hi hz hsize hby hzs hsz v n xs hown ad m c news hl hnews h1 h63 hbytes hbase
  unfold Oper.wp execOp
  simp only [ho, resolve, invoke, builtin, Sem.run_bind, Sem.run_pure, Result.andThen_ok, List.map_toArray, List.map_cons, List.map_nil, hs, hx, hr]
  exact h v' w' h2 h3
/-- The cells of part of a slice, from wherever it lies. -/
theorem Row.part {w : World} {g off : Nat} {n cap size : Nat} {cs : List Value} (h : Row w (.slice (some ⟨g, off, none⟩) n cap) n size cs) (k : Nat) (j : Nat) (u : Value) (hj : (cs.drop (k * size))[j]? = some u) : w.cell? ((⟨g, off + k * size, none⟩ : Addr).add j) = some u := by
  obtain ⟨hl, ao', cap', he, hm, hno, hc⟩ := h
  have hjl : k * size + j < cs.length := by
    have := (List.getElem?_eq_some_iff.1 hj).1
    rw [List.length_drop] at this; omega
  have hn : 0 < n := by
    rcases Nat.eq_zero_or_pos n with h0 | h0
    · subst h0; rw [Nat.zero_mul] at hl; omega
    · exact h0
  obtain ⟨b, o, e, hcell⟩ := hc hn
  obtain ⟨rfl, _⟩ : ao' = some ⟨g, off, none⟩ ∧ cap' = cap := by
    have := he; simp at this; exact ⟨this.1.symm, this.2.symm⟩
  cases e
  rw [Addr.add_lit, Nat.add_assoc, hcell (k * size + j) (by omega), ← hj, List.getElem?_drop]
end Go.Proofs.YtkaldidcekcpnaaGreatDoor

namespace Go.Proofs.YtkaldidcekcpnaaGreatDoor
set_option maxRecDepth 100000
open Go.RowKit

/-- The keys of some operations. -/
def keyV (l : List OpV) : List Value := l.map fun o => .int .i64 o.key
theorem keyV_take (l : List OpV) (k : Nat) (hk : k < l.length) : keyV (l.take (k + 1)) = keyV (l.take k) ++ [.int .i64 l[k].key] := by
  unfold keyV; rw [List.take_succ_eq_append_getElem hk, List.map_append]; rfl
theorem okeys_own {w : World} {base base' : Nat} {v : Value} {e : TypeId} {l : List OpV} (h : w.ownsRow base e 1 v (keyV l).length (keyV l)) (hb : base' ≤ base) : w.ownsRow base' e 1 v l.length (keyV l) := by
  have hkk : (keyV l).length = l.length := by simp [keyV]
  rw [hkk] at h
  obtain ⟨h1, h2⟩ := h
  refine ⟨h1, ?_⟩
  rcases h2 with h2 | ⟨g, cap, cur, e1, e2, r⟩
  · exact .inl h2
  · exact .inr ⟨g, cap, cur, e1, Nat.le_trans hb e2, r⟩
set_option maxHeartbeats 4000000 in
theorem okeys_any (s b c : Int) (va : Value) (l : List OpV) (w : World) (ha : Ops w va l) (hok : ∀ o ∈ l, o.ok) (hlen : l.length ≤ 100000) :
    Calls Tryz.prog 78 #[.agg #[.int .i64 s, .int .i64 b, .int .i64 c, va]] w fun e w' => ∃ v out, e = .returned v ∧ w'.ownsRow w.heap.size 3 1 v out.length (keyV out) ∧ Rise (lastW l) true out ∧ out.length ≤ l.length ∧ Below w.heap.size w w' := by
  obtain ⟨i0, hi, hz0, hz1, hz2⟩ := info_parts infoInt
  obtain ⟨ao, cap, rfl, hal⟩ := ha.form
  have hb0 := box_below w (.cells #[.int .i64 s, .int .i64 b, .int .i64 c, .slice ao l.length cap] 118)
  have CW := Lib.hid (writes_any s b c _ l _ (ha.below hb0) hok hlen)
  clear ha hok
  go_enter Tryz.func78, Tryz.ntmps78
  go_wp2_with fail
  refine (CW.out).mono ?_
  rintro e w1 ⟨v1, out, rfl, hO, hR, hol, hb1⟩
  have hb2 := below_then hb0 hb1
  have HR := Lib.hid (And.intro hR hol)
  have hlim : out.length ≤ 100000 := by omega
  clear CW hb0 hb1 hR hol
  obtain ⟨B, hB⟩ : ∃ B, B = w1.heap.size := ⟨_, rfl⟩
  have hBw : w.heap.size ≤ B := by have := hb2.size; omega
  have hBl : B ≤ w1.heap.size := by omega
  have HB := Lib.hid hB
  clear hB
  have hT := hO.ops
  clear hO
  obtain ⟨a1, cap1, rfl, _⟩ := hT.form
  go_wp2_with fail
  go_loopw [3, 9] (fun v i wr => ∃ k : Nat, k ≤ out.length ∧ i = .int .i64 k ∧ wr.ownsRow B 3 1 v (keyV (out.take k)).length (keyV (out.take k)) ∧ Below B w1 wr)
    (fun _ i _ => out.length - (intOf i).toNat)
  case atStart => exact ⟨0, by omega, rfl, World.ownsRow_nil _ _ _ _, HB.out ▸ Below.refl _ _⟩
  case round =>
    obtain ⟨k, hk, rfl, hown, hb⟩ := hrel
    have hsz := hb.size
    by_cases hlt : k < out.length
    · have hki : (k : Int) < (out.length : Int) := by omega
      obtain ⟨g, o, hao, c0, c1, c2⟩ := (hT.below (HB.out ▸ hb)).at hlt
      cases hao
      have HM := Lib.hid (keyV_take out k hlt)
      have hkl : (keyV (out.take k)).length ≤ 100000 := by simp [keyV]; omega
      generalize out[k].wr = x at *
      generalize out[k].key = y at *
      generalize out[k].val = z at *
      have hbx := hb.alloc (by omega) (.cells #[.bool x, .int .i64 y, .int .i64 z] 114)
      have hownx := hown.alloc (.cells #[.bool x, .int .i64 y, .int .i64 z] 114)
      go_wp2_with (at_builtin; refine wpList_append_own _ rfl _ _ 32 rfl B 3 i0 (.int .i64 0) 1 8 Tryz.underlying32 hi hz0 hz1 hz2 rfl (by decide) _ _ _ rfl (hownx.alloc _) ⟨_, 0, none⟩ 1 1 [.int .i64 y] rfl rfl ?c1 ?c2 ?c3 ?c4 ?c5 ?_)
      case c1 =>
        have e : wr.heap.size + 1 = (wr.alloc (.cells #[.bool x, .int .i64 y, .int .i64 z] 114)).heap.size := by simp
        rw [e]
        exact cell_one_new _ _ _
      case c2 => intro u hu; simp at hu; subst hu; rfl
      case c3 => unfold maxLen; omega
      case c4 => omega
      case c5 => simp; omega
      · intro v' w2 hown' hgrow _
        have hb' := below_app hbx (by omega) hownx hgrow
        clear hown hownx hbx hb hgrow
        go_wp2_with fail
        go_roundw
        case rel =>
          refine ⟨k + 1, by omega, by go_num, ?_, hb'⟩
          rw [HM.out, List.length_append]
          exact hown'
        case measure => simp [intOf]; omega
    · have hkl : k = out.length := by omega
      subst hkl
      rw [List.take_length] at hown
      go_wp2_with fail
      go_ret
      exact ⟨_, out, rfl, okeys_own hown hBw, HR.out.1, HR.out.2, hb2.trans (hb.mono hBw)⟩
end Go.Proofs.YtkaldidcekcpnaaGreatDoor

namespace Go.Proofs.YtkaldidcekcpnaaGreatDoor
set_option maxRecDepth 100000
open Go.RowKit

/-- Of whom a value is read; the keys and whom one reads of, but for oneself. -/
def fromO (F : Int → Option WV) (x : Int) : Int := ((F x).map (·.i)).getD (-1)
def rdFr (F : Int → Option WV) (i : Int) (l : List OpV) : List (Int × Int) := (l.filter fun o => fromO F o.val != i).map fun o => (o.key, fromO F o.val)
def frV (l : List (Int × Int)) : List Value := l.flatMap fun p => [.int .i64 p.1, .int .i64 p.2]
theorem frV_app (l m : List (Int × Int)) : frV (l ++ m) = frV l ++ frV m := by simp [frV]
theorem rdFr_snoc (F : Int → Option WV) (i : Int) (l : List OpV) (k : Nat) (hk : k < l.length) : rdFr F i (l.take (k + 1)) = rdFr F i (l.take k) ++ (if fromO F l[k].val = i then [] else [(l[k].key, fromO F l[k].val)]) := by
  unfold rdFr
  rw [List.take_succ_eq_append_getElem hk, List.filter_append, List.map_append]
  by_cases h : fromO F l[k].val = i <;> simp [h]
theorem rdFr_len (F : Int → Option WV) (i : Int) (l : List OpV) : (rdFr F i l).length ≤ l.length := by
  unfold rdFr; rw [List.length_map]; exact List.length_filter_le _ _
theorem infoRd : (Tryz.prog.info? 108).map (fun i => (i.zero, i.size, i.bytes)) = some (some (.agg #[.int .i64 0, .int .i64 0]), 2, 16) := by kernel_rfl
theorem lit_two (w : World) (x y : Value) (t : TypeId) : ∀ j u, [x, y][j]? = some u → (w.alloc (.cells #[x, y] t)).cell? ((⟨w.heap.size, 0, none⟩ : Addr).add j) = some u := by
  have h := At.new w (.cells #[x, y] t)
  unfold At at h
  generalize w.alloc (.cells #[x, y] t) = w1 at *
  generalize w.heap.size = p at *
  intro j u hu
  rcases j with _ | _ | j
  · simp at hu; subst hu; simp [World.cell?, Addr.add, h]
  · simp at hu; subst hu; simp [World.cell?, Addr.add, h]
  · simp at hu
theorem own_base' {w : World} {base base' : Nat} {v : Value} {e : TypeId} {size n : Nat} {xs : List Value} (h : w.ownsRow base e size v n xs) (hb : base' ≤ base) : w.ownsRow base' e size v n xs := by
  obtain ⟨h1, h2⟩ := h
  refine ⟨h1, ?_⟩
  rcases h2 with h2 | ⟨g, cap, cur, e1, e2, r⟩
  · exact .inl h2
  · exact .inr ⟨g, cap, cur, e1, Nat.le_trans hb e2, r⟩
set_option maxHeartbeats 4000000 in
theorem oreads_any (i s b c : Int) (va : Value) (l : List OpV) (F : Int → Option WV) (bm n cc : Nat) (w : World) (ha : Ops w va l) (hok : ∀ o ∈ l, o.ok) (hlen : l.length ≤ 100000) (hM : MapI eW Tryz.prog 3 w bm n F cc) :
    Calls Tryz.prog 79 #[.int .i64 i, .agg #[.int .i64 s, .int .i64 b, .int .i64 c, va], .map (some bm)] w fun e w' => ∃ v out, e = .returned v ∧ w'.ownsRow w.heap.size 108 2 v (rdFr F i out).length (frV (rdFr F i out)) ∧ Rise (firstO l) false out ∧ out.length ≤ l.length ∧ Below w.heap.size w w' := by
  obtain ⟨i0, hi, hz0, hz1, hz2⟩ := info_parts infoRd
  obtain ⟨ao, cap, rfl, hal⟩ := ha.form
  have hb0 := box_below w (.cells #[.int .i64 s, .int .i64 b, .int .i64 c, .slice ao l.length cap] 118)
  have CW := Lib.hid (reads_any s b c _ l _ (ha.below hb0) hok hlen)
  have HOK := Lib.hid hok
  have HMM := Lib.hid (fun wx (hx : Below w.heap.size w wx) => hM.below hx)
  clear ha hok hM
  go_enter Tryz.func79, Tryz.ntmps79
  go_wp2_with fail
  refine (CW.out).mono ?_
  rintro e w1 ⟨v1, out, rfl, hO, hR, hol, hb1⟩
  have hb2 := below_then hb0 hb1
  have HR := Lib.hid (And.intro hR hol)
  have HV := Lib.hid (fun o (ho : o ∈ out) => HOK.out o (firstO_key (((hR.2 o).1 ho).1)).2)
  have HM := Lib.hid ((HMM.out _ hb2))
  have hlim : out.length ≤ 100000 := by omega
  clear CW hb0 hb1 hR hol HOK HMM
  obtain ⟨B, hB⟩ : ∃ B, B = w1.heap.size := ⟨_, rfl⟩
  have hBw : w.heap.size ≤ B := by have := hb2.size; omega
  have hBl : B ≤ w1.heap.size := by omega
  have HB := Lib.hid hB
  clear hB
  have hT := hO.ops
  clear hO
  obtain ⟨a1, cap1, rfl, _⟩ := hT.form
  go_wp2_with fail
  go_loopw [7, 15] (fun v j wr => ∃ k : Nat, k ≤ out.length ∧ j = .int .i64 k ∧ wr.ownsRow B 108 2 v (rdFr F i (out.take k)).length (frV (rdFr F i (out.take k))) ∧ Below B w1 wr)
    (fun _ j _ => out.length - (intOf j).toNat)
  case atStart => exact ⟨0, by omega, rfl, World.ownsRow_nil _ _ _ _, HB.out ▸ Below.refl _ _⟩
  case round =>
    obtain ⟨k, hk, rfl, hown, hb⟩ := hrel
    have hsz := hb.size
    by_cases hlt : k < out.length
    · have hki : (k : Int) < (out.length : Int) := by omega
      obtain ⟨g, o, hao, c0, c1, c2⟩ := (hT.below (HB.out ▸ hb)).at hlt
      cases hao
      have HS := Lib.hid (rdFr_snoc F i out k hlt)
      have hkl : (rdFr F i (out.take k)).length ≤ 100000 := Nat.le_trans (rdFr_len _ _ _) (by rw [List.length_take]; omega)
      have hkv := inI_of (HV.out out[k] (List.getElem_mem hlt)).2
      have hM2 := (HM.out.below (HB.out ▸ hb)).alloc (.cells #[.bool out[k].wr, .int .i64 out[k].key, .int .i64 out[k].val] 114)
      generalize out[k].wr = x at *
      generalize out[k].key = y at *
      generalize out[k].val = z at *
      have hbx := hb.alloc (by omega) (.cells #[.bool x, .int .i64 y, .int .i64 z] 114)
      have hownx := hown.alloc (.cells #[.bool x, .int .i64 y, .int .i64 z] 114)
      cases hv : F z with
      | none =>
        have hf : fromO F z = -1 := by unfold fromO; rw [hv]; rfl
        rw [hf] at HS
        have hby := hbx.alloc (by have := hbx.size; omega) (.cells #[.int .i64 (-1), .int .i64 0, .bool false] 191)
        have howny := hownx.alloc (.cells #[.int .i64 (-1), .int .i64 0, .bool false] 191)
        by_cases hfi : (-1) = i
        · rw [if_pos hfi, List.append_nil] at HS
          subst hfi
          go_wp2_with (at_lookup; refine wpList_lookI_ok _ rfl _ _ 120 rfl 3 191 keyI mapIW wZ (zeroW _) _ _ _ _ rfl hM2 _ rfl hkv ?_; rw [hv]; simp only [Option.getD_none, Option.isSome_none, eW, wZ])
          go_roundw
          case rel => exact ⟨k + 1, by omega, by go_num, by rw [HS.out]; exact howny, hby⟩
          case measure => simp [intOf]; omega
        · rw [if_neg hfi] at HS
          go_wp2_with (first | (at_lookup; refine wpList_lookI_ok _ rfl _ _ 120 rfl 3 191 keyI mapIW wZ (zeroW _) _ _ _ _ rfl hM2 _ rfl hkv ?_; rw [hv]; simp only [Option.getD_none, Option.isSome_none, eW, wZ]) | (at_builtin; refine wpList_append_own _ rfl _ _ 102 rfl B 108 i0 (.agg #[.int .i64 0, .int .i64 0]) 2 16 Tryz.underlying102 hi hz0 hz1 hz2 rfl (by decide) _ _ _ rfl (howny.alloc _) ⟨_, 0, none⟩ 1 1 [.int .i64 y, .int .i64 (-1)] rfl rfl ?c1 ?c2 ?c3 ?c4 ?c5 ?_))
          case c1 =>
            have e : wr.heap.size + 1 + 1 = ((wr.alloc (.cells #[.bool x, .int .i64 y, .int .i64 z] 114)).alloc (.cells #[.int .i64 (-1), .int .i64 0, .bool false] 191)).heap.size := by simp
            rw [e]
            exact lit_two _ _ _ _
          case c2 => intro u hu; simp at hu; rcases hu with rfl | rfl <;> rfl
          case c3 => unfold maxLen; omega
          case c4 => omega
          case c5 => simp; omega
          · intro v' w2 hown' hgrow _
            have hb' := below_app hby (by omega) howny hgrow
            clear hown hownx howny hbx hby hb hgrow
            go_wp2_with fail
            go_roundw
            case rel =>
              refine ⟨k + 1, by omega, by go_num, ?_, hb'⟩
              rw [HS.out, frV_app, List.length_append]
              exact hown'
            case measure => simp [intOf]; omega
      | some u =>
        have hf : fromO F z = u.i := by unfold fromO; rw [hv]; rfl
        rw [hf] at HS
        obtain ⟨ui, uk, ul⟩ := u
        simp only at HS
        have hby := hbx.alloc (by have := hbx.size; omega) (.cells #[.int .i64 ui, .int .i64 uk, .bool ul] 191)
        have howny := hownx.alloc (.cells #[.int .i64 ui, .int .i64 uk, .bool ul] 191)
        by_cases hfi : ui = i
        · rw [if_pos hfi, List.append_nil] at HS
          subst hfi
          go_wp2_with (at_lookup; refine wpList_lookI_ok _ rfl _ _ 120 rfl 3 191 keyI mapIW wZ (zeroW _) _ _ _ _ rfl hM2 _ rfl hkv ?_; rw [hv]; simp only [Option.getD_some, Option.isSome_some, eW])
          go_roundw
          case rel => exact ⟨k + 1, by omega, by go_num, by rw [HS.out]; exact howny, hby⟩
          case measure => simp [intOf]; omega
        · rw [if_neg hfi] at HS
          go_wp2_with (first | (at_lookup; refine wpList_lookI_ok _ rfl _ _ 120 rfl 3 191 keyI mapIW wZ (zeroW _) _ _ _ _ rfl hM2 _ rfl hkv ?_; rw [hv]; simp only [Option.getD_some, Option.isSome_some, eW]) | (at_builtin; refine wpList_append_own _ rfl _ _ 102 rfl B 108 i0 (.agg #[.int .i64 0, .int .i64 0]) 2 16 Tryz.underlying102 hi hz0 hz1 hz2 rfl (by decide) _ _ _ rfl (howny.alloc _) ⟨_, 0, none⟩ 1 1 [.int .i64 y, .int .i64 ui] rfl rfl ?c1 ?c2 ?c3 ?c4 ?c5 ?_))
          case c2 => exact ⟨rfl, rfl⟩
          case c3 => unfold maxLen; omega
          case c4 => omega
          case c5 => omega
          · intro v' w2 hown' hgrow _
            have hb' := below_app hby (by omega) howny hgrow
            clear hown hownx howny hbx hby hb hgrow
            go_wp2_with fail
            go_roundw
            case rel =>
              refine ⟨k + 1, by omega, by go_num, ?_, hb'⟩
              rw [HS.out, frV_app, List.length_append]
              exact hown'
            case measure => simp [intOf]; omega
    · have hkl : k = out.length := by omega
      subst hkl
      rw [List.take_length] at hown
      go_wp2_with fail
      go_ret
      exact ⟨_, out, rfl, own_base' hown hBw, HR.out.1, HR.out.2, hb2.trans (hb.mono hBw)⟩
end Go.Proofs.YtkaldidcekcpnaaGreatDoor

namespace Go.Proofs.YtkaldidcekcpnaaGreatDoor
set_option maxRecDepth 100000
open Go.RowKit

/-- A read of what its writer overwrites, or of what oneself writes. -/
def badFr (F : Int → Option WV) (i : Int) (o : OpV) : Bool := match F o.val with | none => false | some u => decide (u.i = i) || !u.last
theorem anyf_take {f : OpV → Bool} {l : List OpV} {k : Nat} (hk : k < l.length) (h : (l.take k).any f = false) : (l.take (k + 1)).any f = f l[k] := by
  rw [List.take_succ_eq_append_getElem hk, List.any_append, h]; simp
theorem anyf_hit {f : OpV → Bool} {l : List OpV} {k : Nat} (hk : k < l.length) (h : f l[k] = true) : l.any f = true := List.any_eq_true.2 ⟨_, List.getElem_mem hk, h⟩
set_option maxHeartbeats 4000000 in
theorem osound_any (i s b c : Int) (va : Value) (l : List OpV) (F : Int → Option WV) (bm n cc : Nat) (w : World) (ha : Ops w va l) (hok : ∀ o ∈ l, o.ok) (hlen : l.length ≤ 100000) (hM : MapI eW Tryz.prog 3 w bm n F cc) :
    Calls Tryz.prog 80 #[.int .i64 i, .agg #[.int .i64 s, .int .i64 b, .int .i64 c, va], .map (some bm)] w fun e w' => ∃ out, e = .returned (.bool (!out.any (badFr F i) && steadyL l)) ∧ Rise (firstO l) false out ∧ out.length ≤ l.length ∧ Below w.heap.size w w' := by
  obtain ⟨ao, cap, rfl, hal⟩ := ha.form
  have hb0 := box_below w (.cells #[.int .i64 s, .int .i64 b, .int .i64 c, .slice ao l.length cap] 118)
  have CW := Lib.hid (reads_any s b c _ l _ (ha.below hb0) hok hlen)
  have HOK := Lib.hid hok
  have HA := Lib.hid (fun wx (hx : Below w.heap.size w wx) => ha.below hx)
  have HMM := Lib.hid (fun wx (hx : Below w.heap.size w wx) => hM.below hx)
  have hx0 := txnBlock w (.int .i64 s) (.int .i64 b) (.int .i64 c) (.slice ao l.length cap) 118
  have hA0 := At.new w (.cells #[.int .i64 s, .int .i64 b, .int .i64 c, .slice ao l.length cap] 118)
  clear ha hok hM hx0
  go_enter Tryz.func80, Tryz.ntmps80
  go_wp2_with fail
  refine (CW.out).mono ?_
  rintro e w1 ⟨v1, out, rfl, hO, hR, hol, hb1⟩
  have hb2 := below_then hb0 hb1
  have hA1 := hA0.below hb1
  have HR := Lib.hid (And.intro hR hol)
  have HV := Lib.hid (fun o (ho : o ∈ out) => HOK.out o (firstO_key (((hR.2 o).1 ho).1)).2)
  have HM := Lib.hid ((HMM.out _ hb2))
  have hlim : out.length ≤ 100000 := by omega
  clear CW hb0 hb1 hR hol HMM hA0
  have hT := hO.ops
  clear hO
  obtain ⟨a1, cap1, rfl, _⟩ := hT.form
  go_wp2_with fail
  go_loopw [14] (fun j wr => ∃ k : Nat, k ≤ out.length ∧ j = .int .i64 k ∧ (out.take k).any (badFr F i) = false ∧ Below w1.heap.size w1 wr)
    (fun j _ => out.length - (intOf j).toNat)
  case atStart => exact ⟨0, by omega, rfl, rfl, Below.refl _ _⟩
  case round =>
    obtain ⟨k, hk, rfl, hno, hb⟩ := hrel
    have HNO := Lib.hid hno
    clear hno
    have hsz := hb.size
    by_cases hlt : k < out.length
    · have hki : (k : Int) < (out.length : Int) := by omega
      obtain ⟨g, o, hao, c0, c1, c2⟩ := (hT.below hb).at hlt
      cases hao
      have HS := Lib.hid (anyf_take hlt HNO.out)
      have HH := Lib.hid (fun h => anyf_hit (f := badFr F i) hlt h)
      have HBD : Hid (badFr F i out[k] = match F out[k].val with | none => false | some u => decide (u.i = i) || !u.last) := Lib.hid rfl
      have hkv := inI_of (HV.out out[k] (List.getElem_mem hlt)).2
      have hM2 := (HM.out.below hb).alloc (.cells #[.bool out[k].wr, .int .i64 out[k].key, .int .i64 out[k].val] 114)
      generalize badFr F i out[k] = bd at *
      generalize out[k].wr = x at *
      generalize out[k].key = y at *
      generalize out[k].val = z at *
      have hbx := hb.alloc hb.size (.cells #[.bool x, .int .i64 y, .int .i64 z] 114)
      cases hv : F z with
      | none =>
        have HF : Hid (bd = false) := Lib.hid (by rw [HBD.out, hv])
        have hby := hbx.alloc hbx.size (.cells #[.int .i64 0, .int .i64 0, .bool false] 191)
        clear HBD
        go_wp2_with (at_lookup; refine wpList_lookI_ok _ rfl _ _ 120 rfl 3 191 keyI mapIW wZ (zeroW _) _ _ _ _ rfl hM2 _ rfl hkv ?_; rw [hv]; simp only [Option.getD_none, Option.isSome_none, eW, wZ])
        go_roundw
        case rel => exact ⟨k + 1, by omega, by go_num, by rw [HS.out, HF.out], hby⟩
        case measure => simp [intOf]; omega
      | some u =>
        obtain ⟨ui, uk, ul⟩ := u
        have HF : Hid (bd = (decide (ui = i) || !ul)) := Lib.hid (by rw [HBD.out, hv])
        have hby := hbx.alloc hbx.size (.cells #[.int .i64 ui, .int .i64 uk, .bool ul] 191)
        clear HBD
        by_cases hfi : ui = i
        · have HB2 : Hid (bd = true) := Lib.hid (by rw [HF.out, decide_eq_true hfi]; rfl)
          subst hfi
          go_wp2_with (at_lookup; refine wpList_lookI_ok _ rfl _ _ 120 rfl 3 191 keyI mapIW wZ (zeroW _) _ _ _ _ rfl hM2 _ rfl hkv ?_; rw [hv]; simp only [Option.getD_some, Option.isSome_some, eW])
          go_ret
          exact ⟨out, by rw [HH.out HB2.out]; rfl, HR.out.1, HR.out.2, hb2.trans (hby.mono hb2.size)⟩
        · cases ul with
          | false =>
            have HB2 : Hid (bd = true) := Lib.hid (by rw [HF.out]; simp)
            go_wp2_with (at_lookup; refine wpList_lookI_ok _ rfl _ _ 120 rfl 3 191 keyI mapIW wZ (zeroW _) _ _ _ _ rfl hM2 _ rfl hkv ?_; rw [hv]; simp only [Option.getD_some, Option.isSome_some, eW])
            go_ret
            exact ⟨out, by rw [HH.out HB2.out]; rfl, HR.out.1, HR.out.2, hb2.trans (hby.mono hb2.size)⟩
          | true =>
            have HB2 : Hid (bd = false) := Lib.hid (by rw [HF.out, decide_eq_false hfi]; rfl)
            go_wp2_with (at_lookup; refine wpList_lookI_ok _ rfl _ _ 120 rfl 3 191 keyI mapIW wZ (zeroW _) _ _ _ _ rfl hM2 _ rfl hkv ?_; rw [hv]; simp only [Option.getD_some, Option.isSome_some, eW])
            go_roundw
            case rel => exact ⟨k + 1, by omega, by go_num, by rw [HS.out, HB2.out], hby⟩
            case measure => simp [intOf]; omega
    · have hkl : k = out.length := by omega
      subst hkl
      have HNA : Hid (out.any (badFr F i) = false) := Lib.hid (by have h := HNO.out; rwa [List.take_length] at h)
      obtain ⟨q0, q1, q2, q3⟩ := (hA1.below hb).cells4
      have hb3 := hb2.trans (hb.mono hb2.size)
      have CS := Lib.hid (steady_any s b c _ l wr (HA.out _ hb3) HOK.out hlen)
      go_wp2_with fail
      refine (CS.out).mono ?_
      rintro e w6 ⟨rfl, hb6⟩
      have hb7 := hb3.trans (hb6.mono hb3.size)
      go_wp2_with fail
      go_ret
      exact ⟨out, by rw [HNA.out]; rfl, HR.out.1, HR.out.2, hb7⟩
end Go.Proofs.YtkaldidcekcpnaaGreatDoor

namespace Go.Proofs.YtkaldidcekcpnaaGreatDoor
set_option maxRecDepth 100000
open Go.RowKit

/-- A slice of what is read of others. -/
def Frs (w : World) (v : Value) (l : List (Int × Int)) : Prop := Row w v l.length 2 (frV l)
theorem Frs.below {w w' : World} {v : Value} {l : List (Int × Int)} (h : Frs w v l) (hb : Below w.heap.size w w') : Frs w' v l := Row.below h hb
theorem frV_at : ∀ (l : List (Int × Int)) (k : Nat) (hk : k < l.length), (frV l)[k * 2]? = some (.int .i64 l[k].1) ∧ (frV l)[k * 2 + 1]? = some (.int .i64 l[k].2)
  | [], k, hk => by simp at hk
  | p :: l, 0, _ => by simp [frV]
  | p :: l, k + 1, hk => by
    obtain ⟨h1, h2⟩ := frV_at l k (by simpa using hk)
    have e : (k + 1) * 2 = k * 2 + 1 + 1 := by omega
    have e2 : frV (p :: l) = .int .i64 p.1 :: .int .i64 p.2 :: frV l := rfl
    rw [e, e2]
    exact ⟨by simpa using h1, by simpa using h2⟩
theorem Frs.form {w : World} {v : Value} {l : List (Int × Int)} (h : Frs w v l) : ∃ ao cap, v = .slice ao l.length cap ∧ l.length ≤ 9223372036854775807 := by
  obtain ⟨_, ao, cap, rfl, hm, _, _⟩ := h
  exact ⟨ao, cap, rfl, Nat.le_trans hm.1 hm.2⟩
theorem Frs.at {w : World} {ao : Option Addr} {n cap : Nat} {l : List (Int × Int)} (h : Frs w (.slice ao n cap) l) {k : Nat} (hk : k < l.length) :
    ∃ b off, ao = some ⟨b, off, none⟩ ∧ w.cell? ⟨b, off + k * 2, none⟩ = some (.int .i64 l[k].1) ∧ w.cell? ⟨b, off + k * 2 + 1, none⟩ = some (.int .i64 l[k].2) := by
  obtain ⟨_, ao', cap', he, hm, _, hc⟩ := h
  obtain ⟨rfl, _, _⟩ : ao = ao' ∧ n = l.length ∧ cap = cap' := by simpa using he
  obtain ⟨b, off, rfl, hcell⟩ := hc (by omega)
  obtain ⟨h0, h1⟩ := frV_at l k hk
  exact ⟨b, off, rfl, by rw [hcell _ (by omega), h0], by rw [Nat.add_assoc, hcell _ (by omega), h1]⟩
set_option maxHeartbeats 4000000 in
theorem offrom1_any (y f a : Int) (q : Nat) (w : World) (hq : w.cell? ⟨q, 0, none⟩ = some (.int .i64 a)) :
    Calls Tryz.prog 87 #[.agg #[.int .i64 y, .int .i64 f], .pointer (some ⟨q, 0, none⟩)] w fun e w' => e = .returned (.bool (decide (f = a))) ∧ Below w.heap.size w w' := by
  have hq' := (box_below w (.cells #[.int .i64 y, .int .i64 f] 108)).cell (p := ⟨q, 0, none⟩) (block_lt hq)
  rw [hq] at hq'
  go_enter Tryz.func87, Tryz.ntmps87
  go_wp2_with fail
  go_ret
  exact ⟨rfl, (Below.refl _ _).alloc (Nat.le_refl _) _⟩
theorem frs_take {f : Int × Int → Bool} {l : List (Int × Int)} {k : Nat} (hk : k < l.length) (h : (l.take k).any f = false) : (l.take (k + 1)).any f = f l[k] := by
  rw [List.take_succ_eq_append_getElem hk, List.any_append, h]; simp
set_option maxHeartbeats 4000000 in
theorem ofindex_any (va : Value) (l : List (Int × Int)) (a : Int) (q : Nat) (w : World) (hT : Frs w va l) (hq : w.cell? ⟨q, 0, none⟩ = some (.int .i64 a)) :
    Calls Tryz.prog 154 #[va, .func (.func 87) #[] #[.pointer (some ⟨q, 0, none⟩)]] w fun e w' => ∃ r : Int, e = .returned (.int .i64 r) ∧ decide (0 ≤ r) = l.any (fun p => decide (p.2 = a)) ∧ Below w.heap.size w w' := by
  obtain ⟨ao, cap, rfl, hal⟩ := hT.form
  have HQ := Lib.hid (fun wx (hx : Below w.heap.size w wx) => (hx.cell (p := ⟨q, 0, none⟩) (block_lt hq)).trans hq)
  clear hq
  go_enter Tryz.func154, Tryz.ntmps154
  go_wp2_with fail
  go_loopw [8] (fun i wr => ∃ k : Nat, k ≤ l.length ∧ i = .int .i64 k ∧ (l.take k).any (fun p => decide (p.2 = a)) = false ∧ Below w.heap.size w wr) (fun i _ => l.length - (intOf i).toNat)
  case atStart => exact ⟨0, by omega, rfl, rfl, Below.refl _ _⟩
  case round =>
    obtain ⟨k, hk, rfl, hno, hb⟩ := hrel
    have HNO := Lib.hid hno
    clear hno
    by_cases hlt : k < l.length
    · have hki : (k : Int) < (l.length : Int) := by omega
      obtain ⟨g, o, hao, c0, c1⟩ := (hT.below hb).at hlt
      cases hao
      have HS := Lib.hid (frs_take hlt HNO.out)
      have HH : Hid (decide (l[k].2 = a) = true → l.any (fun p => decide (p.2 = a)) = true) := Lib.hid (fun h => List.any_eq_true.2 ⟨_, List.getElem_mem hlt, h⟩)
      have CF := Lib.hid (offrom1_any l[k].1 l[k].2 a q wr (HQ.out _ hb))
      generalize l[k] = z at *
      obtain ⟨y, f⟩ := z
      simp only at c0 c1 HS HH CF
      by_cases hf : f = a
      · have HD : Hid (l.any (fun p => decide (p.2 = a)) = true) := Lib.hid (HH.out (decide_eq_true hf))
        rw [decide_eq_true hf] at CF
        clear hf HH HS
        go_wp2_with (go_at_call 87; refine (CF.out).mono ?_; rintro e w6 ⟨rfl, hb6⟩)
        have hbb := hb.trans (hb6.mono hb.size)
        go_ret
        exact ⟨_, rfl, by rw [HD.out]; exact decide_eq_true (by omega), hbb⟩
      · have HD : Hid ((l.take (k + 1)).any (fun p => decide (p.2 = a)) = false) := Lib.hid (by rw [HS.out]; exact decide_eq_false hf)
        rw [decide_eq_false hf] at CF
        clear hf HH HS
        go_wp2_with (go_at_call 87; refine (CF.out).mono ?_; rintro e w6 ⟨rfl, hb6⟩)
        have hbb := hb.trans (hb6.mono hb.size)
        go_roundw
        case rel => exact ⟨k + 1, by omega, by go_num, HD.out, hbb⟩
        case measure => simp [intOf]; omega
    · have hkl : k = l.length := by omega
      subst hkl
      have HD : Hid (l.any (fun p => decide (p.2 = a)) = false) := Lib.hid (by have h := HNO.out; rwa [List.take_length] at h)
      go_wp2_with fail
      go_ret
      exact ⟨_, rfl, by rw [HD.out]; rfl, hb⟩
end Go.Proofs.YtkaldidcekcpnaaGreatDoor

namespace Go.Proofs.YtkaldidcekcpnaaGreatDoor
set_option maxRecDepth 100000
open Go.RowKit

set_option maxHeartbeats 4000000 in
theorem ofcontains_any (va : Value) (l : List (Int × Int)) (a : Int) (q : Nat) (w : World) (hT : Frs w va l) (hq : w.cell? ⟨q, 0, none⟩ = some (.int .i64 a)) :
    Calls Tryz.prog 86 #[va, .func (.func 87) #[] #[.pointer (some ⟨q, 0, none⟩)]] w fun e w' => e = .returned (.bool (l.any (fun p => decide (p.2 = a)))) ∧ Below w.heap.size w w' := by
  have CI := Lib.hid (ofindex_any va l a q w hT hq)
  obtain ⟨ao, cap, rfl, hal⟩ := hT.form
  clear hT hq
  generalize l.any (fun p => decide (p.2 = a)) = B at *
  go_enter Tryz.func86, Tryz.ntmps86
  go_wp2_with fail
  refine (CI.out).mono ?_
  rintro e w6 ⟨r, rfl, hr, hb6⟩
  go_wp2_with fail
  go_ret
  exact ⟨by subst hr; rfl, hb6⟩
/-- Slices of what is read of others in a slice. -/
def FRws (w : World) (v : Value) (K : List (Value × List (Int × Int))) : Prop := Row w v K.length 1 (K.map (·.1)) ∧ ∀ p ∈ K, Frs w p.1 p.2
theorem FRws.below {w w' : World} {v : Value} {K : List (Value × List (Int × Int))} (h : FRws w v K) (hb : Below w.heap.size w w') : FRws w' v K := ⟨Row.below h.1 hb, fun p hp => (h.2 p hp).below hb⟩
theorem FRws.form {w : World} {v : Value} {K : List (Value × List (Int × Int))} (h : FRws w v K) : ∃ ao cap, v = .slice ao K.length cap := by
  obtain ⟨⟨_, ao, cap, rfl, _⟩, _⟩ := h
  exact ⟨ao, cap, rfl⟩
theorem FRws.at {w : World} {ao : Option Addr} {n cap : Nat} {K : List (Value × List (Int × Int))} (h : FRws w (.slice ao n cap) K) {k : Nat} (hk : k < K.length) :
    ∃ b off, ao = some ⟨b, off, none⟩ ∧ w.cell? ⟨b, off + k, none⟩ = some K[k].1 ∧ Frs w K[k].1 K[k].2 := by
  obtain ⟨⟨_, ao', cap', he, hm, _, hc⟩, hi⟩ := h
  obtain ⟨rfl, _, _⟩ : ao = ao' ∧ n = K.length ∧ cap = cap' := by simpa using he
  obtain ⟨b, off, rfl, hcell⟩ := hc (by omega)
  exact ⟨b, off, rfl, by rw [hcell k (by omega)]; simp [List.getElem?_eq_getElem hk], hi _ (List.getElem_mem hk)⟩
set_option maxHeartbeats 4000000 in
theorem offrom_any (vr : Value) (K : List (Value × List (Int × Int))) (a b : Nat) (p ob : Nat) (w : World) (hp : w.cell? ⟨p, 0, none⟩ = some (.pointer (some ⟨ob, 0, none⟩))) (hr : w.cell? ⟨ob, 195, none⟩ = some vr) (hT : FRws w vr K) (hb : b < K.length) :
    Calls Tryz.prog 85 #[.int .i64 a, .int .i64 b, .pointer (some ⟨p, 0, none⟩)] w fun e w' => e = .returned (.bool (K[b].2.any (fun r => decide (r.2 = (a : Int))))) ∧ Below w.heap.size w w' := by
  obtain ⟨ao, cap, rfl⟩ := hT.form
  have hbi : (b : Int) < (K.length : Int) := by omega
  have hb0 := box_below w (.cells #[.int .i64 a] 3)
  have hp0 := (hb0.cell (p := ⟨p, 0, none⟩) (block_lt hp)).trans hp
  have hr0 := (hb0.cell (p := ⟨ob, 195, none⟩) (block_lt hr)).trans hr
  have hq0 : (w.alloc (.cells #[.int .i64 a] 3)).cell? ⟨w.heap.size, 0, none⟩ = some (.int .i64 a) := by rw [cell_of_row _ _ 0 _ _ _ (heap_alloc_new w _)]; rfl
  obtain ⟨g, o, hao, c0, hF⟩ := (hT.below hb0).at hb
  cases hao
  have CC := Lib.hid (ofcontains_any _ _ (a : Int) w.heap.size _ hF hq0)
  obtain ⟨aq, capq, hqv, hql⟩ := hF.form
  rw [hqv] at c0 CC
  have hmf : ∀ (fn : Fn) (first cap : Array Value) (w : World), (Instr.makeFunc fn first cap).run Tryz.prog w = .ok (.func fn first cap) w := fun _ _ _ _ => rfl
  generalize K[b].2.any (fun r => decide (r.2 = (a : Int))) = B at *
  generalize K[b].2.length = m at *
  clear hT hF hqv hp hr
  go_enter Tryz.func85, Tryz.ntmps85
  go_wp2_with fail
  refine (CC.out).mono ?_
  rintro e w6 ⟨rfl, hb6⟩
  have hbb := below_then hb0 hb6
  go_wp2_with fail
  go_ret
  exact ⟨rfl, hbb⟩
end Go.Proofs.YtkaldidcekcpnaaGreatDoor

namespace Go.Proofs.YtkaldidcekcpnaaGreatDoor
set_option maxRecDepth 100000
open Go.RowKit

/-- Slices of ints in a slice: each one's value and what it holds. -/
def Rws (w : World) (v : Value) (K : List (Value × List Int)) : Prop := Row w v K.length 1 (K.map (·.1)) ∧ ∀ p ∈ K, Ints w p.1 p.2
theorem Rws.below {w w' : World} {v : Value} {K : List (Value × List Int)} (h : Rws w v K) (hb : Below w.heap.size w w') : Rws w' v K := ⟨Row.below h.1 hb, fun p hp => (h.2 p hp).below hb⟩
theorem Rws.form {w : World} {v : Value} {K : List (Value × List Int)} (h : Rws w v K) : ∃ ao cap, v = .slice ao K.length cap := by
  obtain ⟨⟨_, ao, cap, rfl, _⟩, _⟩ := h
  exact ⟨ao, cap, rfl⟩
theorem Rws.at {w : World} {ao : Option Addr} {n cap : Nat} {K : List (Value × List Int)} (h : Rws w (.slice ao n cap) K) {k : Nat} (hk : k < K.length) :
    ∃ b off, ao = some ⟨b, off, none⟩ ∧ w.cell? ⟨b, off + k, none⟩ = some K[k].1 ∧ Ints w K[k].1 K[k].2 := by
  obtain ⟨⟨_, ao', cap', he, hm, _, hc⟩, hi⟩ := h
  obtain ⟨rfl, _, _⟩ : ao = ao' ∧ n = K.length ∧ cap = cap' := by simpa using he
  obtain ⟨b, off, rfl, hcell⟩ := hc (by omega)
  exact ⟨b, off, rfl, by rw [hcell k (by omega)]; simp [List.getElem?_eq_getElem hk], hi _ (List.getElem_mem hk)⟩
def eS (s : Nat) : Value := .int .u64 (s : Int)
/-- Who writes to each key: a row's first ones; the first rows. -/
def wrsRow (i : Nat) (F : Int → Option Nat) (xs : List Int) : Int → Option Nat := xs.foldl (fun F x => putF F x (withS ((F x).getD 0) i)) F
def wrsTo (K : List (Value × List Int)) : Nat → Int → Option Nat
  | 0 => fun _ => none
  | k + 1 => wrsRow k (wrsTo K k) ((K[k]?.map (·.2)).getD [])
theorem wrsRow_snoc (i : Nat) (F : Int → Option Nat) (xs : List Int) (k : Nat) (hk : k < xs.length) : wrsRow i F (xs.take (k + 1)) = putF (wrsRow i F (xs.take k)) xs[k] (withS ((wrsRow i F (xs.take k) xs[k]).getD 0) i) := by
  unfold wrsRow; rw [List.take_succ_eq_append_getElem hk, List.foldl_append]; rfl
theorem wrsTo_succ {K : List (Value × List Int)} {k : Nat} (hk : k < K.length) : wrsTo K (k + 1) = wrsRow k (wrsTo K k) K[k].2 := by
  show wrsRow k (wrsTo K k) _ = _
  rw [List.getElem?_eq_getElem hk]; rfl
/-- Each key's is a set. -/
def AllSet (F : Int → Option Nat) : Prop := ∀ x, IsSet ((F x).getD 0)
theorem AllSet.put {F : Int → Option Nat} (h : AllSet F) (x : Int) {s : Nat} (hs : IsSet s) : AllSet (putF F x s) := fun y => by
  by_cases e : y = x
  · rw [e, putF_same]; exact hs
  · rw [putF_other F s e]; exact h y
theorem mapIS : Tryz.prog.underlying 103 = some (.map 3 35) := Tryz.underlying103
theorem zeroS (w : World) : (zeroValue 35).run Tryz.prog w = .ok (eS 0) w := by kernel_rfl
set_option maxHeartbeats 8000000 in
theorem owriters_any (v : Value) (K : List (Value × List Int)) (w : World) (hK : Rws w v K) (hlen : K.length ≤ 100) (hrow : ∀ p ∈ K, p.2.length ≤ 100000) (hint : ∀ p ∈ K, ∀ x ∈ p.2, InI x) :
    Calls Tryz.prog 81 #[v] w fun e w' => ∃ b n c, e = .returned (.map (some b)) ∧ w.heap.size ≤ b ∧ MapI eS Tryz.prog 3 w' b n (wrsTo K K.length) c ∧ AllSet (wrsTo K K.length) ∧ Below w.heap.size w w' := by
  obtain ⟨ao, cap, rfl⟩ := hK.form
  have HR := Lib.hid hrow
  have HI := Lib.hid hint
  clear hrow hint
  have hm0 := MapI.made eS Tryz.prog 3 w
  have hb1 := (Below.refl w.heap.size w).alloc (Nat.le_refl _) (.map #[] 0)
  have hmm := @run_makeMap Tryz.prog
  go_enter Tryz.func81, Tryz.ntmps81
  go_wp2_with fail
  go_loopw [11] (fun i wr => ∃ k n c : Nat, k ≤ K.length ∧ i = .int .i64 k ∧ n ≤ 100000 * k ∧ AllSet (wrsTo K k) ∧ MapI eS Tryz.prog 3 wr w.heap.size n (wrsTo K k) c ∧ Below w.heap.size w wr) (fun i _ => K.length - (intOf i).toNat)
  case atStart => exact ⟨0, 0, 0, by omega, rfl, by omega, fun _ => (show IsSet 0 from by unfold IsSet; omega), hm0, hb1⟩
  case round =>
    obtain ⟨k, n, c, hk, rfl, hnn, hA, hM, hb⟩ := hrel
    clear hm0 hb1
    by_cases hlt : k < K.length
    · have hki : (k : Int) < (K.length : Int) := by omega
      have hKr := hK.below hb
      obtain ⟨g, o, hao, c0, hin⟩ := hKr.at hlt
      cases hao
      have HS := Lib.hid (wrsTo_succ hlt)
      have hrl := HR.out K[k] (List.getElem_mem hlt)
      have HIK := Lib.hid (HI.out K[k] (List.getElem_mem hlt))
      have HIN := Lib.hid (fun wx (hx : Below w.heap.size w wx) => (hK.2 K[k] (List.getElem_mem hlt)).below hx)
      generalize K[k] = q at *
      obtain ⟨qv, xs⟩ := q
      simp only at c0 hin HS hrl HIK HIN
      obtain ⟨ax, cx, rfl, hxl⟩ := hin.form
      generalize wrsTo K k = F at *
      clear hKr hin
      go_wp2_with fail
      go_loopw [18] (fun i wx => ∃ j m d : Nat, j ≤ xs.length ∧ i = .int .i64 j ∧ m ≤ 100000 * k + j ∧ AllSet (wrsRow k F (xs.take j)) ∧ MapI eS Tryz.prog 3 wx w.heap.size m (wrsRow k F (xs.take j)) d ∧ Below w.heap.size w wx) (fun i _ => xs.length - (intOf i).toNat)
      case atStart => exact ⟨0, n, c, by omega, rfl, by omega, hA, hM, hb⟩
      case round =>
        obtain ⟨j, m, d, hj, rfl, hmm2, hA2, hM2, hb2⟩ := hrel
        clear hA hM
        by_cases hltj : j < xs.length
        · have hkj : (j : Int) < (xs.length : Int) := by omega
          obtain ⟨g2, o2, hao2, e0⟩ := (HIN.out _ hb2).at hltj
          cases hao2
          have HSJ := Lib.hid (wrsRow_snoc k F xs j hltj)
          have hkv := HIK.out xs[j] (List.getElem_mem hltj)
          have hset := hA2 xs[j]
          have HAN := Lib.hid (hA2.put xs[j] (isSet_withS (n := (k : Int)) hset))
          generalize xs[j] = x at *
          generalize wrsRow k F (xs.take j) = G at *
          have CW := Lib.hid (fun wx => with_any ((G x).getD 0) (k : Int) wx hset)
          clear hset hA2
          go_wp2_with (first
            | (at_lookup; refine wpList_lookI _ rfl _ _ 103 rfl 3 35 keyI mapIS 0 (zeroS _) _ _ _ _ rfl hM2 _ rfl hkv ?_; simp only [eS])
            | (go_at_call 97; refine (CW.out _).mono ?_; rintro e w' ⟨rfl, rfl⟩)
            | (at_mapUpdate; refine wpList_putI _ rfl _ _ _ 103 rfl 3 35 keyI mapIS _ _ _ _ rfl hM2 (by unfold maxLen; omega) _ rfl hkv (withS ((G x).getD 0) (k : Int)) rfl ?_; intro w5 hM5 hg5; go_frame))
          have hb5 := hb2.grown hg5 hb2.size (fun q hq => by cases hq; exact Nat.le_refl _)
          clear hM2 hb2 hg5
          go_wp2_with fail
          go_roundw
          case rel => exact ⟨j + 1, m + 1, _, by omega, by go_num, by omega, by rw [HSJ.out]; exact HAN.out, by rw [HSJ.out]; exact hM5, hb5⟩
          case measure => simp [intOf]; omega
        · have hj2 : j = xs.length := by omega
          subst hj2
          rw [List.take_length] at hA2 hM2
          go_wp2_with fail
          go_roundw
          case rel => exact ⟨k + 1, m, d, by omega, by go_num, by omega, by rw [HS.out]; exact hA2, by rw [HS.out]; exact hM2, hb2⟩
          case measure => simp [intOf]; omega
    · have hkl : k = K.length := by omega
      subst hkl
      go_wp2_with fail
      go_ret
      exact ⟨_, _, _, rfl, Nat.le_refl _, hM, hA, hb⟩
end Go.Proofs.YtkaldidcekcpnaaGreatDoor
