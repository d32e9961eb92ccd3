/- Walks and plain facts that the proof of the statement MemoAlike uses, joined: ArgR LeaA AppS OrdA OrdB OrdC OrdG OrdH OrdE OrdI HisF HisG OrdJ OrdF OrdK OrdM OrdO OrdAH. Conditions: each theorem's own. -/
import Derived.Lib.SmallJoins
import Derived.Deep.AppendLies
import Derived.Deep.MidRow
import Derived.BigQuiet
import Derived.Deep.QuietTactic
import Derived.Deep.RegionHeld
import Derived.Test.YtecpeegbfeijaaaDoorPMemoAlike0
import Derived.Test.YtecpeegbfeijaaaDoorPMemoAlike1
namespace Go.Proofs.YtecpeegbfeijaaaDoor
set_option maxRecDepth 100000
open Go.ChangeShapes Go.WideShapes Go.ChangeAt Go.RowKit

theorem array6 {α : Type} {cs : Array α} (h : cs.size = 6) : ∃ c0 c1 c2 c3 c4 c5, cs = #[c0, c1, c2, c3, c4, c5] := by
  obtain ⟨l⟩ := cs
  match l, h with
  | [c0, c1, c2, c3, c4, c5], _ => exact ⟨c0, c1, c2, c3, c4, c5, rfl⟩
theorem cellsPair : Tryd.prog.cellsOf 28 = 6 := by kernel_rfl
theorem cellsCaseR : Tryd.prog.cellsOf 25 = 3 := by kernel_rfl
theorem cellsU8S : Tryd.prog.cellsOf 23 = 1 := by kernel_rfl
theorem cellsU8R : Tryd.prog.cellsOf 5 = 1 := by kernel_rfl
theorem cellsIS : Tryd.prog.cellsOf 26 = 1 := by kernel_rfl
theorem cellsTS : Tryd.prog.cellsOf 22 = 1 := by kernel_rfl
theorem pair_of_trod {H : Type} {enc : TypeId × Value → H} {W : World} {base : Nat} {v : Value} {d : DataW H} {p : List MemPlace}
    (hval : Value.okWide Tryd.prog W .any base 28 v) (h : DataW.Trod enc Tryd.prog W 0 (fun _ => true) true 28 v d p) (hwt : ∀ n ∈ DataW.weights Tryd.prog 28 d, n ≤ reachBytes) :
    ∃ (vh vb vo vn : Value) (a m : Nat) (l : List TxnV) (bs os ns : List Int), v = .agg #[vh, .int .u8 a, vb, vo, .int .u8 m, vn] ∧ (a < 256 ∧ m < 256) ∧ (Txns W vh l ∧ (∀ t ∈ l, t.ok) ∧ ∀ t ∈ l, t.l.length ≤ 6000000000000) ∧
      (Row W vb bs.length 1 (bs.map (Value.int .u8)) ∧ ∀ n ∈ bs, 0 ≤ n ∧ n < 256) ∧ (Row W vo os.length 1 (os.map (Value.int .u8)) ∧ ∀ n ∈ os, 0 ≤ n ∧ n < 256) ∧ Ints W vn ns := by
  obtain ⟨cs, rfl, hsz⟩ := okWide_struct Tryd.underlying28 hval
  obtain ⟨c0, c1, c2, c3, c4, c5, rfl⟩ := array6 (hsz.trans cellsPair)
  obtain ⟨fuel, hf⟩ := h
  obtain ⟨y0, y1, y2, y3, n, hx, _, h0, h1, h2, h3⟩ := Joins.trod_struct4 Tryd.underlying28 hf
  simp only [cellsCaseR, cellsU8S, cellsU8R, cellsIS] at h0 h1 h2 h3
  obtain ⟨z0, z1, z2, m, hz, _, g0, g1, g2⟩ := Deep.trod_struct3 Tryd.underlying25 h0
  simp only [cellsTS, cellsU8S, cellsU8R] at g0 g1 g2
  simp [Value.cells] at h1 h2 h3 g0 g1 g2
  simp only [Prod.mk.injEq] at hx
  obtain ⟨a, e1, _, w1⟩ := DataW.trod_int Tryd.underlying5 g1
  simp at e1
  subst e1
  have ha := bounds_u8 w1
  obtain ⟨a', rfl⟩ := Int.eq_ofNat_of_zero_le ha.1
  obtain ⟨q, e2, _, w2⟩ := DataW.trod_int Tryd.underlying5 h2
  simp at e2
  subst e2
  have hq := bounds_u8 w2
  obtain ⟨q', rfl⟩ := Int.eq_ofNat_of_zero_le hq.1
  obtain ⟨bs, hB, hbs⟩ := bytes_of_cells g2
  obtain ⟨os, hO, hos⟩ := bytes_of_cells h1
  obtain ⟨ns, hN⟩ := ints_of_cells h3
  obtain ⟨l, hT, hok, hsh⟩ := txns_of_cells g0 (fun k hk => hwt k (by
    rw [hx.1]
    simp only [DataW.weights, Tryd.underlying28, DataW.weightsEach, List.map_cons, List.map_nil]
    rw [hz]
    simp only [DataW.weights, Tryd.underlying25, DataW.weightsEach, List.map_cons, List.map_nil]
    simp [hk]))
  exact ⟨c0, c2, c3, c5, a', q', l, bs, os, ns, rfl, ⟨by omega, by omega⟩, ⟨hT, hok, hsh⟩, ⟨hB, hbs⟩, ⟨hO, hos⟩, hN⟩
end Go.Proofs.YtecpeegbfeijaaaDoor

namespace Go.Proofs.YtecpeegbfeijaaaDoor
set_option maxRecDepth 100000

/-- What must be seen: what there is at the start, and what follows. -/
inductive Must (S A : Mat) (tr pf : Bool) : Nat → Nat → Prop
  | base {i j : Nat} : S i j = true → Must S A tr pf i j
  | trans {i m j : Nat} : tr = true → m < 64 → Must S A tr pf i m → Must S A tr pf m j → Must S A tr pf i j
  | pre {i m j : Nat} : pf = true → m < 64 → A i m = true → Must S A tr pf m j → Must S A tr pf i j
def moreT (V : Mat) (tr : Bool) : Mat := if tr then clo V else V
def moreM (V A : Mat) (tr pf : Bool) : Mat := if pf then orR (moreT V tr) (thenR A (moreT V tr)) else moreT V tr
section
variable {S A V : Mat} {tr pf : Bool}
theorem path_must (ht : tr = true) (hV : ∀ i j, i < 64 → j < 64 → V i j = true → Must S A tr pf i j) {i j : Nat} (h : Path V i j) (hi : i < 64) (hj : j < 64) : Must S A tr pf i j := by
  induction h with
  | one h => exact hV _ _ hi hj h
  | more h h2 _ ih => exact .trans ht h2 (hV _ _ hi h2 h) (ih h2 hj)
theorem moreT_sound (hV : ∀ i j, i < 64 → j < 64 → V i j = true → Must S A tr pf i j) (i j : Nat) (hi : i < 64) (hj : j < 64) (h : moreT V tr i j = true) : Must S A tr pf i j := by
  cases tr with
  | false => exact hV i j hi hj h
  | true => exact path_must rfl hV ((clo_iff V i j).1 h) hi hj
theorem thenR_iff (R S : Mat) (i j : Nat) : thenR R S i j = true ↔ ∃ m, m < 64 ∧ R i m = true ∧ S m j = true := by
  unfold thenR
  rw [List.any_eq_true]
  constructor
  · rintro ⟨m, hm, h⟩
    rw [Bool.and_eq_true] at h
    exact ⟨m, List.mem_range.1 hm, h.1, h.2⟩
  · rintro ⟨m, hm, h1, h2⟩
    exact ⟨m, List.mem_range.2 hm, by rw [h1, h2]; rfl⟩
theorem orR_iff (R S : Mat) (i j : Nat) : orR R S i j = true ↔ R i j = true ∨ S i j = true := by
  unfold orR; rw [Bool.or_eq_true]
theorem moreM_sound (hV : ∀ i j, i < 64 → j < 64 → V i j = true → Must S A tr pf i j) (i j : Nat) (hi : i < 64) (hj : j < 64) (h : moreM V A tr pf i j = true) : Must S A tr pf i j := by
  cases pf with
  | false => exact moreT_sound hV i j hi hj h
  | true =>
    rcases (orR_iff _ _ _ _).1 h with h | h
    · exact moreT_sound hV i j hi hj h
    · obtain ⟨m, hm, h1, h2⟩ := (thenR_iff _ _ _ _).1 h
      exact .pre rfl hm h1 (moreT_sound hV m j hm hj h2)
theorem moreT_grows {i j : Nat} (h : V i j = true) : moreT V tr i j = true := by
  cases tr with
  | false => exact h
  | true => exact cloTo_sub V i j h 64
theorem moreM_grows {i j : Nat} (h : V i j = true) : moreM V A tr pf i j = true := by
  cases pf with
  | false => exact moreT_grows h
  | true => exact (orR_iff _ _ _ _).2 (.inl (moreT_grows h))
theorem more_done (hS : ∀ i j, i < 64 → j < 64 → S i j = true → V i j = true) (hf : rowsA (moreM V A tr pf) = rowsA V) {i j : Nat} (h : Must S A tr pf i j) (hi : i < 64) (hj : j < 64) : V i j = true := by
  induction h with
  | base h => exact hS _ _ hi hj h
  | @trans i m j ht hm _ _ ih1 ih2 =>
    rw [← rowsA_inj hf i j hi hj]
    have hp : moreT V tr i j = true := by
      rw [ht]
      exact (clo_iff V i j).2 ((Path.one (ih1 hi hm)).trans hm (.one (ih2 hm hj)))
    cases pf with
    | false => exact hp
    | true => exact (orR_iff _ _ _ _).2 (.inl hp)
  | @pre i m j hp hm ha _ ih =>
    rw [← rowsA_inj hf i j hi hj]
    rw [hp]
    exact (orR_iff _ _ _ _).2 (.inr ((thenR_iff _ _ _ _).2 ⟨m, hm, ha, moreT_grows (ih hm hj)⟩))
end
theorem filter_le {α : Type} {p q : α → Bool} : ∀ (l : List α), (∀ a ∈ l, p a = true → q a = true) → (l.filter p).length ≤ (l.filter q).length
  | [], _ => by simp
  | a :: l, h => by
    have ih := filter_le l (fun b hb => h b (List.mem_cons_of_mem _ hb))
    have ha := h a List.mem_cons_self
    cases hp : p a with
    | true => rw [List.filter_cons_of_pos hp, List.filter_cons_of_pos (ha hp)]; simpa using ih
    | false =>
      rw [List.filter_cons_of_neg (by simp [hp])]
      cases hq : q a with
      | true => rw [List.filter_cons_of_pos hq]; simp; omega
      | false => rw [List.filter_cons_of_neg (by simp [hq])]; exact ih
theorem filter_lt {α : Type} {p q : α → Bool} : ∀ (l : List α), (∀ a ∈ l, p a = true → q a = true) → ∀ x ∈ l, q x = true → p x = false → (l.filter p).length < (l.filter q).length
  | [], _, _, hx, _, _ => by cases hx
  | a :: l, h, x, hx, hq, hp => by
    have h2 := fun b hb => h b (List.mem_cons_of_mem a hb)
    rcases List.mem_cons.1 hx with rfl | hx
    · rw [List.filter_cons_of_neg (by simp [hp]), List.filter_cons_of_pos hq]
      have := filter_le l h2
      simp; omega
    · have ih := filter_lt l h2 x hx hq hp
      have ha := h a List.mem_cons_self
      cases hp1 : p a with
      | true => rw [List.filter_cons_of_pos hp1, List.filter_cons_of_pos (ha hp1)]; simpa using ih
      | false =>
        rw [List.filter_cons_of_neg (by simp [hp1])]
        cases hq1 : q a with
        | true => rw [List.filter_cons_of_pos hq1]; simp; omega
        | false => rw [List.filter_cons_of_neg (by simp [hq1])]; exact ih
/-- How many pairs there are. -/
def cntP (R : Mat) : Nat := ((List.range 4096).filter fun n => R (n / 64) (n % 64)).length
theorem cntP_lt {R S : Mat} (h : ∀ i j, R i j = true → S i j = true) (hne : rowsA R ≠ rowsA S) : cntP R < cntP S := by
  by_cases hx : ∃ i j, i < 64 ∧ j < 64 ∧ S i j = true ∧ R i j = false
  · obtain ⟨i, j, hi, hj, h1, h2⟩ := hx
    have e1 : (i * 64 + j) / 64 = i := by omega
    have e2 : (i * 64 + j) % 64 = j := by omega
    exact filter_lt _ (fun n _ hn => h _ _ hn) (i * 64 + j) (List.mem_range.2 (by omega)) (by rw [e1, e2]; exact h1) (by rw [e1, e2]; exact h2)
  · refine absurd (rowsA_congr fun i j hi hj => ?_) hne
    cases hr : R i j with
    | true => exact (h i j hr).symm
    | false =>
      cases hs : S i j with
      | true => exact absurd ⟨i, j, hi, hj, hs, hr⟩ hx
      | false => rfl
end Go.Proofs.YtecpeegbfeijaaaDoor

namespace Go.Proofs.YtecpeegbfeijaaaDoor
set_option maxRecDepth 100000
open Go.RowKit

/-- An append onto an owned row, at a step of a region that draws: whatever is appended, nothing too. -/
theorem step_app {P : Program} (w : World) {ops : Array Oper} {o : Oper} {a : Act} {K : Act → World → Prop} {Q : Exit → Act → World → Prop} {E : Prop} (hgd : o.guard = none) (s x : Operand) (t : TypeId)
    (ho : o.op = .call { callee := .builtin .append, args := #[s, x], argTypes := #[t, t] })
    (base : Nat) (e : TypeId) (i : TypeInfo) (z : Value) (size bytes : Nat) (ht : P.underlying t = some (.slice e)) (hi : P.info? e = some i) (hz : i.zero = some z)
    (hsize : i.size = size) (hby : i.bytes = bytes) (hzs : z.cells.size = size) (hsz : 0 < size)
    (v : Value) (n : Nat) (xs : List Value) (hs : a.eval s = v) (hown : w.ownsRow base e size v n xs)
    (ad : Addr) (m c : Nat) (news : List Value) (hx : a.eval x = .slice (some ad) m c) (hl : news.length = m * size) (hnews : ∀ j u, news[j]? = some u → w.cell? (ad.add j) = some u) (h1 : ∀ u ∈ news, u.oneCell' = true)
    (h63 : n + m ≤ maxLen) (hbytes : (n + m) * bytes ≤ 140737488355328) (hbase : base ≤ w.heap.size)
    (h : ∀ v' w', w'.ownsRow base e size v' (n + m) (xs ++ news) → w.grownBy w' v.ownBlock → K (a.put o.dst v') w') :
    if Region.wanted o (yielded ops a.tmps) = true then Oper.wp P o a w K Q else E := by
  have hw : Region.wanted o (yielded ops a.tmps) = true := by simp [Region.wanted, hgd]
  rw [if_pos hw]
  obtain ⟨v', w', hr, h2, h3, _⟩ := run_append_own (P := P) w base t o.type e i z size bytes ht hi hz hsize hby hzs hsz v n xs hown ad m c news hl hnews h1 h63 hbytes hbase
  unfold Oper.wp execOp
  simp only [ho, resolve, invoke, builtin, Sem.run_bind, Sem.run_pure, Result.andThen_ok, List.map_toArray, List.map_cons, List.map_nil, hs, hx, hr]
  exact h v' w' h2 h3
end Go.Proofs.YtecpeegbfeijaaaDoor

namespace Go.Proofs.YtecpeegbfeijaaaDoor
set_option maxRecDepth 100000
open Go.RowKit

/-- The keys of some operations. -/
def keyV (l : List OpV) : List Value := l.map fun o => .int .i64 o.key
theorem keyV_take (l : List OpV) (k : Nat) (hk : k < l.length) : keyV (l.take (k + 1)) = keyV (l.take k) ++ [.int .i64 l[k].key] := by
  unfold keyV; rw [List.take_succ_eq_append_getElem hk, List.map_append]; rfl
theorem okeys_own {w : World} {base base' : Nat} {v : Value} {e : TypeId} {l : List OpV} (h : w.ownsRow base e 1 v (keyV l).length (keyV l)) (hb : base' ≤ base) : w.ownsRow base' e 1 v l.length (keyV l) := by
  have hkk : (keyV l).length = l.length := by simp [keyV]
  rw [hkk] at h
  obtain ⟨h1, h2⟩ := h
  refine ⟨h1, ?_⟩
  rcases h2 with h2 | ⟨g, cap, cur, e1, e2, r⟩
  · exact .inl h2
  · exact .inr ⟨g, cap, cur, e1, Nat.le_trans hb e2, r⟩
set_option maxHeartbeats 4000000 in
theorem okeys_any (s b c : Int) (va : Value) (l : List OpV) (w : World) (ha : Ops w va l) (hok : ∀ o ∈ l, o.ok) (hlen : l.length ≤ 100000) :
    Calls Tryd.prog 34 #[.agg #[.int .i64 s, .int .i64 b, .int .i64 c, va]] w fun e w' => ∃ v out, e = .returned v ∧ w'.ownsRow w.heap.size 3 1 v out.length (keyV out) ∧ Rise (lastW l) true out ∧ out.length ≤ l.length ∧ Below w.heap.size w w' := by
  obtain ⟨i0, hi, hz0, hz1, hz2⟩ := info_parts infoInt
  obtain ⟨ao, cap, rfl, hal⟩ := ha.form
  have hb0 := box_below w (.cells #[.int .i64 s, .int .i64 b, .int .i64 c, .slice ao l.length cap] 58)
  have CW := Lib.hid (writes_any s b c _ l _ (ha.below hb0) hok hlen)
  clear ha hok
  go_enter Tryd.func34, Tryd.ntmps34
  go_wp2_with fail
  refine (CW.out).mono ?_
  rintro e w1 ⟨v1, out, rfl, hO, hR, hol, hb1⟩
  have hb2 := below_then hb0 hb1
  have HR := Lib.hid (And.intro hR hol)
  have hlim : out.length ≤ 100000 := by omega
  clear CW hb0 hb1 hR hol
  obtain ⟨B, hB⟩ : ∃ B, B = w1.heap.size := ⟨_, rfl⟩
  have hBw : w.heap.size ≤ B := by have := hb2.size; omega
  have hBl : B ≤ w1.heap.size := by omega
  have HB := Lib.hid hB
  clear hB
  have hT := hO.ops
  clear hO
  obtain ⟨a1, cap1, rfl, _⟩ := hT.form
  go_wp2_with fail
  go_loopw [3, 9] (fun v i wr => ∃ k : Nat, k ≤ out.length ∧ i = .int .i64 k ∧ wr.ownsRow B 3 1 v (keyV (out.take k)).length (keyV (out.take k)) ∧ Below B w1 wr)
    (fun _ i _ => out.length - (intOf i).toNat)
  case atStart => exact ⟨0, by omega, rfl, World.ownsRow_nil _ _ _ _, HB.out ▸ Below.refl _ _⟩
  case round =>
    obtain ⟨k, hk, rfl, hown, hb⟩ := hrel
    have hsz := hb.size
    by_cases hlt : k < out.length
    · have hki : (k : Int) < (out.length : Int) := by omega
      obtain ⟨g, o, hao, c0, c1, c2⟩ := (hT.below (HB.out ▸ hb)).at hlt
      cases hao
      have HM := Lib.hid (keyV_take out k hlt)
      have hkl : (keyV (out.take k)).length ≤ 100000 := by simp [keyV]; omega
      generalize out[k].wr = x at *
      generalize out[k].key = y at *
      generalize out[k].val = z at *
      have hbx := hb.alloc (by omega) (.cells #[.bool x, .int .i64 y, .int .i64 z] 54)
      have hownx := hown.alloc (.cells #[.bool x, .int .i64 y, .int .i64 z] 54)
      go_wp2_with (at_builtin; refine wpList_append_own _ rfl _ _ 26 rfl B 3 i0 (.int .i64 0) 1 8 Tryd.underlying26 hi hz0 hz1 hz2 rfl (by decide) _ _ _ rfl (hownx.alloc _) ⟨_, 0, none⟩ 1 1 [.int .i64 y] rfl rfl ?c1 ?c2 ?c3 ?c4 ?c5 ?_)
      case c1 =>
        have e : wr.heap.size + 1 = (wr.alloc (.cells #[.bool x, .int .i64 y, .int .i64 z] 54)).heap.size := by simp
        rw [e]
        exact cell_one_new _ _ _
      case c2 => intro u hu; simp at hu; subst hu; rfl
      case c3 => unfold maxLen; omega
      case c4 => omega
      case c5 => simp; omega
      · intro v' w2 hown' hgrow _
        have hb' := below_app hbx (by omega) hownx hgrow
        clear hown hownx hbx hb hgrow
        go_wp2_with fail
        go_roundw
        case rel =>
          refine ⟨k + 1, by omega, by go_num, ?_, hb'⟩
          rw [HM.out, List.length_append]
          exact hown'
        case measure => simp [intOf]; omega
    · have hkl : k = out.length := by omega
      subst hkl
      rw [List.take_length] at hown
      go_wp2_with fail
      go_ret
      exact ⟨_, out, rfl, okeys_own hown hBw, HR.out.1, HR.out.2, hb2.trans (hb.mono hBw)⟩
end Go.Proofs.YtecpeegbfeijaaaDoor

namespace Go.Proofs.YtecpeegbfeijaaaDoor
set_option maxRecDepth 100000
open Go.RowKit

/-- Of whom a value is read; the keys and whom one reads of, but for oneself. -/
def fromO (F : Int → Option WV) (x : Int) : Int := ((F x).map (·.i)).getD (-1)
def rdFr (F : Int → Option WV) (i : Int) (l : List OpV) : List (Int × Int) := (l.filter fun o => fromO F o.val != i).map fun o => (o.key, fromO F o.val)
def frV (l : List (Int × Int)) : List Value := l.flatMap fun p => [.int .i64 p.1, .int .i64 p.2]
theorem frV_app (l m : List (Int × Int)) : frV (l ++ m) = frV l ++ frV m := by simp [frV]
theorem rdFr_snoc (F : Int → Option WV) (i : Int) (l : List OpV) (k : Nat) (hk : k < l.length) : rdFr F i (l.take (k + 1)) = rdFr F i (l.take k) ++ (if fromO F l[k].val = i then [] else [(l[k].key, fromO F l[k].val)]) := by
  unfold rdFr
  rw [List.take_succ_eq_append_getElem hk, List.filter_append, List.map_append]
  by_cases h : fromO F l[k].val = i <;> simp [h]
theorem rdFr_len (F : Int → Option WV) (i : Int) (l : List OpV) : (rdFr F i l).length ≤ l.length := by
  unfold rdFr; rw [List.length_map]; exact List.length_filter_le _ _
theorem infoRd : (Tryd.prog.info? 93).map (fun i => (i.zero, i.size, i.bytes)) = some (some (.agg #[.int .i64 0, .int .i64 0]), 2, 16) := by kernel_rfl
theorem lit_two (w : World) (x y : Value) (t : TypeId) : ∀ j u, [x, y][j]? = some u → (w.alloc (.cells #[x, y] t)).cell? ((⟨w.heap.size, 0, none⟩ : Addr).add j) = some u := by
  have h := At.new w (.cells #[x, y] t)
  unfold At at h
  generalize w.alloc (.cells #[x, y] t) = w1 at *
  generalize w.heap.size = p at *
  intro j u hu
  rcases j with _ | _ | j
  · simp at hu; subst hu; simp [World.cell?, Addr.add, h]
  · simp at hu; subst hu; simp [World.cell?, Addr.add, h]
  · simp at hu
theorem own_base' {w : World} {base base' : Nat} {v : Value} {e : TypeId} {size n : Nat} {xs : List Value} (h : w.ownsRow base e size v n xs) (hb : base' ≤ base) : w.ownsRow base' e size v n xs := by
  obtain ⟨h1, h2⟩ := h
  refine ⟨h1, ?_⟩
  rcases h2 with h2 | ⟨g, cap, cur, e1, e2, r⟩
  · exact .inl h2
  · exact .inr ⟨g, cap, cur, e1, Nat.le_trans hb e2, r⟩
set_option maxHeartbeats 4000000 in
theorem oreads_any (i s b c : Int) (va : Value) (l : List OpV) (F : Int → Option WV) (bm n cc : Nat) (w : World) (ha : Ops w va l) (hok : ∀ o ∈ l, o.ok) (hlen : l.length ≤ 100000) (hM : MapI eW Tryd.prog 3 w bm n F cc) :
    Calls Tryd.prog 35 #[.int .i64 i, .agg #[.int .i64 s, .int .i64 b, .int .i64 c, va], .map (some bm)] w fun e w' => ∃ v out, e = .returned v ∧ w'.ownsRow w.heap.size 93 2 v (rdFr F i out).length (frV (rdFr F i out)) ∧ Rise (firstO l) false out ∧ out.length ≤ l.length ∧ Below w.heap.size w w' := by
  obtain ⟨i0, hi, hz0, hz1, hz2⟩ := info_parts infoRd
  obtain ⟨ao, cap, rfl, hal⟩ := ha.form
  have hb0 := box_below w (.cells #[.int .i64 s, .int .i64 b, .int .i64 c, .slice ao l.length cap] 58)
  have CW := Lib.hid (reads_any s b c _ l _ (ha.below hb0) hok hlen)
  have HOK := Lib.hid hok
  have HMM := Lib.hid (fun wx (hx : Below w.heap.size w wx) => hM.below hx)
  clear ha hok hM
  go_enter Tryd.func35, Tryd.ntmps35
  go_wp2_with fail
  refine (CW.out).mono ?_
  rintro e w1 ⟨v1, out, rfl, hO, hR, hol, hb1⟩
  have hb2 := below_then hb0 hb1
  have HR := Lib.hid (And.intro hR hol)
  have HV := Lib.hid (fun o (ho : o ∈ out) => HOK.out o (firstO_key (((hR.2 o).1 ho).1)).2)
  have HM := Lib.hid ((HMM.out _ hb2))
  have hlim : out.length ≤ 100000 := by omega
  clear CW hb0 hb1 hR hol HOK HMM
  obtain ⟨B, hB⟩ : ∃ B, B = w1.heap.size := ⟨_, rfl⟩
  have hBw : w.heap.size ≤ B := by have := hb2.size; omega
  have hBl : B ≤ w1.heap.size := by omega
  have HB := Lib.hid hB
  clear hB
  have hT := hO.ops
  clear hO
  obtain ⟨a1, cap1, rfl, _⟩ := hT.form
  go_wp2_with fail
  go_loopw [7, 15] (fun v j wr => ∃ k : Nat, k ≤ out.length ∧ j = .int .i64 k ∧ wr.ownsRow B 93 2 v (rdFr F i (out.take k)).length (frV (rdFr F i (out.take k))) ∧ Below B w1 wr)
    (fun _ j _ => out.length - (intOf j).toNat)
  case atStart => exact ⟨0, by omega, rfl, World.ownsRow_nil _ _ _ _, HB.out ▸ Below.refl _ _⟩
  case round =>
    obtain ⟨k, hk, rfl, hown, hb⟩ := hrel
    have hsz := hb.size
    by_cases hlt : k < out.length
    · have hki : (k : Int) < (out.length : Int) := by omega
      obtain ⟨g, o, hao, c0, c1, c2⟩ := (hT.below (HB.out ▸ hb)).at hlt
      cases hao
      have HS := Lib.hid (rdFr_snoc F i out k hlt)
      have hkl : (rdFr F i (out.take k)).length ≤ 100000 := Nat.le_trans (rdFr_len _ _ _) (by rw [List.length_take]; omega)
      have hkv := inI_of (HV.out out[k] (List.getElem_mem hlt)).2
      have hM2 := (HM.out.below (HB.out ▸ hb)).alloc (.cells #[.bool out[k].wr, .int .i64 out[k].key, .int .i64 out[k].val] 54)
      generalize out[k].wr = x at *
      generalize out[k].key = y at *
      generalize out[k].val = z at *
      have hbx := hb.alloc (by omega) (.cells #[.bool x, .int .i64 y, .int .i64 z] 54)
      have hownx := hown.alloc (.cells #[.bool x, .int .i64 y, .int .i64 z] 54)
      cases hv : F z with
      | none =>
        have hf : fromO F z = -1 := by unfold fromO; rw [hv]; rfl
        rw [hf] at HS
        have hby := hbx.alloc (by have := hbx.size; omega) (.cells #[.int .i64 (-1), .int .i64 0, .bool false] 102)
        have howny := hownx.alloc (.cells #[.int .i64 (-1), .int .i64 0, .bool false] 102)
        by_cases hfi : (-1) = i
        · rw [if_pos hfi, List.append_nil] at HS
          subst hfi
          go_wp2_with (at_lookup; refine wpList_lookI_ok _ rfl _ _ 81 rfl 3 102 keyI mapIW wZ (zeroW _) _ _ _ _ rfl hM2 _ rfl hkv ?_; rw [hv]; simp only [Option.getD_none, Option.isSome_none, eW, wZ])
          go_roundw
          case rel => exact ⟨k + 1, by omega, by go_num, by rw [HS.out]; exact howny, hby⟩
          case measure => simp [intOf]; omega
        · rw [if_neg hfi] at HS
          go_wp2_with (first | (at_lookup; refine wpList_lookI_ok _ rfl _ _ 81 rfl 3 102 keyI mapIW wZ (zeroW _) _ _ _ _ rfl hM2 _ rfl hkv ?_; rw [hv]; simp only [Option.getD_none, Option.isSome_none, eW, wZ]) | (at_builtin; refine wpList_append_own _ rfl _ _ 85 rfl B 93 i0 (.agg #[.int .i64 0, .int .i64 0]) 2 16 Tryd.underlying85 hi hz0 hz1 hz2 rfl (by decide) _ _ _ rfl (howny.alloc _) ⟨_, 0, none⟩ 1 1 [.int .i64 y, .int .i64 (-1)] rfl rfl ?c1 ?c2 ?c3 ?c4 ?c5 ?_))
          case c1 =>
            have e : wr.heap.size + 1 + 1 = ((wr.alloc (.cells #[.bool x, .int .i64 y, .int .i64 z] 54)).alloc (.cells #[.int .i64 (-1), .int .i64 0, .bool false] 102)).heap.size := by simp
            rw [e]
            exact lit_two _ _ _ _
          case c2 => intro u hu; simp at hu; rcases hu with rfl | rfl <;> rfl
          case c3 => unfold maxLen; omega
          case c4 => omega
          case c5 => simp; omega
          · intro v' w2 hown' hgrow _
            have hb' := below_app hby (by omega) howny hgrow
            clear hown hownx howny hbx hby hb hgrow
            go_wp2_with fail
            go_roundw
            case rel =>
              refine ⟨k + 1, by omega, by go_num, ?_, hb'⟩
              rw [HS.out, frV_app, List.length_append]
              exact hown'
            case measure => simp [intOf]; omega
      | some u =>
        have hf : fromO F z = u.i := by unfold fromO; rw [hv]; rfl
        rw [hf] at HS
        obtain ⟨ui, uk, ul⟩ := u
        simp only at HS
        have hby := hbx.alloc (by have := hbx.size; omega) (.cells #[.int .i64 ui, .int .i64 uk, .bool ul] 102)
        have howny := hownx.alloc (.cells #[.int .i64 ui, .int .i64 uk, .bool ul] 102)
        by_cases hfi : ui = i
        · rw [if_pos hfi, List.append_nil] at HS
          subst hfi
          go_wp2_with (at_lookup; refine wpList_lookI_ok _ rfl _ _ 81 rfl 3 102 keyI mapIW wZ (zeroW _) _ _ _ _ rfl hM2 _ rfl hkv ?_; rw [hv]; simp only [Option.getD_some, Option.isSome_some, eW])
          go_roundw
          case rel => exact ⟨k + 1, by omega, by go_num, by rw [HS.out]; exact howny, hby⟩
          case measure => simp [intOf]; omega
        · rw [if_neg hfi] at HS
          go_wp2_with (first | (at_lookup; refine wpList_lookI_ok _ rfl _ _ 81 rfl 3 102 keyI mapIW wZ (zeroW _) _ _ _ _ rfl hM2 _ rfl hkv ?_; rw [hv]; simp only [Option.getD_some, Option.isSome_some, eW]) | (at_builtin; refine wpList_append_own _ rfl _ _ 85 rfl B 93 i0 (.agg #[.int .i64 0, .int .i64 0]) 2 16 Tryd.underlying85 hi hz0 hz1 hz2 rfl (by decide) _ _ _ rfl (howny.alloc _) ⟨_, 0, none⟩ 1 1 [.int .i64 y, .int .i64 ui] rfl rfl ?c1 ?c2 ?c3 ?c4 ?c5 ?_))
          case c2 => exact ⟨rfl, rfl⟩
          case c3 => unfold maxLen; omega
          case c4 => omega
          case c5 => omega
          · intro v' w2 hown' hgrow _
            have hb' := below_app hby (by omega) howny hgrow
            clear hown hownx howny hbx hby hb hgrow
            go_wp2_with fail
            go_roundw
            case rel =>
              refine ⟨k + 1, by omega, by go_num, ?_, hb'⟩
              rw [HS.out, frV_app, List.length_append]
              exact hown'
            case measure => simp [intOf]; omega
    · have hkl : k = out.length := by omega
      subst hkl
      rw [List.take_length] at hown
      go_wp2_with fail
      go_ret
      exact ⟨_, out, rfl, own_base' hown hBw, HR.out.1, HR.out.2, hb2.trans (hb.mono hBw)⟩
end Go.Proofs.YtecpeegbfeijaaaDoor

namespace Go.Proofs.YtecpeegbfeijaaaDoor
set_option maxRecDepth 100000
open Go.RowKit

/-- A read of what its writer overwrites, or of what oneself writes. -/
def badFr (F : Int → Option WV) (i : Int) (o : OpV) : Bool := match F o.val with | none => false | some u => decide (u.i = i) || !u.last
theorem anyf_take {f : OpV → Bool} {l : List OpV} {k : Nat} (hk : k < l.length) (h : (l.take k).any f = false) : (l.take (k + 1)).any f = f l[k] := by
  rw [List.take_succ_eq_append_getElem hk, List.any_append, h]; simp
theorem anyf_hit {f : OpV → Bool} {l : List OpV} {k : Nat} (hk : k < l.length) (h : f l[k] = true) : l.any f = true := List.any_eq_true.2 ⟨_, List.getElem_mem hk, h⟩
set_option maxHeartbeats 4000000 in
theorem osound_any (i s b c : Int) (va : Value) (l : List OpV) (F : Int → Option WV) (bm n cc : Nat) (w : World) (ha : Ops w va l) (hok : ∀ o ∈ l, o.ok) (hlen : l.length ≤ 100000) (hM : MapI eW Tryd.prog 3 w bm n F cc) :
    Calls Tryd.prog 36 #[.int .i64 i, .agg #[.int .i64 s, .int .i64 b, .int .i64 c, va], .map (some bm)] w fun e w' => ∃ out, e = .returned (.bool (!out.any (badFr F i) && steadyL l)) ∧ Rise (firstO l) false out ∧ out.length ≤ l.length ∧ Below w.heap.size w w' := by
  obtain ⟨ao, cap, rfl, hal⟩ := ha.form
  have hb0 := box_below w (.cells #[.int .i64 s, .int .i64 b, .int .i64 c, .slice ao l.length cap] 58)
  have CW := Lib.hid (reads_any s b c _ l _ (ha.below hb0) hok hlen)
  have HOK := Lib.hid hok
  have HA := Lib.hid (fun wx (hx : Below w.heap.size w wx) => ha.below hx)
  have HMM := Lib.hid (fun wx (hx : Below w.heap.size w wx) => hM.below hx)
  have hx0 := txnBlock w (.int .i64 s) (.int .i64 b) (.int .i64 c) (.slice ao l.length cap) 58
  have hA0 := At.new w (.cells #[.int .i64 s, .int .i64 b, .int .i64 c, .slice ao l.length cap] 58)
  clear ha hok hM hx0
  go_enter Tryd.func36, Tryd.ntmps36
  go_wp2_with fail
  refine (CW.out).mono ?_
  rintro e w1 ⟨v1, out, rfl, hO, hR, hol, hb1⟩
  have hb2 := below_then hb0 hb1
  have hA1 := hA0.below hb1
  have HR := Lib.hid (And.intro hR hol)
  have HV := Lib.hid (fun o (ho : o ∈ out) => HOK.out o (firstO_key (((hR.2 o).1 ho).1)).2)
  have HM := Lib.hid ((HMM.out _ hb2))
  have hlim : out.length ≤ 100000 := by omega
  clear CW hb0 hb1 hR hol HMM hA0
  have hT := hO.ops
  clear hO
  obtain ⟨a1, cap1, rfl, _⟩ := hT.form
  go_wp2_with fail
  go_loopw [14] (fun j wr => ∃ k : Nat, k ≤ out.length ∧ j = .int .i64 k ∧ (out.take k).any (badFr F i) = false ∧ Below w1.heap.size w1 wr)
    (fun j _ => out.length - (intOf j).toNat)
  case atStart => exact ⟨0, by omega, rfl, rfl, Below.refl _ _⟩
  case round =>
    obtain ⟨k, hk, rfl, hno, hb⟩ := hrel
    have HNO := Lib.hid hno
    clear hno
    have hsz := hb.size
    by_cases hlt : k < out.length
    · have hki : (k : Int) < (out.length : Int) := by omega
      obtain ⟨g, o, hao, c0, c1, c2⟩ := (hT.below hb).at hlt
      cases hao
      have HS := Lib.hid (anyf_take hlt HNO.out)
      have HH := Lib.hid (fun h => anyf_hit (f := badFr F i) hlt h)
      have HBD : Hid (badFr F i out[k] = match F out[k].val with | none => false | some u => decide (u.i = i) || !u.last) := Lib.hid rfl
      have hkv := inI_of (HV.out out[k] (List.getElem_mem hlt)).2
      have hM2 := (HM.out.below hb).alloc (.cells #[.bool out[k].wr, .int .i64 out[k].key, .int .i64 out[k].val] 54)
      generalize badFr F i out[k] = bd at *
      generalize out[k].wr = x at *
      generalize out[k].key = y at *
      generalize out[k].val = z at *
      have hbx := hb.alloc hb.size (.cells #[.bool x, .int .i64 y, .int .i64 z] 54)
      cases hv : F z with
      | none =>
        have HF : Hid (bd = false) := Lib.hid (by rw [HBD.out, hv])
        have hby := hbx.alloc hbx.size (.cells #[.int .i64 0, .int .i64 0, .bool false] 102)
        clear HBD
        go_wp2_with (at_lookup; refine wpList_lookI_ok _ rfl _ _ 81 rfl 3 102 keyI mapIW wZ (zeroW _) _ _ _ _ rfl hM2 _ rfl hkv ?_; rw [hv]; simp only [Option.getD_none, Option.isSome_none, eW, wZ])
        go_roundw
        case rel => exact ⟨k + 1, by omega, by go_num, by rw [HS.out, HF.out], hby⟩
        case measure => simp [intOf]; omega
      | some u =>
        obtain ⟨ui, uk, ul⟩ := u
        have HF : Hid (bd = (decide (ui = i) || !ul)) := Lib.hid (by rw [HBD.out, hv])
        have hby := hbx.alloc hbx.size (.cells #[.int .i64 ui, .int .i64 uk, .bool ul] 102)
        clear HBD
        by_cases hfi : ui = i
        · have HB2 : Hid (bd = true) := Lib.hid (by rw [HF.out, decide_eq_true hfi]; rfl)
          subst hfi
          go_wp2_with (at_lookup; refine wpList_lookI_ok _ rfl _ _ 81 rfl 3 102 keyI mapIW wZ (zeroW _) _ _ _ _ rfl hM2 _ rfl hkv ?_; rw [hv]; simp only [Option.getD_some, Option.isSome_some, eW])
          go_ret
          exact ⟨out, by rw [HH.out HB2.out]; rfl, HR.out.1, HR.out.2, hb2.trans (hby.mono hb2.size)⟩
        · cases ul with
          | false =>
            have HB2 : Hid (bd = true) := Lib.hid (by rw [HF.out]; simp)
            go_wp2_with (at_lookup; refine wpList_lookI_ok _ rfl _ _ 81 rfl 3 102 keyI mapIW wZ (zeroW _) _ _ _ _ rfl hM2 _ rfl hkv ?_; rw [hv]; simp only [Option.getD_some, Option.isSome_some, eW])
            go_ret
            exact ⟨out, by rw [HH.out HB2.out]; rfl, HR.out.1, HR.out.2, hb2.trans (hby.mono hb2.size)⟩
          | true =>
            have HB2 : Hid (bd = false) := Lib.hid (by rw [HF.out, decide_eq_false hfi]; rfl)
            go_wp2_with (at_lookup; refine wpList_lookI_ok _ rfl _ _ 81 rfl 3 102 keyI mapIW wZ (zeroW _) _ _ _ _ rfl hM2 _ rfl hkv ?_; rw [hv]; simp only [Option.getD_some, Option.isSome_some, eW])
            go_roundw
            case rel => exact ⟨k + 1, by omega, by go_num, by rw [HS.out, HB2.out], hby⟩
            case measure => simp [intOf]; omega
    · have hkl : k = out.length := by omega
      subst hkl
      have HNA : Hid (out.any (badFr F i) = false) := Lib.hid (by have h := HNO.out; rwa [List.take_length] at h)
      obtain ⟨q0, q1, q2, q3⟩ := (hA1.below hb).cells4
      have hb3 := hb2.trans (hb.mono hb2.size)
      have CS := Lib.hid (steady_any s b c _ l wr (HA.out _ hb3) HOK.out hlen)
      go_wp2_with fail
      refine (CS.out).mono ?_
      rintro e w6 ⟨rfl, hb6⟩
      have hb7 := hb3.trans (hb6.mono hb3.size)
      go_wp2_with fail
      go_ret
      exact ⟨out, by rw [HNA.out]; rfl, HR.out.1, HR.out.2, hb7⟩
end Go.Proofs.YtecpeegbfeijaaaDoor

namespace Go.Proofs.YtecpeegbfeijaaaDoor
set_option maxRecDepth 100000
open Go.RowKit

/-- A slice of what is read of others. -/
def Frs (w : World) (v : Value) (l : List (Int × Int)) : Prop := Row w v l.length 2 (frV l)
theorem Frs.below {w w' : World} {v : Value} {l : List (Int × Int)} (h : Frs w v l) (hb : Below w.heap.size w w') : Frs w' v l := Row.below h hb
theorem frV_at : ∀ (l : List (Int × Int)) (k : Nat) (hk : k < l.length), (frV l)[k * 2]? = some (.int .i64 l[k].1) ∧ (frV l)[k * 2 + 1]? = some (.int .i64 l[k].2)
  | [], k, hk => by simp at hk
  | p :: l, 0, _ => by simp [frV]
  | p :: l, k + 1, hk => by
    obtain ⟨h1, h2⟩ := frV_at l k (by simpa using hk)
    have e : (k + 1) * 2 = k * 2 + 1 + 1 := by omega
    have e2 : frV (p :: l) = .int .i64 p.1 :: .int .i64 p.2 :: frV l := rfl
    rw [e, e2]
    exact ⟨by simpa using h1, by simpa using h2⟩
theorem Frs.form {w : World} {v : Value} {l : List (Int × Int)} (h : Frs w v l) : ∃ ao cap, v = .slice ao l.length cap ∧ l.length ≤ 9223372036854775807 := by
  obtain ⟨_, ao, cap, rfl, hm, _, _⟩ := h
  exact ⟨ao, cap, rfl, Nat.le_trans hm.1 hm.2⟩
theorem Frs.at {w : World} {ao : Option Addr} {n cap : Nat} {l : List (Int × Int)} (h : Frs w (.slice ao n cap) l) {k : Nat} (hk : k < l.length) :
    ∃ b off, ao = some ⟨b, off, none⟩ ∧ w.cell? ⟨b, off + k * 2, none⟩ = some (.int .i64 l[k].1) ∧ w.cell? ⟨b, off + k * 2 + 1, none⟩ = some (.int .i64 l[k].2) := by
  obtain ⟨_, ao', cap', he, hm, _, hc⟩ := h
  obtain ⟨rfl, _, _⟩ : ao = ao' ∧ n = l.length ∧ cap = cap' := by simpa using he
  obtain ⟨b, off, rfl, hcell⟩ := hc (by omega)
  obtain ⟨h0, h1⟩ := frV_at l k hk
  exact ⟨b, off, rfl, by rw [hcell _ (by omega), h0], by rw [Nat.add_assoc, hcell _ (by omega), h1]⟩
set_option maxHeartbeats 4000000 in
theorem offrom1_any (y f a : Int) (q : Nat) (w : World) (hq : w.cell? ⟨q, 0, none⟩ = some (.int .i64 a)) :
    Calls Tryd.prog 43 #[.agg #[.int .i64 y, .int .i64 f], .pointer (some ⟨q, 0, none⟩)] w fun e w' => e = .returned (.bool (decide (f = a))) ∧ Below w.heap.size w w' := by
  have hq' := (box_below w (.cells #[.int .i64 y, .int .i64 f] 93)).cell (p := ⟨q, 0, none⟩) (block_lt hq)
  rw [hq] at hq'
  go_enter Tryd.func43, Tryd.ntmps43
  go_wp2_with fail
  go_ret
  exact ⟨rfl, (Below.refl _ _).alloc (Nat.le_refl _) _⟩
theorem frs_take {f : Int × Int → Bool} {l : List (Int × Int)} {k : Nat} (hk : k < l.length) (h : (l.take k).any f = false) : (l.take (k + 1)).any f = f l[k] := by
  rw [List.take_succ_eq_append_getElem hk, List.any_append, h]; simp
set_option maxHeartbeats 4000000 in
theorem ofindex_any (va : Value) (l : List (Int × Int)) (a : Int) (q : Nat) (w : World) (hT : Frs w va l) (hq : w.cell? ⟨q, 0, none⟩ = some (.int .i64 a)) :
    Calls Tryd.prog 64 #[va, .func (.func 43) #[] #[.pointer (some ⟨q, 0, none⟩)]] w fun e w' => ∃ r : Int, e = .returned (.int .i64 r) ∧ decide (0 ≤ r) = l.any (fun p => decide (p.2 = a)) ∧ Below w.heap.size w w' := by
  obtain ⟨ao, cap, rfl, hal⟩ := hT.form
  have HQ := Lib.hid (fun wx (hx : Below w.heap.size w wx) => (hx.cell (p := ⟨q, 0, none⟩) (block_lt hq)).trans hq)
  clear hq
  go_enter Tryd.func64, Tryd.ntmps64
  go_wp2_with fail
  go_loopw [8] (fun i wr => ∃ k : Nat, k ≤ l.length ∧ i = .int .i64 k ∧ (l.take k).any (fun p => decide (p.2 = a)) = false ∧ Below w.heap.size w wr) (fun i _ => l.length - (intOf i).toNat)
  case atStart => exact ⟨0, by omega, rfl, rfl, Below.refl _ _⟩
  case round =>
    obtain ⟨k, hk, rfl, hno, hb⟩ := hrel
    have HNO := Lib.hid hno
    clear hno
    by_cases hlt : k < l.length
    · have hki : (k : Int) < (l.length : Int) := by omega
      obtain ⟨g, o, hao, c0, c1⟩ := (hT.below hb).at hlt
      cases hao
      have HS := Lib.hid (frs_take hlt HNO.out)
      have HH : Hid (decide (l[k].2 = a) = true → l.any (fun p => decide (p.2 = a)) = true) := Lib.hid (fun h => List.any_eq_true.2 ⟨_, List.getElem_mem hlt, h⟩)
      have CF := Lib.hid (offrom1_any l[k].1 l[k].2 a q wr (HQ.out _ hb))
      generalize l[k] = z at *
      obtain ⟨y, f⟩ := z
      simp only at c0 c1 HS HH CF
      by_cases hf : f = a
      · have HD : Hid (l.any (fun p => decide (p.2 = a)) = true) := Lib.hid (HH.out (decide_eq_true hf))
        rw [decide_eq_true hf] at CF
        clear hf HH HS
        go_wp2_with (go_at_call 43; refine (CF.out).mono ?_; rintro e w6 ⟨rfl, hb6⟩)
        have hbb := hb.trans (hb6.mono hb.size)
        go_ret
        exact ⟨_, rfl, by rw [HD.out]; exact decide_eq_true (by omega), hbb⟩
      · have HD : Hid ((l.take (k + 1)).any (fun p => decide (p.2 = a)) = false) := Lib.hid (by rw [HS.out]; exact decide_eq_false hf)
        rw [decide_eq_false hf] at CF
        clear hf HH HS
        go_wp2_with (go_at_call 43; refine (CF.out).mono ?_; rintro e w6 ⟨rfl, hb6⟩)
        have hbb := hb.trans (hb6.mono hb.size)
        go_roundw
        case rel => exact ⟨k + 1, by omega, by go_num, HD.out, hbb⟩
        case measure => simp [intOf]; omega
    · have hkl : k = l.length := by omega
      subst hkl
      have HD : Hid (l.any (fun p => decide (p.2 = a)) = false) := Lib.hid (by have h := HNO.out; rwa [List.take_length] at h)
      go_wp2_with fail
      go_ret
      exact ⟨_, rfl, by rw [HD.out]; rfl, hb⟩
end Go.Proofs.YtecpeegbfeijaaaDoor

namespace Go.Proofs.YtecpeegbfeijaaaDoor
set_option maxRecDepth 100000
open Go.RowKit

set_option maxHeartbeats 4000000 in
theorem ofcontains_any (va : Value) (l : List (Int × Int)) (a : Int) (q : Nat) (w : World) (hT : Frs w va l) (hq : w.cell? ⟨q, 0, none⟩ = some (.int .i64 a)) :
    Calls Tryd.prog 42 #[va, .func (.func 43) #[] #[.pointer (some ⟨q, 0, none⟩)]] w fun e w' => e = .returned (.bool (l.any (fun p => decide (p.2 = a)))) ∧ Below w.heap.size w w' := by
  have CI := Lib.hid (ofindex_any va l a q w hT hq)
  obtain ⟨ao, cap, rfl, hal⟩ := hT.form
  clear hT hq
  generalize l.any (fun p => decide (p.2 = a)) = B at *
  go_enter Tryd.func42, Tryd.ntmps42
  go_wp2_with fail
  refine (CI.out).mono ?_
  rintro e w6 ⟨r, rfl, hr, hb6⟩
  go_wp2_with fail
  go_ret
  exact ⟨by subst hr; rfl, hb6⟩
/-- Slices of what is read of others in a slice. -/
def FRws (w : World) (v : Value) (K : List (Value × List (Int × Int))) : Prop := Row w v K.length 1 (K.map (·.1)) ∧ ∀ p ∈ K, Frs w p.1 p.2
theorem FRws.below {w w' : World} {v : Value} {K : List (Value × List (Int × Int))} (h : FRws w v K) (hb : Below w.heap.size w w') : FRws w' v K := ⟨Row.below h.1 hb, fun p hp => (h.2 p hp).below hb⟩
theorem FRws.form {w : World} {v : Value} {K : List (Value × List (Int × Int))} (h : FRws w v K) : ∃ ao cap, v = .slice ao K.length cap := by
  obtain ⟨⟨_, ao, cap, rfl, _⟩, _⟩ := h
  exact ⟨ao, cap, rfl⟩
theorem FRws.at {w : World} {ao : Option Addr} {n cap : Nat} {K : List (Value × List (Int × Int))} (h : FRws w (.slice ao n cap) K) {k : Nat} (hk : k < K.length) :
    ∃ b off, ao = some ⟨b, off, none⟩ ∧ w.cell? ⟨b, off + k, none⟩ = some K[k].1 ∧ Frs w K[k].1 K[k].2 := by
  obtain ⟨⟨_, ao', cap', he, hm, _, hc⟩, hi⟩ := h
  obtain ⟨rfl, _, _⟩ : ao = ao' ∧ n = K.length ∧ cap = cap' := by simpa using he
  obtain ⟨b, off, rfl, hcell⟩ := hc (by omega)
  exact ⟨b, off, rfl, by rw [hcell k (by omega)]; simp [List.getElem?_eq_getElem hk], hi _ (List.getElem_mem hk)⟩
set_option maxHeartbeats 4000000 in
theorem offrom_any (vr : Value) (K : List (Value × List (Int × Int))) (a b : Nat) (p ob : Nat) (w : World) (hp : w.cell? ⟨p, 0, none⟩ = some (.pointer (some ⟨ob, 0, none⟩))) (hr : w.cell? ⟨ob, 195, none⟩ = some vr) (hT : FRws w vr K) (hb : b < K.length) :
    Calls Tryd.prog 41 #[.int .i64 a, .int .i64 b, .pointer (some ⟨p, 0, none⟩)] w fun e w' => e = .returned (.bool (K[b].2.any (fun r => decide (r.2 = (a : Int))))) ∧ Below w.heap.size w w' := by
  obtain ⟨ao, cap, rfl⟩ := hT.form
  have hbi : (b : Int) < (K.length : Int) := by omega
  have hb0 := box_below w (.cells #[.int .i64 a] 3)
  have hp0 := (hb0.cell (p := ⟨p, 0, none⟩) (block_lt hp)).trans hp
  have hr0 := (hb0.cell (p := ⟨ob, 195, none⟩) (block_lt hr)).trans hr
  have hq0 : (w.alloc (.cells #[.int .i64 a] 3)).cell? ⟨w.heap.size, 0, none⟩ = some (.int .i64 a) := by rw [cell_of_row _ _ 0 _ _ _ (heap_alloc_new w _)]; rfl
  obtain ⟨g, o, hao, c0, hF⟩ := (hT.below hb0).at hb
  cases hao
  have CC := Lib.hid (ofcontains_any _ _ (a : Int) w.heap.size _ hF hq0)
  obtain ⟨aq, capq, hqv, hql⟩ := hF.form
  rw [hqv] at c0 CC
  have hmf : ∀ (fn : Fn) (first cap : Array Value) (w : World), (Instr.makeFunc fn first cap).run Tryd.prog w = .ok (.func fn first cap) w := fun _ _ _ _ => rfl
  generalize K[b].2.any (fun r => decide (r.2 = (a : Int))) = B at *
  generalize K[b].2.length = m at *
  clear hT hF hqv hp hr
  go_enter Tryd.func41, Tryd.ntmps41
  go_wp2_with fail
  refine (CC.out).mono ?_
  rintro e w6 ⟨rfl, hb6⟩
  have hbb := below_then hb0 hb6
  go_wp2_with fail
  go_ret
  exact ⟨rfl, hbb⟩
end Go.Proofs.YtecpeegbfeijaaaDoor

namespace Go.Proofs.YtecpeegbfeijaaaDoor
set_option maxRecDepth 100000
open Go.RowKit

/-- Slices of ints in a slice: each one's value and what it holds. -/
def Rws (w : World) (v : Value) (K : List (Value × List Int)) : Prop := Row w v K.length 1 (K.map (·.1)) ∧ ∀ p ∈ K, Ints w p.1 p.2
theorem Rws.below {w w' : World} {v : Value} {K : List (Value × List Int)} (h : Rws w v K) (hb : Below w.heap.size w w') : Rws w' v K := ⟨Row.below h.1 hb, fun p hp => (h.2 p hp).below hb⟩
theorem Rws.form {w : World} {v : Value} {K : List (Value × List Int)} (h : Rws w v K) : ∃ ao cap, v = .slice ao K.length cap := by
  obtain ⟨⟨_, ao, cap, rfl, _⟩, _⟩ := h
  exact ⟨ao, cap, rfl⟩
theorem Rws.at {w : World} {ao : Option Addr} {n cap : Nat} {K : List (Value × List Int)} (h : Rws w (.slice ao n cap) K) {k : Nat} (hk : k < K.length) :
    ∃ b off, ao = some ⟨b, off, none⟩ ∧ w.cell? ⟨b, off + k, none⟩ = some K[k].1 ∧ Ints w K[k].1 K[k].2 := by
  obtain ⟨⟨_, ao', cap', he, hm, _, hc⟩, hi⟩ := h
  obtain ⟨rfl, _, _⟩ : ao = ao' ∧ n = K.length ∧ cap = cap' := by simpa using he
  obtain ⟨b, off, rfl, hcell⟩ := hc (by omega)
  exact ⟨b, off, rfl, by rw [hcell k (by omega)]; simp [List.getElem?_eq_getElem hk], hi _ (List.getElem_mem hk)⟩
def eS (s : Nat) : Value := .int .u64 (s : Int)
/-- Who writes to each key: a row's first ones; the first rows. -/
def wrsRow (i : Nat) (F : Int → Option Nat) (xs : List Int) : Int → Option Nat := xs.foldl (fun F x => putF F x (withS ((F x).getD 0) i)) F
def wrsTo (K : List (Value × List Int)) : Nat → Int → Option Nat
  | 0 => fun _ => none
  | k + 1 => wrsRow k (wrsTo K k) ((K[k]?.map (·.2)).getD [])
theorem wrsRow_snoc (i : Nat) (F : Int → Option Nat) (xs : List Int) (k : Nat) (hk : k < xs.length) : wrsRow i F (xs.take (k + 1)) = putF (wrsRow i F (xs.take k)) xs[k] (withS ((wrsRow i F (xs.take k) xs[k]).getD 0) i) := by
  unfold wrsRow; rw [List.take_succ_eq_append_getElem hk, List.foldl_append]; rfl
theorem wrsTo_succ {K : List (Value × List Int)} {k : Nat} (hk : k < K.length) : wrsTo K (k + 1) = wrsRow k (wrsTo K k) K[k].2 := by
  show wrsRow k (wrsTo K k) _ = _
  rw [List.getElem?_eq_getElem hk]; rfl
/-- Each key's is a set. -/
def AllSet (F : Int → Option Nat) : Prop := ∀ x, IsSet ((F x).getD 0)
theorem AllSet.put {F : Int → Option Nat} (h : AllSet F) (x : Int) {s : Nat} (hs : IsSet s) : AllSet (putF F x s) := fun y => by
  by_cases e : y = x
  · rw [e, putF_same]; exact hs
  · rw [putF_other F s e]; exact h y
theorem mapIS : Tryd.prog.underlying 69 = some (.map 3 36) := Tryd.underlying69
theorem zeroS (w : World) : (zeroValue 36).run Tryd.prog w = .ok (eS 0) w := by kernel_rfl
set_option maxHeartbeats 8000000 in
theorem owriters_any (v : Value) (K : List (Value × List Int)) (w : World) (hK : Rws w v K) (hlen : K.length ≤ 100) (hrow : ∀ p ∈ K, p.2.length ≤ 100000) (hint : ∀ p ∈ K, ∀ x ∈ p.2, InI x) :
    Calls Tryd.prog 37 #[v] w fun e w' => ∃ b n c, e = .returned (.map (some b)) ∧ w.heap.size ≤ b ∧ MapI eS Tryd.prog 3 w' b n (wrsTo K K.length) c ∧ AllSet (wrsTo K K.length) ∧ Below w.heap.size w w' := by
  obtain ⟨ao, cap, rfl⟩ := hK.form
  have HR := Lib.hid hrow
  have HI := Lib.hid hint
  clear hrow hint
  have hm0 := MapI.made eS Tryd.prog 3 w
  have hb1 := (Below.refl w.heap.size w).alloc (Nat.le_refl _) (.map #[] 0)
  have hmm := @run_makeMap Tryd.prog
  go_enter Tryd.func37, Tryd.ntmps37
  go_wp2_with fail
  go_loopw [11] (fun i wr => ∃ k n c : Nat, k ≤ K.length ∧ i = .int .i64 k ∧ n ≤ 100000 * k ∧ AllSet (wrsTo K k) ∧ MapI eS Tryd.prog 3 wr w.heap.size n (wrsTo K k) c ∧ Below w.heap.size w wr) (fun i _ => K.length - (intOf i).toNat)
  case atStart => exact ⟨0, 0, 0, by omega, rfl, by omega, fun _ => (show IsSet 0 from by unfold IsSet; omega), hm0, hb1⟩
  case round =>
    obtain ⟨k, n, c, hk, rfl, hnn, hA, hM, hb⟩ := hrel
    clear hm0 hb1
    by_cases hlt : k < K.length
    · have hki : (k : Int) < (K.length : Int) := by omega
      have hKr := hK.below hb
      obtain ⟨g, o, hao, c0, hin⟩ := hKr.at hlt
      cases hao
      have HS := Lib.hid (wrsTo_succ hlt)
      have hrl := HR.out K[k] (List.getElem_mem hlt)
      have HIK := Lib.hid (HI.out K[k] (List.getElem_mem hlt))
      have HIN := Lib.hid (fun wx (hx : Below w.heap.size w wx) => (hK.2 K[k] (List.getElem_mem hlt)).below hx)
      generalize K[k] = q at *
      obtain ⟨qv, xs⟩ := q
      simp only at c0 hin HS hrl HIK HIN
      obtain ⟨ax, cx, rfl, hxl⟩ := hin.form
      generalize wrsTo K k = F at *
      clear hKr hin
      go_wp2_with fail
      go_loopw [18] (fun i wx => ∃ j m d : Nat, j ≤ xs.length ∧ i = .int .i64 j ∧ m ≤ 100000 * k + j ∧ AllSet (wrsRow k F (xs.take j)) ∧ MapI eS Tryd.prog 3 wx w.heap.size m (wrsRow k F (xs.take j)) d ∧ Below w.heap.size w wx) (fun i _ => xs.length - (intOf i).toNat)
      case atStart => exact ⟨0, n, c, by omega, rfl, by omega, hA, hM, hb⟩
      case round =>
        obtain ⟨j, m, d, hj, rfl, hmm2, hA2, hM2, hb2⟩ := hrel
        clear hA hM
        by_cases hltj : j < xs.length
        · have hkj : (j : Int) < (xs.length : Int) := by omega
          obtain ⟨g2, o2, hao2, e0⟩ := (HIN.out _ hb2).at hltj
          cases hao2
          have HSJ := Lib.hid (wrsRow_snoc k F xs j hltj)
          have hkv := HIK.out xs[j] (List.getElem_mem hltj)
          have hset := hA2 xs[j]
          have HAN := Lib.hid (hA2.put xs[j] (isSet_withS (n := (k : Int)) hset))
          generalize xs[j] = x at *
          generalize wrsRow k F (xs.take j) = G at *
          have CW := Lib.hid (fun wx => with_any ((G x).getD 0) (k : Int) wx hset)
          clear hset hA2
          go_wp2_with (first
            | (at_lookup; refine wpList_lookI _ rfl _ _ 69 rfl 3 36 keyI mapIS 0 (zeroS _) _ _ _ _ rfl hM2 _ rfl hkv ?_; simp only [eS])
            | (go_at_call 30; refine (CW.out _).mono ?_; rintro e w' ⟨rfl, rfl⟩)
            | (at_mapUpdate; refine wpList_putI _ rfl _ _ _ 69 rfl 3 36 keyI mapIS _ _ _ _ rfl hM2 (by unfold maxLen; omega) _ rfl hkv (withS ((G x).getD 0) (k : Int)) rfl ?_; intro w5 hM5 hg5; go_frame))
          have hb5 := hb2.grown hg5 hb2.size (fun q hq => by cases hq; exact Nat.le_refl _)
          clear hM2 hb2 hg5
          go_wp2_with fail
          go_roundw
          case rel => exact ⟨j + 1, m + 1, _, by omega, by go_num, by omega, by rw [HSJ.out]; exact HAN.out, by rw [HSJ.out]; exact hM5, hb5⟩
          case measure => simp [intOf]; omega
        · have hj2 : j = xs.length := by omega
          subst hj2
          rw [List.take_length] at hA2 hM2
          go_wp2_with fail
          go_roundw
          case rel => exact ⟨k + 1, m, d, by omega, by go_num, by omega, by rw [HS.out]; exact hA2, by rw [HS.out]; exact hM2, hb2⟩
          case measure => simp [intOf]; omega
    · have hkl : k = K.length := by omega
      subst hkl
      go_wp2_with fail
      go_ret
      exact ⟨_, _, _, rfl, Nat.le_refl _, hM, hA, hb⟩
end Go.Proofs.YtecpeegbfeijaaaDoor

namespace Go.Proofs.YtecpeegbfeijaaaDoor
set_option maxRecDepth 100000
open Go.RowKit

/-- The cells of the block, one by one. -/
def ordF (n : Int) (S T F : Mat) (vm vk vr : Value) (sd : Bool) (i : Nat) : Value :=
  if i = 0 then .int .i64 n else if i < 65 then .int .u64 ((mkS (S (i - 1)) : Nat) : Int) else if i < 129 then .int .u64 ((mkS (T (i - 65)) : Nat) : Int) else if i < 193 then .int .u64 ((mkS (F (i - 129)) : Nat) : Int) else
  if i = 193 then vm else if i = 194 then vk else if i = 195 then vr else .bool sd
/-- The block that holds what follows of a history. -/
def OrdAt (w : World) (B : Nat) (n : Int) (S T F : Mat) (vm vk vr : Value) (sd : Bool) : Prop := ∀ i, i < 197 → w.cell? ⟨B, i, none⟩ = some (ordF n S T F vm vk vr sd i) ∧ w.frozen? ⟨B, i, none⟩ = false
section
variable {w : World} {B : Nat} {n : Int} {S T F : Mat} {vm vk vr : Value} {sd : Bool}
theorem OrdAt.lt (h : OrdAt w B n S T F vm vk vr sd) : B < w.heap.size := block_lt (h 0 (by omega)).1
theorem OrdAt.below {w' : World} {B' : Nat} (h : OrdAt w B n S T F vm vk vr sd) (hb : Below B' w w') (hB : B < B') : OrdAt w' B n S T F vm vk vr sd := fun i hi => by
  rw [hb.cell (p := ⟨B, i, none⟩) hB, hb.frozen (p := ⟨B, i, none⟩) hB]; exact h i hi
theorem OrdAt.alloc (h : OrdAt w B n S T F vm vk vr sd) (o : Obj) : OrdAt (w.alloc o) B n S T F vm vk vr sd := h.below ((Below.refl w.heap.size w).alloc (Nat.le_refl _) o) h.lt
theorem OrdAt.drew (h : OrdAt w B n S T F vm vk vr sd) : OrdAt w.drew B n S T F vm vk vr sd := h.below ((Below.refl w.heap.size w).drew) h.lt
theorem OrdAt.grown {w' : World} {row : Option Nat} (h : OrdAt w B n S T F vm vk vr sd) (hg : w.grownBy w' row) (hne : some B ≠ row) : OrdAt w' B n S T F vm vk vr sd := fun i hi => by
  obtain ⟨h1, h2⟩ := h i hi
  have hb := hg.block B h.lt hne
  have e1 : w'.cell? ⟨B, i, none⟩ = w.cell? ⟨B, i, none⟩ := by simp only [World.cell?]; rw [hb]
  have e2 : w'.frozen? ⟨B, i, none⟩ = w.frozen? ⟨B, i, none⟩ := by simp only [World.frozen?]; rw [hb]
  rw [e1, e2]; exact ⟨h1, h2⟩
theorem OrdAt.cN (h : OrdAt w B n S T F vm vk vr sd) : w.cell? ⟨B, 0, none⟩ = some (.int .i64 n) := (h 0 (by omega)).1
theorem OrdAt.cM (h : OrdAt w B n S T F vm vk vr sd) : w.cell? ⟨B, 193, none⟩ = some vm := (h 193 (by omega)).1
theorem OrdAt.cK (h : OrdAt w B n S T F vm vk vr sd) : w.cell? ⟨B, 194, none⟩ = some vk := (h 194 (by omega)).1
theorem OrdAt.cR (h : OrdAt w B n S T F vm vk vr sd) : w.cell? ⟨B, 195, none⟩ = some vr := (h 195 (by omega)).1
theorem OrdAt.cS (h : OrdAt w B n S T F vm vk vr sd) : w.cell? ⟨B, 196, none⟩ = some (.bool sd) := (h 196 (by omega)).1
theorem OrdAt.free (h : OrdAt w B n S T F vm vk vr sd) {i : Nat} (hi : i < 197) : w.frozen? ⟨B, i, none⟩ = false := (h i hi).2
theorem OrdAt.put (h : OrdAt w B n S T F vm vk vr sd) (k : Nat) (hk : k < 197) (v : Value) {n' : Int} {S' T' F' : Mat} {vm' vk' vr' : Value} {sd' : Bool} (h1 : ordF n' S' T' F' vm' vk' vr' sd' k = v)
    (h2 : ∀ i, i < 197 → i ≠ k → ordF n' S' T' F' vm' vk' vr' sd' i = ordF n S T F vm vk vr sd i) : OrdAt (w.setCell ⟨B, k, none⟩ v) B n' S' T' F' vm' vk' vr' sd' := fun i hi => by
  refine ⟨?_, by rw [World.frozen?_setCell]; exact (h i hi).2⟩
  by_cases e : i = k
  · subst e
    rw [World.cell?_setCell_same _ _ _ (h i hi).1, h1]
  · have hne : (⟨B, k, none⟩ : Addr) ≠ ⟨B, i, none⟩ := by
      intro q
      injection q with _ q2
      exact e q2.symm
    rw [World.cell?_setCell_other _ _ _ _ hne, h2 i hi e]
    exact (h i hi).1
theorem OrdAt.setM (h : OrdAt w B n S T F vm vk vr sd) (v : Value) : OrdAt (w.setCell ⟨B, 193, none⟩ v) B n S T F v vk vr sd := h.put 193 (by omega) v rfl (fun i _ e => by unfold ordF; simp [e])
theorem OrdAt.setK (h : OrdAt w B n S T F vm vk vr sd) (v : Value) : OrdAt (w.setCell ⟨B, 194, none⟩ v) B n S T F vm v vr sd := h.put 194 (by omega) v rfl (fun i _ e => by unfold ordF; simp [e])
theorem OrdAt.setR (h : OrdAt w B n S T F vm vk vr sd) (v : Value) : OrdAt (w.setCell ⟨B, 195, none⟩ v) B n S T F vm vk v sd := h.put 195 (by omega) v rfl (fun i _ e => by unfold ordF; simp [e])
theorem OrdAt.setS (h : OrdAt w B n S T F vm vk vr sd) (v : Bool) : OrdAt (w.setCell ⟨B, 196, none⟩ (.bool v)) B n S T F vm vk vr v := h.put 196 (by omega) (.bool v) rfl (fun i hi e => by
  unfold ordF
  by_cases e1 : i < 193
  · by_cases a0 : i = 0
    · simp only [a0, if_true]
    · by_cases a1 : i < 65
      · simp only [a0, a1, if_true, if_false]
      · by_cases a2 : i < 129
        · simp only [a0, a1, a2, if_true, if_false]
        · simp only [a0, a1, a2, e1, if_true, if_false]
  · have e3 : i = 193 ∨ i = 194 ∨ i = 195 := by omega
    rcases e3 with rfl | rfl | rfl <;> rfl)
theorem OrdAt.other (h : OrdAt w B n S T F vm vk vr sd) {k : Addr} (hk : B ≠ k.block) (v : Value) : OrdAt (w.setCell k v) B n S T F vm vk vr sd := fun i hi => by
  rw [World.frozen?_setCell, World.cell?_setCell_other _ _ _ _ (fun e => hk (by rw [e]))]; exact h i hi
theorem OrdAt.put64 (h : OrdAt w B n S T F vm vk vr sd) (o : Nat) (ho : o + 64 ≤ 197) (R : Mat) {S' T' F' : Mat} (h1 : ∀ j, j < 64 → ordF n S' T' F' vm vk vr sd (o + j) = .int .u64 ((mkS (R j) : Nat) : Int))
    (h2 : ∀ i, i < 197 → (i < o ∨ o + 64 ≤ i) → ordF n S' T' F' vm vk vr sd i = ordF n S T F vm vk vr sd i) : OrdAt (w.setCells B o (rowsA R).toList) B n S' T' F' vm vk vr sd := fun i hi => by
  have hl : (rowsA R).toList.length = 64 := by simp [rowsA_size]
  refine ⟨?_, by rw [World.frozen?_setCells]; exact (h i hi).2⟩
  by_cases e : i < o ∨ o + 64 ≤ i
  · rw [World.cell?_setCells_out B (rowsA R).toList o w ⟨B, i, none⟩ (fun _ _ => by simp only [hl]; exact e), h2 i hi e]
    exact (h i hi).1
  · obtain ⟨j, rfl⟩ : ∃ j, i = o + j := ⟨i - o, by omega⟩
    have hj : j < 64 := by omega
    rw [World.cell?_setCells_in B (rowsA R).toList o w (fun q hq => by rw [(h (o + q) (by omega)).1]; rfl) j (by omega), h1 j hj]
    have := rowsA_at R hj
    rw [← Array.getElem?_toList, List.getElem?_eq_getElem (by omega)] at this
    exact this
theorem OrdAt.setS1 (h : OrdAt w B n S T F vm vk vr sd) (R : Mat) : OrdAt (w.setCells B 1 (rowsA R).toList) B n R T F vm vk vr sd := h.put64 1 (by omega) R (fun j hj => by unfold ordF; rw [if_neg (by omega), if_pos (by omega)]; simp) (fun i _ e => by
  unfold ordF
  by_cases e0 : i = 0
  · simp only [e0, if_true]
  · have e1 : ¬ i < 65 := by omega
    simp only [e0, e1, if_false])
theorem OrdAt.setT1 (h : OrdAt w B n S T F vm vk vr sd) (R : Mat) : OrdAt (w.setCells B 65 (rowsA R).toList) B n S R F vm vk vr sd := h.put64 65 (by omega) R (fun j hj => by unfold ordF; rw [if_neg (by omega), if_neg (by omega), if_pos (by omega)]; simp) (fun i _ e => by
  unfold ordF
  by_cases e0 : i = 0
  · simp only [e0, if_true]
  · by_cases e1 : i < 65
    · simp only [e0, e1, if_true, if_false]
    · have e2 : ¬ i < 129 := by omega
      simp only [e0, e1, e2, if_false])
theorem OrdAt.setF1 (h : OrdAt w B n S T F vm vk vr sd) (R : Mat) : OrdAt (w.setCells B 129 (rowsA R).toList) B n S T R vm vk vr sd := h.put64 129 (by omega) R (fun j hj => by unfold ordF; rw [if_neg (by omega), if_neg (by omega), if_neg (by omega), if_pos (by omega)]; simp) (fun i _ e => by
  unfold ordF
  by_cases e0 : i = 0
  · simp only [e0, if_true]
  · by_cases e1 : i < 65
    · simp only [e0, e1, if_true, if_false]
    · by_cases e2 : i < 129
      · simp only [e0, e1, e2, if_true, if_false]
      · have e3 : ¬ i < 193 := by omega
        simp only [e0, e1, e2, e3, if_false])
theorem OrdAt.range (h : OrdAt w B n S T F vm vk vr sd) (o : Nat) (ho : o + 64 ≤ 197) (R : Mat) (h1 : ∀ j, j < 64 → ordF n S T F vm vk vr sd (o + j) = .int .u64 ((mkS (R j) : Nat) : Int)) : w.rangeAt B o (rowsA R).toList := fun j v hv => by
  have hl : (rowsA R).toList.length = 64 := by simp [rowsA_size]
  have hj : j < 64 := by have := (List.getElem?_eq_some_iff.1 hv).1; omega
  rw [Array.getElem?_toList, rowsA_at R hj] at hv
  rw [(h (o + j) (by omega)).1, h1 j hj]; exact hv
theorem OrdAt.rS (h : OrdAt w B n S T F vm vk vr sd) : w.rangeAt B 1 (rowsA S).toList := h.range 1 (by omega) S (fun j hj => by unfold ordF; rw [if_neg (by omega), if_pos (by omega)]; simp)
theorem OrdAt.rT (h : OrdAt w B n S T F vm vk vr sd) : w.rangeAt B 65 (rowsA T).toList := h.range 65 (by omega) T (fun j hj => by unfold ordF; rw [if_neg (by omega), if_neg (by omega), if_pos (by omega)]; simp)
theorem OrdAt.rF (h : OrdAt w B n S T F vm vk vr sd) : w.rangeAt B 129 (rowsA F).toList := h.range 129 (by omega) F (fun j hj => by unfold ordF; rw [if_neg (by omega), if_neg (by omega), if_neg (by omega), if_pos (by omega)]; simp)
theorem OrdAt.there (h : OrdAt w B n S T F vm vk vr sd) (o : Nat) (ho : o + 64 ≤ 197) : w.there B o 64 := fun j hj => by
  obtain ⟨h1, h2⟩ := h (o + j) (by omega)
  exact ⟨by rw [h1]; rfl, h2⟩
end
theorem zeroOrd (n : Int) : (Tryd.zeroCells73.setIfInBounds 0 (.int .i64 n)).setIfInBounds 196 (.bool true) = ((List.range 197).map (ordF n noR noR noR (.map none) (.slice none 0 0) (.slice none 0 0) true)).toArray := by kernel_rfl
theorem OrdAt.made (w : World) (n : Int) (t : TypeId) {B : Nat} {cs : Array Value} (hB : B = w.heap.size) (hc : cs = (Tryd.zeroCells73.setIfInBounds 0 (.int .i64 n)).setIfInBounds 196 (.bool true)) : OrdAt (w.alloc (.cells cs t)) B n noR noR noR (.map none) (.slice none 0 0) (.slice none 0 0) true := by
  subst hB hc
  rw [zeroOrd]
  have hh := heap_alloc_new w (.cells ((List.range 197).map (ordF n noR noR noR (.map none) (.slice none 0 0) (.slice none 0 0) true)).toArray t)
  intro i hi
  refine ⟨?_, frozen_of_row _ _ _ _ _ hh⟩
  rw [cell_of_row _ _ _ _ _ _ hh]
  simp [hi]
end Go.Proofs.YtecpeegbfeijaaaDoor

namespace Go.Proofs.YtecpeegbfeijaaaDoor
set_option maxRecDepth 100000
open Go.RowKit

/-- Is it a write, a read of 0, or of what is written to its key? -/
def rdOk (F : Int → Option WV) (o : OpV) : Bool := o.wr || o.val == 0 || (match F o.val with
  | none => false
  | some u => u.key == o.key)
def rowOk (F : Int → Option WV) (l : List OpV) : Bool := l.all (rdOk F)
def valuesB (h : List TxnV) : Bool := okW h && h.all fun t => rowOk (wrTo h h.length) t.l
theorem rowOk_succ (F : Int → Option WV) (l : List OpV) (k : Nat) (hk : k < l.length) : rowOk F (l.take (k + 1)) = (rowOk F (l.take k) && rdOk F l[k]) := by
  unfold rowOk; rw [take_snoc l k hk, List.all_append]; simp
theorem rowOk_no {F : Int → Option WV} {l : List OpV} {k : Nat} (hk : k < l.length) (hn : rdOk F l[k] = false) : rowOk F l = false := by
  unfold rowOk; exact List.all_eq_false.2 ⟨l[k], List.getElem_mem hk, by simp [hn]⟩
theorem valuesB_no {h : List TxnV} {k : Nat} (hk : k < h.length) (hn : rowOk (wrTo h h.length) h[k].l = false) : valuesB h = false := by
  unfold valuesB
  rw [Bool.and_eq_false_iff]
  exact .inr (List.all_eq_false.2 ⟨h[k], List.getElem_mem hk, by simp [hn]⟩)
set_option maxHeartbeats 16000000 in
theorem values_any (va : Value) (h : List TxnV) (w : World) (hT : Txns w va h) (hok : ∀ t ∈ h, t.ok) (hks : ∀ t ∈ h, keysIn t.l) (hn : opsN h ≤ 100000) (hlen : h.length ≤ 100000) :
    Calls Tryd.prog 57 #[va] w fun e w' => e = .returned (.bool (valuesB h)) ∧ Below w.heap.size w w' := by
  obtain ⟨ao, cap, rfl, hal⟩ := hT.form
  have HOK := Lib.hid hok
  have CW := Lib.hid (hwrites_any _ h w hT hok hks hn hlen)
  clear hok hks
  go_enter Tryd.func57, Tryd.ntmps57
  go_wp2_with fail
  refine (CW.out).mono ?_
  rintro e w1 ⟨hb1, ⟨hno, rfl⟩ | ⟨hyes, B, n0, rfl, hB, hM0⟩⟩
  · have H : Hid (false = valuesB h) := Lib.hid (by unfold valuesB; rw [hno]; rfl)
    clear hno
    go_wp2_with fail
    go_ret
    exact ⟨ret_b H.out, hb1⟩
  have HY := Lib.hid hyes
  clear hyes CW
  have HVN : Hid (∀ k, ∀ hk : k < h.length, rowOk (wrTo h h.length) h[k].l = false → valuesB h = false) := Lib.hid (fun k hk hh => valuesB_no hk hh)
  have HVY : Hid (h.all (fun t => rowOk (wrTo h h.length) t.l) = true → valuesB h = true) := Lib.hid (fun hh => by unfold valuesB; rw [HY.out, hh]; rfl)
  generalize wrTo h h.length = F at *
  generalize (wvH h).length = cnt at *
  go_wp2_with fail
  go_loopw [20] (fun i wr => ∃ k : Nat, k ≤ h.length ∧ i = .int .i64 k ∧ ((h.take k).all (fun t => rowOk F t.l) = true) ∧ MapI eW Tryd.prog 3 wr B n0 F cnt ∧ Below w.heap.size w wr) (fun i _ => h.length - (intOf i).toNat)
  case atStart => exact ⟨0, by omega, rfl, rfl, hM0, hb1⟩
  case round =>
    obtain ⟨k, hk, rfl, hP, hM, hb⟩ := hrel
    have HP := Lib.hid hP
    clear hP hM0 hb1
    by_cases hlt : k < h.length
    · have hki : (k : Int) < (h.length : Int) := by omega
      obtain ⟨g, o, hao, c0, c1, c2, c3⟩ := (hT.below hb).at hlt
      cases hao
      have HS : Hid ((h.take (k + 1)).all (fun t => rowOk F t.l) = ((h.take k).all (fun t => rowOk F t.l) && rowOk F h[k].l)) := Lib.hid (by rw [List.take_succ_eq_append_getElem hlt, List.all_append]; simp)
      have HNO := Lib.hid (HVN.out k hlt)
      have hOps := fun wx (hx : Below w.heap.size w wx) => (hT.ops hlt).below hx
      have HTK := Lib.hid (HOK.out h[k] (List.getElem_mem hlt))
      generalize h[k] = t at *
      obtain ⟨s, b, c, v, l⟩ := t
      simp only at c0 c1 c2 c3 HS HNO hOps HTK
      obtain ⟨ai, capi, rfl, hli⟩ := (hOps w (Below.refl _ _)).form
      have HOP := Lib.hid hOps
      have hM1 := hM.alloc (.cells #[.int .i64 s, .int .i64 b, .int .i64 c, .slice ai l.length capi] 58)
      have hbb := hb.alloc hb.size (.cells #[.int .i64 s, .int .i64 b, .int .i64 c, .slice ai l.length capi] 58)
      clear hOps hM hb HVN HVY
      go_wp2_with fail
      generalize wr.alloc (.cells #[.int .i64 s, .int .i64 b, .int .i64 c, .slice ai l.length capi] 58) = w2 at *
      go_loopw [27] (fun i wx => ∃ j : Nat, j ≤ l.length ∧ i = .int .i64 j ∧ rowOk F (l.take j) = true ∧ MapI eW Tryd.prog 3 wx B n0 F cnt ∧ Below w.heap.size w wx) (fun i _ => l.length - (intOf i).toNat)
      case atStart => exact ⟨0, by omega, rfl, rfl, hM1, hbb⟩
      case round =>
        obtain ⟨j, hj, rfl, hR, hM2, hb2⟩ := hrel
        have HR := Lib.hid hR
        clear hR hM1 hbb
        by_cases hltj : j < l.length
        · have hkj : (j : Int) < (l.length : Int) := by omega
          obtain ⟨g2, o2, hao2, e0, e1, e2⟩ := (HOP.out _ hb2).at hltj
          cases hao2
          have HRS := Lib.hid (rowOk_succ F l j hltj)
          have HRN := Lib.hid (fun hh => rowOk_no (F := F) hltj hh)
          have hox := HTK.out.2 l[j] (List.getElem_mem hltj)
          generalize l[j] = x at *
          obtain ⟨xw, xk, xv⟩ := x
          simp only at e0 e1 e2
          have hkv := inI_of hox.2
          have hM3 := hM2.alloc (.cells #[.bool xw, .int .i64 xk, .int .i64 xv] 54)
          have hb3 := hb2.alloc hb2.size (.cells #[.bool xw, .int .i64 xk, .int .i64 xv] 54)
          clear hox hM2 hb2
          cases xw with
          | true =>
            have H : Hid (rowOk F (l.take (j + 1)) = true) := Lib.hid (by rw [HRS.out, HR.out]; rfl)
            clear HRS HRN
            go_wp2_with fail
            go_roundw
            case rel => exact ⟨j + 1, by omega, by go_num, H.out, hM3, hb3⟩
            case measure => simp [intOf]; omega
          | false =>
            by_cases hx0 : xv = 0
            · subst hx0
              have H : Hid (rowOk F (l.take (j + 1)) = true) := Lib.hid (by rw [HRS.out, HR.out]; rfl)
              clear HRS HRN
              go_wp2_with fail
              go_roundw
              case rel => exact ⟨j + 1, by omega, by go_num, H.out, hM3, hb3⟩
              case measure => simp [intOf]; omega
            · have hx1 : (xv == 0) = false := by simpa using hx0
              have HD : Hid (rdOk F ⟨false, xk, xv⟩ = (match F xv with | none => false | some u => u.key == xk)) := Lib.hid (by unfold rdOk; simp only [hx1]; rfl)
              clear hx0
              cases hv : F xv with
              | none =>
                have H : Hid (false = valuesB h) := Lib.hid (HNO.out (HRN.out (by rw [HD.out, hv]))).symm
                have hb4 := hb3.alloc hb3.size (.cells #[.int .i64 0, .int .i64 0, .bool false] 102)
                clear HRS HRN HD
                go_wp2_with (first | (at_lookup; refine wpList_lookI_ok _ rfl _ _ 81 rfl 3 102 keyI mapIW wZ (zeroW _) _ _ _ _ rfl hM3 _ rfl hkv ?_; rw [hv]; simp only [Option.getD_none, Option.isSome_none, eW, wZ]) | go_in)
                go_ret
                exact ⟨ret_b H.out, hb4⟩
              | some u =>
                obtain ⟨ui, uk, ul⟩ := u
                have HD2 : Hid (rdOk F ⟨false, xk, xv⟩ = (uk == xk)) := Lib.hid (by rw [HD.out, hv])
                have hM4 := hM3.alloc (.cells #[.int .i64 ui, .int .i64 uk, .bool ul] 102)
                have hb4 := hb3.alloc hb3.size (.cells #[.int .i64 ui, .int .i64 uk, .bool ul] 102)
                clear HD
                by_cases huk : uk = xk
                · subst huk
                  have H : Hid (rowOk F (l.take (j + 1)) = true) := Lib.hid (by rw [HRS.out, HR.out, HD2.out]; simp)
                  have hne : (uk != uk) = false := by simp
                  clear HRS HRN HD2
                  go_wp2_with (first | (at_lookup; refine wpList_lookI_ok _ rfl _ _ 81 rfl 3 102 keyI mapIW wZ (zeroW _) _ _ _ _ rfl hM3 _ rfl hkv ?_; rw [hv]; simp only [Option.getD_some, Option.isSome_some, eW]) | go_in)
                  go_roundw
                  case rel => exact ⟨j + 1, by omega, by go_num, H.out, hM4, hb4⟩
                  case measure => simp [intOf]; omega
                · have H : Hid (false = valuesB h) := Lib.hid (HNO.out (HRN.out (by rw [HD2.out]; simpa using huk))).symm
                  have hne : (uk != xk) = true := by simpa using huk
                  clear HRS HRN HD2 huk
                  go_wp2_with (first | (at_lookup; refine wpList_lookI_ok _ rfl _ _ 81 rfl 3 102 keyI mapIW wZ (zeroW _) _ _ _ _ rfl hM3 _ rfl hkv ?_; rw [hv]; simp only [Option.getD_some, Option.isSome_some, eW]) | go_in)
                  go_ret
                  exact ⟨ret_b H.out, hb4⟩
        · have hj2 : j = l.length := by omega
          subst hj2
          have H : Hid ((h.take (k + 1)).all (fun t => rowOk F t.l) = true) := Lib.hid (by have := HR.out; rw [List.take_length] at this; rw [HS.out, HP.out, this]; rfl)
          go_wp2_with fail
          go_roundw
          case rel => exact ⟨k + 1, by omega, by go_num, H.out, hM2, hb2⟩
          case measure => simp [intOf]; omega
    · have hkl : k = h.length := by omega
      subst hkl
      have H : Hid (true = valuesB h) := Lib.hid (HVY.out (by have := HP.out; rw [List.take_length] at this; exact this)).symm
      go_wp2_with fail
      go_ret
      exact ⟨ret_b H.out, hb⟩
end Go.Proofs.YtecpeegbfeijaaaDoor

namespace Go.Proofs.YtecpeegbfeijaaaDoor
set_option maxRecDepth 100000
open Go.RowKit

def rightB (h : List TxnV) : Bool := partsB h && (valuesB h && (stampsB h && sesB h))
def checkI (h : List TxnV) : Int := if 64 < h.length ∨ 1024 < opsN h then 3 else if rightB h then 0 else 2
theorem opsN_short : ∀ (h : List TxnV), Short h → opsN h ≤ h.length * 6000000000000
  | [], _ => by simp [opsN]
  | t :: h, hs => by
    have h1 := opsN_short h (fun u hu => hs u (List.mem_cons_of_mem _ hu))
    have h2 := hs t List.mem_cons_self
    unfold opsN at *
    simp only [List.map_cons, List.sum_cons, List.length_cons]
    omega
theorem parts_keys {h : List TxnV} (hp : partsB h = true) : ∀ t ∈ h, keysIn t.l := by
  intro t ht
  have := List.all_eq_true.1 hp t ht
  unfold mayT at this
  simp only [Bool.and_eq_true] at this
  exact allM_keys this.2
set_option maxHeartbeats 8000000 in
theorem hcheck_any (va : Value) (h : List TxnV) (w : World) (hT : Txns w va h) (hok : ∀ t ∈ h, t.ok) (hsh : Short h) :
    Calls Tryd.prog 32 #[va] w fun e w' => e = .returned (.int .i64 (checkI h)) ∧ Below w.heap.size w w' := by
  obtain ⟨ao, cap, rfl, hal⟩ := hT.form
  by_cases hbig : 64 < h.length
  · have hbig' : (64 : Int) < (h.length : Int) := by omega
    have H : Hid ((3 : Int) = checkI h) := Lib.hid (by unfold checkI; rw [if_pos (.inl hbig)])
    go_enter Tryd.func32, Tryd.ntmps32
    go_wp2_with fail
    go_ret
    exact ⟨ret_int H.out, Below.refl _ _⟩
  have hbf : decide ((64 : Int) < (h.length : Int)) = false := by simp; omega
  have hle := opsN_short h hsh
  have CO := Lib.hid (hops_any _ h w hT (by omega))
  have HT := Lib.hid (fun wx (hx : Below w.heap.size w wx) => hT.below hx)
  have HOK := Lib.hid hok
  clear hT hok hsh
  go_enter Tryd.func32, Tryd.ntmps32
  go_wp2_with fail
  refine (CO.out).mono ?_
  rintro e w1 ⟨rfl, hb1⟩
  clear CO
  by_cases hov : 1024 < opsN h
  · have hov' : (1024 : Int) < (opsN h : Int) := by omega
    have H : Hid ((3 : Int) = checkI h) := Lib.hid (by unfold checkI; rw [if_pos (.inr hov)])
    go_wp2_with fail
    go_ret
    exact ⟨ret_int H.out, hb1⟩
  have hov' : decide ((1024 : Int) < (opsN h : Int)) = false := by simp; omega
  have HCK : Hid (checkI h = if rightB h then 0 else 2) := Lib.hid (by unfold checkI; rw [if_neg (by omega)])
  have CP := Lib.hid (parts_any _ h w1 (HT.out _ hb1))
  cases hp : partsB h
  · have H : Hid ((2 : Int) = checkI h) := Lib.hid (by rw [HCK.out]; unfold rightB; rw [hp]; rfl)
    rw [hp] at CP
    clear hp
    go_wp2_with fail
    refine (CP.out).mono ?_
    rintro e w2 ⟨rfl, hb2⟩
    have hb3 := below_then hb1 hb2
    go_wp2_with fail
    go_ret
    exact ⟨ret_int H.out, hb3⟩
  rw [hp] at CP
  have HKS := Lib.hid (parts_keys hp)
  have HR1 : Hid (rightB h = (valuesB h && (stampsB h && sesB h))) := Lib.hid (by unfold rightB; rw [hp]; rfl)
  clear hp
  go_wp2_with fail
  refine (CP.out).mono ?_
  rintro e w2 ⟨rfl, hb2⟩
  have hb3 := below_then hb1 hb2
  have CV := Lib.hid (values_any _ h w2 (HT.out _ hb3) HOK.out HKS.out (by omega) (by omega))
  clear CP hb1 hb2
  cases hv : valuesB h
  · have H : Hid ((2 : Int) = checkI h) := Lib.hid (by rw [HCK.out, HR1.out, hv]; rfl)
    rw [hv] at CV
    clear hv
    go_wp2_with fail
    refine (CV.out).mono ?_
    rintro e w4 ⟨rfl, hb4⟩
    have hb5 := below_then hb3 hb4
    go_wp2_with fail
    go_ret
    exact ⟨ret_int H.out, hb5⟩
  rw [hv] at CV
  have HR2 : Hid (rightB h = (stampsB h && sesB h)) := Lib.hid (by rw [HR1.out, hv]; rfl)
  clear hv HR1
  go_wp2_with fail
  refine (CV.out).mono ?_
  rintro e w4 ⟨rfl, hb4⟩
  have hb5 := below_then hb3 hb4
  have CS := Lib.hid (stamps_any _ h w4 (HT.out _ hb5) HOK.out (by omega))
  clear CV hb3 hb4
  cases hs : stampsB h
  · have H : Hid ((2 : Int) = checkI h) := Lib.hid (by rw [HCK.out, HR2.out, hs]; rfl)
    rw [hs] at CS
    clear hs
    go_wp2_with fail
    refine (CS.out).mono ?_
    rintro e w6 ⟨rfl, hb6⟩
    have hb7 := below_then hb5 hb6
    go_wp2_with fail
    go_ret
    exact ⟨ret_int H.out, hb7⟩
  rw [hs] at CS
  have HR3 : Hid (rightB h = sesB h) := Lib.hid (by rw [HR2.out, hs]; rfl)
  clear hs HR2
  go_wp2_with fail
  refine (CS.out).mono ?_
  rintro e w6 ⟨rfl, hb6⟩
  have hb7 := below_then hb5 hb6
  have CE := Lib.hid (sessions_any _ h w6 (HT.out _ hb7) HOK.out (by omega))
  clear CS hb5 hb6
  cases hse : sesB h
  · have H : Hid ((2 : Int) = checkI h) := Lib.hid (by rw [HCK.out, HR3.out, hse]; rfl)
    rw [hse] at CE
    clear hse
    go_wp2_with fail
    refine (CE.out).mono ?_
    rintro e w8 ⟨rfl, hb8⟩
    have hb9 := below_then hb7 hb8
    go_wp2_with fail
    go_ret
    exact ⟨ret_int H.out, hb9⟩
  · have H : Hid ((0 : Int) = checkI h) := Lib.hid (by rw [HCK.out, HR3.out, hse]; rfl)
    rw [hse] at CE
    clear hse
    go_wp2_with fail
    refine (CE.out).mono ?_
    rintro e w8 ⟨rfl, hb8⟩
    have hb9 := below_then hb7 hb8
    go_wp2_with fail
    go_ret
    exact ⟨ret_int H.out, hb9⟩
end Go.Proofs.YtecpeegbfeijaaaDoor

namespace Go.Proofs.YtecpeegbfeijaaaDoor
set_option maxRecDepth 100000
open Go.RowKit

/-- Two rows over memory of unlike types are apart. -/
theorem owns_apart {w : World} {b1 b2 : Nat} {e1 e2 : TypeId} {s1 s2 : Nat} {v1 v2 : Value} {n1 n2 : Nat} {x1 x2 : List Value} (h1 : w.ownsRow b1 e1 s1 v1 n1 x1) (h2 : w.ownsRow b2 e2 s2 v2 n2 x2) (he : e1 ≠ e2) : v1.ownBlock = none ∨ v1.ownBlock ≠ v2.ownBlock := by
  obtain ⟨_, h1⟩ := h1
  obtain ⟨_, h2⟩ := h2
  rcases h1 with ⟨rfl, _⟩ | ⟨g1, c1, cur1, rfl, _, hh1, _⟩
  · exact .inl rfl
  · right
    rcases h2 with ⟨rfl, _⟩ | ⟨g2, c2, cur2, rfl, _, hh2, _⟩
    · simp [Value.ownBlock]
    · intro e
      simp [Value.ownBlock] at e
      subst e
      rw [hh1] at hh2
      injection hh2 with hh2
      injection hh2 with _ hh2
      exact he hh2
theorem owns_cell_any {w : World} {base : Nat} {e : TypeId} {size : Nat} {v : Value} {n : Nat} {xs : List Value} (h : w.ownsRow base e size v n xs) {a : Addr} (hg : a.block < base) (x : Value) : (w.setCell a x).ownsRow base e size v n xs := by
  refine h.kept (row := some a.block) ⟨rfl, rfl, rfl, by simp, fun k hk hne => ?_⟩ ?_
  · exact heap_setCell_other w a k x (fun e3 => hne (by rw [e3]))
  · rcases h.2 with ⟨rfl, _⟩ | ⟨g, cap, cur, rfl, hb, _⟩
    · exact .inl rfl
    · right
      simp [Value.ownBlock]; omega
theorem owns_cells {base : Nat} {e : TypeId} {size : Nat} {v : Value} {n : Nat} {xs : List Value} {g : Nat} (hg : g < base) : ∀ (vs : List Value) (o : Nat) (w : World), w.ownsRow base e size v n xs → (w.setCells g o vs).ownsRow base e size v n xs
  | [], _, _, h => h
  | x :: r, o, w, h => by rw [World.setCells]; exact owns_cells hg r (o + 1) _ (owns_cell_any h hg x)
abbrev KRow := Value × List Int
abbrev RRow := Value × List (Int × Int)
/-- The rows of keys, and of reads, that the call has made. -/
structure OfR (b : Nat) (w : World) (vk vr : Value) (K : List KRow) (R : List RRow) : Prop where
  kr : w.ownsRow b 26 1 vk K.length (K.map (·.1))
  ke : ∀ p ∈ K, w.ownsRow b 3 1 p.1 p.2.length (p.2.map (Value.int .i64))
  rr : w.ownsRow b 85 1 vr R.length (R.map (·.1))
  re : ∀ p ∈ R, w.ownsRow b 93 2 p.1 p.2.length (frV p.2)
section
variable {b : Nat} {w : World} {vk vr : Value} {K : List KRow} {R : List RRow}
theorem OfR.nil (b : Nat) (w : World) : OfR b w (.slice none 0 0) (.slice none 0 0) [] [] := ⟨World.ownsRow_nil _ _ _ _, fun p hp => (by cases hp), World.ownsRow_nil _ _ _ _, fun p hp => (by cases hp)⟩
theorem OfR.below {w' : World} (h : OfR b w vk vr K R) (hb : Below w.heap.size w w') : OfR b w' vk vr K R := ⟨owns_below h.kr hb, fun p hp => owns_below (h.ke p hp) hb, owns_below h.rr hb, fun p hp => owns_below (h.re p hp) hb⟩
theorem OfR.cell (h : OfR b w vk vr K R) {a : Addr} (ha : a.block < b) (x : Value) : OfR b (w.setCell a x) vk vr K R := ⟨owns_cell_any h.kr ha x, fun p hp => owns_cell_any (h.ke p hp) ha x, owns_cell_any h.rr ha x, fun p hp => owns_cell_any (h.re p hp) ha x⟩
theorem OfR.cells (h : OfR b w vk vr K R) {g : Nat} (hg : g < b) (o : Nat) (vs : List Value) : OfR b (w.setCells g o vs) vk vr K R := ⟨owns_cells hg vs o w h.kr, fun p hp => owns_cells hg vs o w (h.ke p hp), owns_cells hg vs o w h.rr, fun p hp => owns_cells hg vs o w (h.re p hp)⟩
theorem OfR.addK {w2 : World} {o : Obj} {v v' : Value} {l : List Int} (h : OfR b w vk vr K R) (hv : w.ownsRow b 3 1 v l.length (l.map (Value.int .i64))) (hown : w2.ownsRow b 26 1 v' (K.length + 1) (K.map (·.1) ++ [v]))
    (hg : (w.alloc o).grownBy w2 vk.ownBlock) : OfR b w2 v' vr (K ++ [(v, l)]) R := by
  refine ⟨by simpa using hown, fun p hp => ?_, (h.rr.alloc o).kept hg (owns_apart h.rr h.kr (by decide)), fun p hp => ((h.re p hp).alloc o).kept hg (owns_apart (h.re p hp) h.kr (by decide))⟩
  rcases List.mem_append.1 hp with hp | hp
  · exact ((h.ke p hp).alloc o).kept hg (owns_apart (h.ke p hp) h.kr (by decide))
  · obtain rfl := List.mem_singleton.1 hp
    exact (hv.alloc o).kept hg (owns_apart hv h.kr (by decide))
theorem OfR.addR {w2 : World} {o : Obj} {v v' : Value} {l : List (Int × Int)} (h : OfR b w vk vr K R) (hv : w.ownsRow b 93 2 v l.length (frV l)) (hown : w2.ownsRow b 85 1 v' (R.length + 1) (R.map (·.1) ++ [v]))
    (hg : (w.alloc o).grownBy w2 vr.ownBlock) : OfR b w2 vk v' K (R ++ [(v, l)]) := by
  refine ⟨(h.kr.alloc o).kept hg (owns_apart h.kr h.rr (by decide)), fun p hp => ((h.ke p hp).alloc o).kept hg (owns_apart (h.ke p hp) h.rr (by decide)), by simpa using hown, fun p hp => ?_⟩
  rcases List.mem_append.1 hp with hp | hp
  · exact ((h.re p hp).alloc o).kept hg (owns_apart (h.re p hp) h.rr (by decide))
  · obtain rfl := List.mem_singleton.1 hp
    exact (hv.alloc o).kept hg (owns_apart hv h.rr (by decide))
theorem OfR.rws (h : OfR b w vk vr K R) : Rws w vk K := ⟨Row.of_owns h.kr, fun p hp => Ints.of_owns (h.ke p hp)⟩
theorem OfR.frws (h : OfR b w vk vr K R) : FRws w vr R := ⟨Row.of_owns h.rr, fun p hp => Row.of_owns (h.re p hp)⟩
end
/-- What each transaction writes to, what it reads of others, and whether it reads what it may. -/
def keysOf (l : List OpV) : List Int := (refWrites l).map OpV.key
def readsOf (h : List TxnV) (i : Nat) : List (Int × Int) := rdFr (wrTo h h.length) (i : Int) (refReads (opsAt h i))
def soundOf (h : List TxnV) (i : Nat) : Bool := !(refReads (opsAt h i)).any (badFr (wrTo h h.length) (i : Int)) && steadyL (opsAt h i)
def keysTo (h : List TxnV) (k : Nat) : List (List Int) := (List.range k).map fun i => keysOf (opsAt h i)
def readsTo (h : List TxnV) (k : Nat) : List (List (Int × Int)) := (List.range k).map (readsOf h)
def soundTo (h : List TxnV) (k : Nat) : Bool := (List.range k).all (soundOf h)
theorem keysTo_succ (h : List TxnV) (k : Nat) : keysTo h (k + 1) = keysTo h k ++ [keysOf (opsAt h k)] := by simp [keysTo, List.range_succ]
theorem readsTo_succ (h : List TxnV) (k : Nat) : readsTo h (k + 1) = readsTo h k ++ [readsOf h k] := by simp [readsTo, List.range_succ]
theorem soundTo_succ (h : List TxnV) (k : Nat) : soundTo h (k + 1) = (soundTo h k && soundOf h k) := by simp [soundTo, List.range_succ]
/-- Of a history that may be. -/
theorem check_zero {h : List TxnV} (hc : checkI h = 0) : h.length ≤ 64 ∧ opsN h ≤ 1024 ∧ okW h = true ∧ ∀ t ∈ h, keysIn t.l := by
  unfold checkI at hc
  by_cases hb : 64 < h.length ∨ 1024 < opsN h
  · rw [if_pos hb] at hc; omega
  · rw [if_neg hb] at hc
    cases hr : rightB h
    · rw [hr] at hc; simp at hc
    · unfold rightB valuesB at hr
      simp only [Bool.and_eq_true] at hr
      exact ⟨by omega, by omega, hr.2.1.1, parts_keys hr.1⟩
end Go.Proofs.YtecpeegbfeijaaaDoor

namespace Go.Proofs.YtecpeegbfeijaaaDoor
set_option maxRecDepth 100000
open Go.RowKit

set_option maxHeartbeats 4000000 in
theorem oftime_any (va : Value) (h : List TxnV) (p a b : Nat) (w : World) (hp : w.cell? ⟨p, 0, none⟩ = some va) (hT : Txns w va h) (ha : a < h.length) (hb : b < h.length) :
    Calls Tryd.prog 40 #[.int .i64 a, .int .i64 b, .pointer (some ⟨p, 0, none⟩)] w fun e w' => e = .returned (.bool (decide (h[a].c < h[b].b))) ∧ Below w.heap.size w w' := by
  obtain ⟨ao, cap, rfl, hal⟩ := hT.form
  obtain ⟨g, o, hao, c0, c1, c2, c3⟩ := hT.at ha
  cases hao
  obtain ⟨g', o', hao, d0, d1, d2, d3⟩ := hT.at hb
  cases hao
  have hai : (a : Int) < (h.length : Int) := by omega
  have hbi : (b : Int) < (h.length : Int) := by omega
  generalize h[a].c = x at *
  generalize h[b].b = y at *
  clear c0 c1 c3 d0 d2 d3 hT
  go_enter Tryd.func40, Tryd.ntmps40
  go_wp2_with fail
  go_quiet (fail)
  go_wp2_with fail
  go_ret
  exact ⟨rfl, below_drewN (Below.refl _ _) _⟩
set_option maxHeartbeats 4000000 in
theorem ofsession_any (va : Value) (h : List TxnV) (p a b : Nat) (w : World) (hp : w.cell? ⟨p, 0, none⟩ = some va) (hT : Txns w va h) (ha : a < h.length) (hb : b < h.length) :
    Calls Tryd.prog 39 #[.int .i64 a, .int .i64 b, .pointer (some ⟨p, 0, none⟩)] w fun e w' => e = .returned (.bool (decide (a < b) && decide (h[a].s = h[b].s))) ∧ Below w.heap.size w w' := by
  obtain ⟨ao, cap, rfl, hal⟩ := hT.form
  obtain ⟨g, o, hao, c0, c1, c2, c3⟩ := hT.at ha
  cases hao
  obtain ⟨g', o', hao, d0, d1, d2, d3⟩ := hT.at hb
  cases hao
  have hai : (a : Int) < (h.length : Int) := by omega
  have hbi : (b : Int) < (h.length : Int) := by omega
  generalize h[a].s = x at *
  generalize h[b].s = y at *
  clear c1 c2 c3 d1 d2 d3 hT
  by_cases hab : a < b
  · have H : Hid ((decide (a < b) && decide (x = y)) = decide (x = y)) := Lib.hid (by rw [decide_eq_true hab]; rfl)
    have habi : (a : Int) < (b : Int) := by omega
    rw [H.out]
    clear hab H
    go_enter Tryd.func39, Tryd.ntmps39
    go_wp2_with fail
    go_quiet (fail)
    go_wp2_with fail
    go_ret
    exact ⟨rfl, below_drewN (Below.refl _ _) _⟩
  · have H : Hid ((decide (a < b) && decide (x = y)) = false) := Lib.hid (by rw [decide_eq_false hab]; rfl)
    have habi : ¬ (a : Int) < (b : Int) := by omega
    have hd : decide ((a : Int) < (b : Int)) = false := decide_eq_false habi
    have hle : (b : Int) ≤ (a : Int) := by omega
    have hdn : decide (a < b) = false := decide_eq_false hab
    rw [H.out]
    clear H
    go_enter Tryd.func39, Tryd.ntmps39
    go_wp2_with fail
    go_quiet (fail)
    go_wp2_with fail
    go_ret
    exact ⟨rfl, below_drewN (Below.refl _ _) _⟩
end Go.Proofs.YtecpeegbfeijaaaDoor

namespace Go.Proofs.YtecpeegbfeijaaaDoor
set_option maxRecDepth 100000
open Go.RowKit

theorem infoLI : (Tryd.prog.info? 26).map (fun i => (i.zero, i.size, i.bytes)) = some (some (.slice none 0 0), 1, 24) := by kernel_rfl
theorem infoLR : (Tryd.prog.info? 85).map (fun i => (i.zero, i.size, i.bytes)) = some (some (.slice none 0 0), 1, 24) := by kernel_rfl
theorem owns_form {w : World} {b : Nat} {e : TypeId} {s : Nat} {v : Value} {n : Nat} {xs : List Value} (h : w.ownsRow b e s v n xs) : ∃ ao cap, v = .slice ao n cap := by
  rcases h.2 with ⟨rfl, rfl⟩ | ⟨g, cap, cur, rfl, _⟩
  · exact ⟨_, _, rfl⟩
  · exact ⟨_, _, rfl⟩
theorem row_ne {w : World} {b : Nat} {e : TypeId} {s : Nat} {v : Value} {n : Nat} {xs : List Value} (h : w.ownsRow b e s v n xs) {g : Nat} (hg : g < b) : some g ≠ v.ownBlock := fun e2 => by have := (h.lt g e2.symm).1; omega
theorem row_ne_box {w : World} {b : Nat} {e : TypeId} {s : Nat} {v : Value} {n : Nat} {xs : List Value} (h : w.ownsRow b e s v n xs) {g : Nat} {cs : Array Value} {t : TypeId} (hg : w.heap[g]? = some (.cells cs t (0, 0))) (he : e ≠ t) : some g ≠ v.ownBlock := by
  rcases h.2 with ⟨rfl, _⟩ | ⟨g1, c1, cur1, rfl, _, hh1, _⟩
  · simp [Value.ownBlock]
  · intro q
    simp [Value.ownBlock] at q
    subst q
    rw [hg] at hh1
    injection hh1 with hh1
    injection hh1 with _ hh1
    exact he hh1.symm
/-- What the regions of the loop read, and don't write. -/
def SB (C B gx : Nat) (ts tb tc : Int) (tv : Value) (w : World) : Prop := w.cell? ⟨C, 0, none⟩ = some (.pointer (some ⟨B, 0, none⟩)) ∧ w.cell? ⟨gx, 0, none⟩ = some (.int .i64 ts) ∧ w.cell? ⟨gx, 1, none⟩ = some (.int .i64 tb) ∧ w.cell? ⟨gx, 2, none⟩ = some (.int .i64 tc) ∧ w.cell? ⟨gx, 3, none⟩ = some tv
section
variable {C B gx : Nat} {ts tb tc : Int} {tv : Value} {w w' : World}
theorem SB.below (h : SB C B gx ts tb tc tv w) (hb : Below w.heap.size w w') : SB C B gx ts tb tc tv w' := by
  obtain ⟨h0, h1, h2, h3, h4⟩ := h
  exact ⟨(hb.cell (p := ⟨C, 0, none⟩) (block_lt h0)).trans h0, (hb.cell (p := ⟨gx, 0, none⟩) (block_lt h1)).trans h1, (hb.cell (p := ⟨gx, 1, none⟩) (block_lt h2)).trans h2, (hb.cell (p := ⟨gx, 2, none⟩) (block_lt h3)).trans h3, (hb.cell (p := ⟨gx, 3, none⟩) (block_lt h4)).trans h4⟩
theorem SB.drew (h : SB C B gx ts tb tc tv w) : SB C B gx ts tb tc tv w.drew := h.below (Below.refl _ _).drew
theorem SB.alloc (h : SB C B gx ts tb tc tv w) (o : Obj) : SB C B gx ts tb tc tv (w.alloc o) := h.below (box_below w o)
theorem SB.grown {row : Option Nat} (h : SB C B gx ts tb tc tv w) (hg : w.grownBy w' row) (hC : some C ≠ row) (hX : some gx ≠ row) : SB C B gx ts tb tc tv w' := by
  obtain ⟨h0, h1, h2, h3, h4⟩ := h
  exact ⟨hg.cell h0 hC, hg.cell h1 hX, hg.cell h2 hX, hg.cell h3 hX, hg.cell h4 hX⟩
theorem SB.cell (h : SB C B gx ts tb tc tv w) {a : Addr} (hC : C ≠ a.block) (hX : gx ≠ a.block) (v : Value) : SB C B gx ts tb tc tv (w.setCell a v) := by
  obtain ⟨h0, h1, h2, h3, h4⟩ := h
  refine ⟨?_, ?_, ?_, ?_, ?_⟩
  · rw [World.cell?_setCell_other _ _ _ _ (fun e => hC (by rw [e]))]; exact h0
  · rw [World.cell?_setCell_other _ _ _ _ (fun e => hX (by rw [e]))]; exact h1
  · rw [World.cell?_setCell_other _ _ _ _ (fun e => hX (by rw [e]))]; exact h2
  · rw [World.cell?_setCell_other _ _ _ _ (fun e => hX (by rw [e]))]; exact h3
  · rw [World.cell?_setCell_other _ _ _ _ (fun e => hX (by rw [e]))]; exact h4
end
/-- What holds in the loop of order.Of: the block, the rows, what is read. -/
structure OfS (W : World) (gx : Nat) (ts tb tc : Int) (tv : Value) (n : Int) (vk vr : Value) (sd : Bool) (K : List KRow) (R : List RRow) (w : World) : Prop where
  o : OrdAt w W.heap.size n noR noR noR (.map none) vk vr sd
  s : SB (W.heap.size + 1) W.heap.size gx ts tb tc tv w
  r : OfR (W.heap.size + 2) w vk vr K R
  b : Below W.heap.size W w
  z : W.heap.size + 2 ≤ w.heap.size
  x : ∃ cs, w.heap[gx]? = some (.cells cs 58 (0, 0))
  g : W.heap.size + 2 ≤ gx
section
variable {W w w' : World} {gx : Nat} {ts tb tc : Int} {tv : Value} {n : Int} {vk vr : Value} {sd : Bool} {K : List KRow} {R : List RRow}
theorem OfS.below (h : OfS W gx ts tb tc tv n vk vr sd K R w) (hb : Below w.heap.size w w') : OfS W gx ts tb tc tv n vk vr sd K R w' := by
  obtain ⟨cs, hx⟩ := h.x
  have hl : gx < w.heap.size := by
    by_cases h0 : gx < w.heap.size
    · exact h0
    · rw [Array.getElem?_eq_none (Nat.le_of_not_lt h0)] at hx; cases hx
  exact ⟨h.o.below hb h.o.lt, h.s.below hb, h.r.below hb, h.b.trans (hb.mono h.b.size), Nat.le_trans h.z hb.size, ⟨cs, (hb.block gx hl).trans hx⟩, h.g⟩
/-- A key's row appended, and stored. -/
theorem OfS.addK {wx w5 : World} {v v5 : Value} {t : TypeId} {l : List Int} (h : OfS W gx ts tb tc tv n vk vr sd K R w) (hb : Below w.heap.size w wx) (hv : wx.ownsRow (W.heap.size + 2) 3 1 v l.length (l.map (Value.int .i64)))
    (hown : w5.ownsRow (W.heap.size + 2) 26 1 v5 (K.length + 1) (K.map (·.1) ++ [v])) (hg : (wx.alloc (.cells #[v] t)).grownBy w5 vk.ownBlock) :
    OfS W gx ts tb tc tv n v5 vr sd (K ++ [(v, l)]) R (w5.setCell ⟨W.heap.size, 194, none⟩ v5) ∧ SB (W.heap.size + 1) W.heap.size gx ts tb tc tv w5 ∧ w5.frozen? ⟨W.heap.size, 194, none⟩ = false ∧ w5.cell? ⟨W.heap.size, 194, none⟩ = some vk := by
  have hx := h.below hb
  have hsx := hx.b.size
  obtain ⟨cs, hgx⟩ := hx.x
  have hlx : gx < wx.heap.size := by
    by_cases h0 : gx < wx.heap.size
    · exact h0
    · rw [Array.getElem?_eq_none (Nat.le_of_not_lt h0)] at hgx; cases hgx
  have nC := row_ne hx.r.kr (g := W.heap.size + 1) (by omega)
  have nB := row_ne hx.r.kr (g := W.heap.size) (by omega)
  have nX := row_ne_box hx.r.kr hgx (by decide)
  have hz := hx.z
  have hgg := hx.g
  have s5 := (hx.s.alloc (.cells #[v] t)).grown hg nC nX
  have o5 := (hx.o.alloc (.cells #[v] t)).grown hg nB
  have r5 := hx.r.addK hv hown hg
  have b5 : Below W.heap.size W w5 := (hx.b.alloc hsx (.cells #[v] t)).grown hg (by simp; omega) (fun k hk => by have := (hx.r.kr.lt k hk).1; omega)
  refine ⟨⟨o5.setK v5, s5.cell (by simp) (by simp; omega) v5, r5.cell (by simp) v5, b5.setCell (Nat.le_refl _) v5, ?_, ⟨cs, ?_⟩, hgg⟩, s5, o5.free (by omega), o5.cK⟩
  · have := hg.size; simp at this ⊢; omega
  · rw [heap_setCell_other w5 ⟨W.heap.size, 194, none⟩ gx v5 (by simp; omega), hg.block gx (by simp; omega) nX, Below.heap_alloc wx _ gx hlx]
    exact hgx
/-- A row of what is read, appended, and stored. -/
theorem OfS.addR {wx w5 : World} {v v5 : Value} {t : TypeId} {l : List (Int × Int)} (h : OfS W gx ts tb tc tv n vk vr sd K R w) (hb : Below w.heap.size w wx) (hv : wx.ownsRow (W.heap.size + 2) 93 2 v l.length (frV l))
    (hown : w5.ownsRow (W.heap.size + 2) 85 1 v5 (R.length + 1) (R.map (·.1) ++ [v])) (hg : (wx.alloc (.cells #[v] t)).grownBy w5 vr.ownBlock) :
    OfS W gx ts tb tc tv n vk v5 sd K (R ++ [(v, l)]) (w5.setCell ⟨W.heap.size, 195, none⟩ v5) ∧ SB (W.heap.size + 1) W.heap.size gx ts tb tc tv w5 ∧ w5.frozen? ⟨W.heap.size, 195, none⟩ = false ∧ w5.cell? ⟨W.heap.size, 195, none⟩ = some vr := by
  have hx := h.below hb
  have hsx := hx.b.size
  obtain ⟨cs, hgx⟩ := hx.x
  have hlx : gx < wx.heap.size := by
    by_cases h0 : gx < wx.heap.size
    · exact h0
    · rw [Array.getElem?_eq_none (Nat.le_of_not_lt h0)] at hgx; cases hgx
  have nC := row_ne hx.r.rr (g := W.heap.size + 1) (by omega)
  have nB := row_ne hx.r.rr (g := W.heap.size) (by omega)
  have nX := row_ne_box hx.r.rr hgx (by decide)
  have hz := hx.z
  have hgg := hx.g
  have s5 := (hx.s.alloc (.cells #[v] t)).grown hg nC nX
  have o5 := (hx.o.alloc (.cells #[v] t)).grown hg nB
  have r5 := hx.r.addR hv hown hg
  have b5 : Below W.heap.size W w5 := (hx.b.alloc hsx (.cells #[v] t)).grown hg (by simp; omega) (fun k hk => by have := (hx.r.rr.lt k hk).1; omega)
  refine ⟨⟨o5.setR v5, s5.cell (by simp) (by simp; omega) v5, r5.cell (by simp) v5, b5.setCell (Nat.le_refl _) v5, ?_, ⟨cs, ?_⟩, hgg⟩, s5, o5.free (by omega), o5.cR⟩
  · have := hg.size; simp at this ⊢; omega
  · rw [heap_setCell_other w5 ⟨W.heap.size, 195, none⟩ gx v5 (by simp; omega), hg.block gx (by simp; omega) nX, Below.heap_alloc wx _ gx hlx]
    exact hgx
theorem OfS.setS (h : OfS W gx ts tb tc tv n vk vr sd K R w) (v : Bool) : OfS W gx ts tb tc tv n vk vr v K R (w.setCell ⟨W.heap.size, 196, none⟩ (.bool v)) := by
  obtain ⟨cs, hgx⟩ := h.x
  have hgg := h.g
  exact ⟨h.o.setS v, h.s.cell (by simp) (by simp; omega) _, h.r.cell (by simp) _, h.b.setCell (Nat.le_refl _) _, by have := h.z; simpa using this, ⟨cs, by rw [heap_setCell_other w ⟨W.heap.size, 196, none⟩ gx _ (by simp; omega)]; exact hgx⟩, hgg⟩
end
end Go.Proofs.YtecpeegbfeijaaaDoor

namespace Go.Proofs.YtecpeegbfeijaaaDoor
set_option maxRecDepth 100000
open Go.RowKit

theorem run_enters {f : FuncId} {fn : Func} {c : Code} (hf : Tryd.prog.funcs[f]? = some fn) (hname : (fn.name == "runtime.NumGoroutine") = false) (hb : fn.body = some c) (args : Array Value) (w : World) : Sem.run Tryd.prog (callFunc f args) w = .ok (.enter f args) w := by
  have h1 : fn.name ≠ "runtime.NumGoroutine" := by simpa using hname
  simp [callFunc, hf, h1, hb]
theorem enters_ses (args : Array Value) (w : World) : Sem.run Tryd.prog (callFunc 39 args) w = .ok (.enter 39 args) w := run_enters Tryd.func39 (by kernel_rfl) rfl args w
theorem enters_tim (args : Array Value) (w : World) : Sem.run Tryd.prog (callFunc 40 args) w = .ok (.enter 40 args) w := run_enters Tryd.func40 (by kernel_rfl) rfl args w
theorem enters_fro (args : Array Value) (w : World) : Sem.run Tryd.prog (callFunc 41 args) w = .ok (.enter 41 args) w := run_enters Tryd.func41 (by kernel_rfl) rfl args w
theorem MapI.cell {α : Type} {e : α → Value} {P : Program} {k : TypeId} {w : World} {b n : Nat} {f : Int → Option α} {c : Nat} (h : MapI e P k w b n f c) {a : Addr} (hb : b ≠ a.block) (v : Value) : MapI e P k (w.setCell a v) b n f c :=
  h.kept (row := some a.block) ⟨rfl, rfl, rfl, by simp, fun j hj hne => heap_setCell_other w a j v (fun e => hne (by rw [e]))⟩ (fun e => hb (by injection e))
theorem MapI.cells {α : Type} {e : α → Value} {P : Program} {k : TypeId} {b n : Nat} {f : Int → Option α} {c : Nat} {g : Nat} (hb : b ≠ g) : ∀ (vs : List Value) (o : Nat) (w : World), MapI e P k w b n f c → MapI e P k (w.setCells g o vs) b n f c
  | [], _, _, h => h
  | v :: r, o, w, h => by rw [World.setCells]; exact MapI.cells hb r (o + 1) _ (h.cell hb v)
/-- What the end of order.Of reads and does not write. -/
def SA (C B A : Nat) (va : Value) (w : World) : Prop := w.cell? ⟨C, 0, none⟩ = some (.pointer (some ⟨B, 0, none⟩)) ∧ w.cell? ⟨A, 0, none⟩ = some va
theorem below_putC {B g : Nat} {W : World} (hg : B ≤ g) : ∀ (vs : List Value) (o : Nat) (w : World), Below B W w → Below B W (w.setCells g o vs)
  | [], _, _, h => h
  | v :: r, o, w, h => by rw [World.setCells]; exact below_putC hg r (o + 1) _ (h.setCell hg v)
theorem cell_put {g : Nat} {p : Addr} (hp : p.block ≠ g) (vs : List Value) (o : Nat) (w : World) : (w.setCells g o vs).cell? p = w.cell? p := World.cell?_setCells_out g vs o w p (fun e _ => absurd e hp)
theorem size_put (g : Nat) : ∀ (vs : List Value) (o : Nat) (w : World), (w.setCells g o vs).heap.size = w.heap.size
  | [], _, _ => rfl
  | v :: r, o, w => by rw [World.setCells, size_put g r]; simp
/-- What holds behind order.Of's loop: the block, the rows, what is read. -/
structure OfT (W : World) (A : Nat) (va : Value) (n : Int) (S T F : Mat) (vm vk vr : Value) (sd : Bool) (K : List KRow) (R : List RRow) (w : World) : Prop where
  o : OrdAt w W.heap.size n S T F vm vk vr sd
  s : SA (W.heap.size + 1) W.heap.size A va w
  r : OfR (W.heap.size + 2) w vk vr K R
  b : Below W.heap.size W w
  a : A < W.heap.size
section
variable {W w w' : World} {A : Nat} {va : Value} {n : Int} {S T F : Mat} {vm vk vr : Value} {sd : Bool} {K : List KRow} {R : List RRow}
theorem OfT.below (h : OfT W A va n S T F vm vk vr sd K R w) (hb : Below w.heap.size w w') : OfT W A va n S T F vm vk vr sd K R w' := by
  obtain ⟨h0, h1⟩ := h.s
  exact ⟨h.o.below hb h.o.lt, ⟨(hb.cell (p := ⟨W.heap.size + 1, 0, none⟩) (block_lt h0)).trans h0, (hb.cell (p := ⟨A, 0, none⟩) (block_lt h1)).trans h1⟩, h.r.below hb, h.b.trans (hb.mono h.b.size), h.a⟩
theorem OfT.drew (h : OfT W A va n S T F vm vk vr sd K R w) : OfT W A va n S T F vm vk vr sd K R w.drew := h.below (Below.refl _ _).drew
theorem OfT.setM (h : OfT W A va n S T F vm vk vr sd K R w) (v : Value) : OfT W A va n S T F v vk vr sd K R (w.setCell ⟨W.heap.size, 193, none⟩ v) := by
  obtain ⟨h0, h1⟩ := h.s
  have ha := h.a
  refine ⟨h.o.setM v, ⟨?_, ?_⟩, h.r.cell (by simp) v, h.b.setCell (Nat.le_refl _) v, ha⟩
  · rw [World.cell?_setCell_other _ _ _ _ (fun e => by injection e with e; omega)]; exact h0
  · rw [World.cell?_setCell_other _ _ _ _ (fun e => by injection e with e; omega)]; exact h1
theorem OfT.sput (h : OfT W A va n S T F vm vk vr sd K R w) (o : Nat) (vs : List Value) : SA (W.heap.size + 1) W.heap.size A va (w.setCells W.heap.size o vs) := by
  have ha := h.a
  exact ⟨by rw [cell_put (by simp)]; exact h.s.1, by rw [cell_put (by simp; omega)]; exact h.s.2⟩
theorem OfT.setS (h : OfT W A va n S T F vm vk vr sd K R w) (M : Mat) : OfT W A va n M T F vm vk vr sd K R (w.setCells W.heap.size 1 (rowsA M).toList) := ⟨h.o.setS1 M, h.sput _ _, h.r.cells (by simp) _ _, below_putC (Nat.le_refl _) _ _ _ h.b, h.a⟩
theorem OfT.setT (h : OfT W A va n S T F vm vk vr sd K R w) (M : Mat) : OfT W A va n S M F vm vk vr sd K R (w.setCells W.heap.size 65 (rowsA M).toList) := ⟨h.o.setT1 M, h.sput _ _, h.r.cells (by simp) _ _, below_putC (Nat.le_refl _) _ _ _ h.b, h.a⟩
theorem OfT.setF (h : OfT W A va n S T F vm vk vr sd K R w) (M : Mat) : OfT W A va n S T M vm vk vr sd K R (w.setCells W.heap.size 129 (rowsA M).toList) := ⟨h.o.setF1 M, h.sput _ _, h.r.cells (by simp) _ _, below_putC (Nat.le_refl _) _ _ _ h.b, h.a⟩
end
/-- A transaction's session, beginning and end, by its number. -/
def sAt (h : List TxnV) (k : Nat) : Int := ((h[k]?).map (·.s)).getD 0
def bAt (h : List TxnV) (k : Nat) : Int := ((h[k]?).map (·.b)).getD 0
def cAt (h : List TxnV) (k : Nat) : Int := ((h[k]?).map (·.c)).getD 0
theorem sAt_eq {h : List TxnV} {k : Nat} (hk : k < h.length) : sAt h k = h[k].s := by unfold sAt; rw [List.getElem?_eq_getElem hk]; rfl
theorem bAt_eq {h : List TxnV} {k : Nat} (hk : k < h.length) : bAt h k = h[k].b := by unfold bAt; rw [List.getElem?_eq_getElem hk]; rfl
theorem cAt_eq {h : List TxnV} {k : Nat} (hk : k < h.length) : cAt h k = h[k].c := by unfold cAt; rw [List.getElem?_eq_getElem hk]; rfl
/-- The three relations. -/
def sesP (h : List TxnV) (a b : Nat) : Bool := decide (a < b) && decide (sAt h a = sAt h b)
def timP (h : List TxnV) (a b : Nat) : Bool := decide (cAt h a < bAt h b)
def froP (h : List TxnV) (a b : Nat) : Bool := (readsOf h b).any fun r => decide (r.2 = (a : Int))
def sesM (h : List TxnV) : Mat := prsTo (sesP h) h.length h.length
def timM (h : List TxnV) : Mat := prsTo (timP h) h.length h.length
def froM (h : List TxnV) : Mat := prsTo (froP h) h.length h.length
theorem ses_calls (va : Value) (h : List TxnV) (p a b : Nat) (w : World) (hp : w.cell? ⟨p, 0, none⟩ = some va) (hT : Txns w va h) (ha : a < h.length) (hb : b < h.length) :
    Calls Tryd.prog 39 (#[.int .i64 a, .int .i64 b] ++ #[.pointer (some ⟨p, 0, none⟩)]) w fun e w' => e = .returned (.bool (sesP h a b)) ∧ Below w.heap.size w w' := by
  have hh := ofsession_any va h p a b w hp hT ha hb
  unfold sesP
  rw [sAt_eq ha, sAt_eq hb]
  exact hh
theorem tim_calls (va : Value) (h : List TxnV) (p a b : Nat) (w : World) (hp : w.cell? ⟨p, 0, none⟩ = some va) (hT : Txns w va h) (ha : a < h.length) (hb : b < h.length) :
    Calls Tryd.prog 40 (#[.int .i64 a, .int .i64 b] ++ #[.pointer (some ⟨p, 0, none⟩)]) w fun e w' => e = .returned (.bool (timP h a b)) ∧ Below w.heap.size w w' := by
  have hh := oftime_any va h p a b w hp hT ha hb
  unfold timP
  rw [cAt_eq ha, bAt_eq hb]
  exact hh
theorem fro_calls (vr : Value) (h : List TxnV) (R : List RRow) (p ob a b : Nat) (w : World) (hp : w.cell? ⟨p, 0, none⟩ = some (.pointer (some ⟨ob, 0, none⟩))) (hr : w.cell? ⟨ob, 195, none⟩ = some vr) (hT : FRws w vr R) (hR : R.map (·.2) = readsTo h h.length) (hb : b < h.length) :
    Calls Tryd.prog 41 (#[.int .i64 a, .int .i64 b] ++ #[.pointer (some ⟨p, 0, none⟩)]) w fun e w' => e = .returned (.bool (froP h a b)) ∧ Below w.heap.size w w' := by
  have hl : R.length = h.length := by have := congrArg List.length hR; simpa [readsTo] using this
  have hbR : b < R.length := by omega
  have he : R[b].2 = readsOf h b := by
    have := congrArg (·[b]?) hR
    simp only [List.getElem?_map, List.getElem?_eq_getElem hbR, readsTo, List.getElem?_range hb, Option.map_some] at this
    exact Option.some.inj this
  have hh := offrom_any vr R a b p ob w hp hr hT hbR
  unfold froP
  rw [← he]
  exact hh
/-- The block that holds what follows of a history, with all that it reaches. -/
def OrdIs (w : World) (B b : Nat) (h : List TxnV) : Prop := ∃ (bm m c : Nat) (vk vr : Value) (K : List KRow) (R : List RRow), OrdAt w B h.length (sesM h) (timM h) (froM h) (.map (some bm)) vk vr (soundTo h h.length) ∧
  MapI eS Tryd.prog 3 w bm m (wrsTo K K.length) c ∧ AllSet (wrsTo K K.length) ∧ OfR b w vk vr K R ∧ K.map (·.2) = keysTo h h.length ∧ R.map (·.2) = readsTo h h.length
theorem OrdIs.below {w w' : World} {B b : Nat} {h : List TxnV} (hO : OrdIs w B b h) (hb : Below w.heap.size w w') : OrdIs w' B b h := by
  obtain ⟨bm, m, c, vk, vr, K, R, h1, h2, h3, h4, h5, h6⟩ := hO
  exact ⟨bm, m, c, vk, vr, K, R, h1.below hb h1.lt, h2.below hb, h3, h4.below hb, h5, h6⟩
end Go.Proofs.YtecpeegbfeijaaaDoor

namespace Go.Proofs.YtecpeegbfeijaaaDoor
set_option maxRecDepth 100000
open Go.RowKit

theorem prsRow_iff (S : Nat → Nat → Bool) (a : Nat) (R : Mat) (i j : Nat) (hi : i < 64) (hj : j < 64) : ∀ b, prsRow S a R b i j = true ↔ R i j = true ∨ (i = a ∧ j < b ∧ S i j = true)
  | 0 => by simp [prsRow]
  | b + 1 => by
    have ih := prsRow_iff S a R i j hi hj b
    cases hs : S a b with
    | true =>
      rw [prsRow_hit R hs, addM_iff _ _ _ _ _ hi hj, ih]
      constructor
      · rintro ((h | ⟨h1, h2, h3⟩) | ⟨h1, h2⟩)
        · exact .inl h
        · exact .inr ⟨h1, by omega, h3⟩
        · have e1 : i = a := by omega
          have e2 : j = b := by omega
          subst e1 e2
          exact .inr ⟨rfl, by omega, hs⟩
      · rintro (h | ⟨h1, h2, h3⟩)
        · exact .inl (.inl h)
        · by_cases e : j = b
          · exact .inr ⟨by omega, by omega⟩
          · exact .inl (.inr ⟨h1, by omega, h3⟩)
    | false =>
      rw [prsRow_miss R hs, ih]
      constructor
      · rintro (h | ⟨h1, h2, h3⟩)
        · exact .inl h
        · exact .inr ⟨h1, by omega, h3⟩
      · rintro (h | ⟨h1, h2, h3⟩)
        · exact .inl h
        · refine .inr ⟨h1, ?_, h3⟩
          by_cases e : j = b
          · subst h1 e; rw [hs] at h3; cases h3
          · omega
theorem prsTo_iff (S : Nat → Nat → Bool) (n : Nat) (i j : Nat) (hi : i < 64) (hj : j < 64) : ∀ a, prsTo S n a i j = true ↔ i < a ∧ j < n ∧ S i j = true
  | 0 => by simp [prsTo, noR]
  | a + 1 => by
    have ih := prsTo_iff S n i j hi hj a
    show prsRow S a (prsTo S n a) n i j = true ↔ _
    rw [prsRow_iff S a _ i j hi hj, ih]
    constructor
    · rintro (⟨h1, h2⟩ | ⟨h1, h2⟩)
      · exact ⟨by omega, h2⟩
      · exact ⟨by omega, h2⟩
    · rintro ⟨h1, h2⟩
      by_cases e : i = a
      · exact .inr ⟨e, h2⟩
      · exact .inl ⟨by omega, h2⟩
theorem wpList_load_part {ops : Array Oper} {rest : List Oper} {o : Oper} {a : Act} {w : World} {Q : Exit → Act → World → Prop} {B k : Nat} {R : Mat} (h : w.rangeAt B k (rowsA R).toList) (x : Operand) (ho : o.op = .load 68 x)
    (hw : Region.wanted o (yielded ops a.tmps) = true) (hx : a.eval x = .pointer (some ⟨B, k, none⟩)) (hn : wpList Tryd.prog ops Q rest (a.put o.dst (.agg (rowsA R))) w) : wpList Tryd.prog ops Q (o :: rest) a w :=
  wpList_step fun K hK => by
    rw [if_pos hw]
    refine wp_load_mid 68 x ho B k hx (rowsA R).toList _ h Tryd.underlying68 rfl (by rw [Array.length_toList]; exact infoRel' R) ?_
    rw [Array.toArray_toList]
    exact hK _ _ hn
end Go.Proofs.YtecpeegbfeijaaaDoor

namespace Go.Proofs.YtecpeegbfeijaaaDoor
set_option maxRecDepth 100000
open Go.RowKit

theorem takeG {P : Program} {ops : Array Oper} {Q : Exit → Act → World → Prop} {md : Region.Mode} {S : World → Prop} (d : Option Tmp) {i : Nat} {oi : Oper} {v : Value} {fuel : Nat} {listed : Array Bool} {a : Act} {w : World} (hi : ops[i]? = some oi) (hd : oi.dst = d)
    (hs : Region.noSelect ops = true) (hf : Region.free md ops listed i = true) (hr : (Region.ready md ops listed).contains i = true)
    (hQ : ∀ c a w, Q (.panic c) (a.put oi.dst v) w → Q (.panic c) a w) (hy : YieldsIf P ops S oi v a) (hS : S w)
    (h : wpAnyH P md ops Q S fuel (listed.setIfInBounds i true) (a.put d v) w) : wpAnyH P md ops Q S (fuel + 1) listed a w := by
  subst hd; exact wpAnyH_take hi hs hf hr hQ hy hS h
theorem yields_load_part {ops : Array Oper} {S : World → Prop} {o : Oper} {a : Act} {B k : Nat} {R : Mat} (hw : Region.wanted o (yielded ops a.tmps) = true) (x : Operand) (ho : o.op = .load 68 x)
    (hx : a.eval x = .pointer (some ⟨B, k, none⟩)) (hS : ∀ w, S w → w.rangeAt B k (rowsA R).toList) : YieldsIf Tryd.prog ops S o (.agg (rowsA R)) a := by
  have h := yieldsIf_load_mid (P := Tryd.prog) hw 68 x ho B k hx (rowsA R).toList _ hS Tryd.underlying68 rfl (by rw [Array.length_toList]; exact infoRel' R)
  rw [Array.toArray_toList] at h
  exact h
/-- The block of what follows of a history, without what it reaches. -/
def OrdB (w : World) (B : Nat) (h : List TxnV) : Prop := ∃ vm vk vr, OrdAt w B h.length (sesM h) (timM h) (froM h) vm vk vr (soundTo h h.length)
theorem OrdIs.blk {w : World} {B b : Nat} {h : List TxnV} (hO : OrdIs w B b h) : OrdB w B h := by
  obtain ⟨bm, m, c, vk, vr, K, R, h1, _⟩ := hO
  exact ⟨_, _, _, h1⟩
theorem OrdB.rS {w : World} {B : Nat} {h : List TxnV} (hO : OrdB w B h) : w.rangeAt B 1 (rowsA (sesM h)).toList := by obtain ⟨_, _, _, h⟩ := hO; exact h.rS
theorem OrdB.rT {w : World} {B : Nat} {h : List TxnV} (hO : OrdB w B h) : w.rangeAt B 65 (rowsA (timM h)).toList := by obtain ⟨_, _, _, h⟩ := hO; exact h.rT
theorem OrdB.rF {w : World} {B : Nat} {h : List TxnV} (hO : OrdB w B h) : w.rangeAt B 129 (rowsA (froM h)).toList := by obtain ⟨_, _, _, h⟩ := hO; exact h.rF
theorem OrdB.cN {w : World} {B : Nat} {h : List TxnV} (hO : OrdB w B h) : w.cell? ⟨B, 0, none⟩ = some (.int .i64 h.length) := by obtain ⟨_, _, _, h⟩ := hO; exact h.cN
theorem OrdB.cS {w : World} {B : Nat} {h : List TxnV} (hO : OrdB w B h) : w.cell? ⟨B, 196, none⟩ = some (.bool (soundTo h h.length)) := by obtain ⟨_, _, _, h⟩ := hO; exact h.cS
theorem OrdB.below {w w' : World} {B : Nat} {h : List TxnV} (hO : OrdB w B h) (hb : Below w.heap.size w w') : OrdB w' B h := by
  obtain ⟨vm, vk, vr, h1⟩ := hO
  exact ⟨_, _, _, h1.below hb h1.lt⟩
theorem OrdB.other {w : World} {B : Nat} {h : List TxnV} (hO : OrdB w B h) {k : Addr} (hk : B ≠ k.block) (v : Value) : OrdB (w.setCell k v) B h := by
  obtain ⟨vm, vk, vr, h1⟩ := hO
  exact ⟨_, _, _, h1.other hk v⟩
end Go.Proofs.YtecpeegbfeijaaaDoor
