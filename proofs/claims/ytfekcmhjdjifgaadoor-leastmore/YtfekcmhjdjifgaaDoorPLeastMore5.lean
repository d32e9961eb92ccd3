/- Walks and plain facts that the proof of the statement LeastMore uses, joined: LeaH RelX RelY LeaF OrdL LeaI. Conditions: each theorem's own. -/
import Derived.Deep.AppendLies
import Derived.Deep.RegionLaw
import Derived.Deep.RegionHeld
import Derived.Deep.CutRange
import Derived.Deep.MidRow
import Derived.Test.YtfekcmhjdjifgaaDoorPLeastMore2
import Derived.Test.YtfekcmhjdjifgaaDoorPLeastMore3
import Derived.Test.YtfekcmhjdjifgaaDoorPLeastMore4
namespace Go.Proofs.YtfekcmhjdjifgaaDoor
set_option maxRecDepth 100000
open Go.RowKit

theorem nat_bit (x k : Nat) : (x &&& 2 ^ k = 0) ↔ x.testBit k = false := by
  constructor
  · intro h
    have h1 : (x &&& 2 ^ k).testBit k = false := by rw [h]; exact Nat.zero_testBit k
    rw [Nat.testBit_and, Nat.testBit_two_pow] at h1
    simpa using h1
  · intro h
    refine Nat.eq_of_testBit_eq fun i => ?_
    rw [Nat.testBit_and, Nat.testBit_two_pow, Nat.zero_testBit]
    by_cases e : k = i
    · subst e; rw [h]; rfl
    · simp [e]
theorem bit_zero (x k : Nat) (hx : x < 9223372036854775808) (hk : 2 ^ k < 9223372036854775808) : bits .and .i64 (x : Int) ((2 ^ k : Nat) : Int) = 0 ↔ x.testBit k = false := by
  rw [i64_and_nat x (2 ^ k) hx hk, ← nat_bit]
  omega
theorem bit_1 (x : Nat) (hx : x < 9223372036854775808) : bits .and .i64 (x : Int) 1 = 0 ↔ x.testBit 0 = false := bit_zero x 0 hx (by omega)
theorem bit_2 (x : Nat) (hx : x < 9223372036854775808) : bits .and .i64 (x : Int) 2 = 0 ↔ x.testBit 1 = false := bit_zero x 1 hx (by omega)
theorem bit_4 (x : Nat) (hx : x < 9223372036854775808) : bits .and .i64 (x : Int) 4 = 0 ↔ x.testBit 2 = false := bit_zero x 2 hx (by omega)
theorem bit_8 (x : Nat) (hx : x < 9223372036854775808) : bits .and .i64 (x : Int) 8 = 0 ↔ x.testBit 3 = false := bit_zero x 3 hx (by omega)
theorem bit_16 (x : Nat) (hx : x < 9223372036854775808) : bits .and .i64 (x : Int) 16 = 0 ↔ x.testBit 4 = false := bit_zero x 4 hx (by omega)
theorem bit_32 (x : Nat) (hx : x < 9223372036854775808) : bits .and .i64 (x : Int) 32 = 0 ↔ x.testBit 5 = false := bit_zero x 5 hx (by omega)
theorem trB_bit (x : Nat) (hx : x < 9223372036854775808) : trB (x : Int) = x.testBit 1 := by
  unfold trB
  have := bit_2 x hx
  cases h : x.testBit 1 with
  | true => exact decide_eq_true (fun e => by rw [this.1 e] at h; cases h)
  | false => exact decide_eq_false (fun e => e (this.2 h))
theorem pfB_bit (x : Nat) (hx : x < 9223372036854775808) : pfB (x : Int) = x.testBit 2 := by
  unfold pfB
  have := bit_4 x hx
  cases h : x.testBit 2 with
  | true => exact decide_eq_true (fun e => by rw [this.1 e] at h; cases h)
  | false => exact decide_eq_false (fun e => e (this.2 h))
theorem baseM_iff (h : List TxnV) (x : Nat) (hx : x < 9223372036854775808) (i j : Nat) : baseM h (x : Int) i j = true ↔ froM h i j = true ∨ (x.testBit 0 = true ∧ sesM h i j = true) ∨ (x.testBit 5 = true ∧ timM h i j = true) := by
  have h1 := bit_1 x hx
  have h5 := bit_32 x hx
  unfold baseM baseQ
  cases e0 : x.testBit 0 <;> cases e5 : x.testBit 5
  · rw [if_pos (h5.2 e5), if_pos (h1.2 e0)]; simp
  · rw [if_neg (fun e => by rw [h5.1 e] at e5; cases e5), if_pos (h1.2 e0), orR_iff]; simp
  · rw [if_pos (h5.2 e5), if_neg (fun e => by rw [h1.1 e] at e0; cases e0), orR_iff]; simp
  · rw [if_neg (fun e => by rw [h5.1 e] at e5; cases e5), if_neg (fun e => by rw [h1.1 e] at e0; cases e0), orR_iff, orR_iff]; simp [or_assoc]
theorem startM_iff (h : List TxnV) (x : Nat) (hx : x < 9223372036854775808) (A : Mat) (i j : Nat) : startM h (x : Int) A i j = true ↔ baseM h (x : Int) i j = true ∨ (x.testBit 3 = true ∧ rivM h A i j = true) ∨ (x.testBit 4 = true ∧ A i j = true) := by
  have h3 := bit_8 x hx
  have h4 := bit_16 x hx
  unfold startM startQ
  cases e3 : x.testBit 3 <;> cases e4 : x.testBit 4
  · rw [if_pos (h4.2 e4), if_pos (h3.2 e3)]; simp
  · rw [if_neg (fun e => by rw [h4.1 e] at e4; cases e4), if_pos (h3.2 e3), orR_iff]; simp
  · rw [if_pos (h4.2 e4), if_neg (fun e => by rw [h3.1 e] at e3; cases e3), orR_iff]; simp
  · rw [if_neg (fun e => by rw [h4.1 e] at e4; cases e4), if_neg (fun e => by rw [h3.1 e] at e3; cases e3), orR_iff, orR_iff]; simp [or_assoc]
theorem rivM_in (h : List TxnV) (A : Mat) (i j : Nat) (hr : rivM h A i j = true) : A i j = true := by
  unfold rivM at hr
  rw [Bool.and_eq_true] at hr
  exact hr.1
/-- What follows of what is asked, bit by bit. -/
theorem clN_bits : ∀ k : Fin 64, (clN k.val).testBit 0 = (k.val.testBit 0 || k.val.testBit 5) ∧ (clN k.val).testBit 1 = (k.val.testBit 1 || (k.val.testBit 2 || k.val.testBit 4)) ∧ (clN k.val).testBit 2 = (k.val.testBit 2 || k.val.testBit 4) ∧
    (clN k.val).testBit 3 = (k.val.testBit 3 || k.val.testBit 4) ∧ (clN k.val).testBit 4 = k.val.testBit 4 ∧ (clN k.val).testBit 5 = k.val.testBit 5 := by decide +kernel
theorem clI_bits (x : Nat) : (clI (x : Int)).testBit 0 = (x.testBit 0 || x.testBit 5) ∧ (clI (x : Int)).testBit 1 = (x.testBit 1 || (x.testBit 2 || x.testBit 4)) ∧ (clI (x : Int)).testBit 2 = (x.testBit 2 || x.testBit 4) ∧
    (clI (x : Int)).testBit 3 = (x.testBit 3 || x.testBit 4) ∧ (clI (x : Int)).testBit 4 = x.testBit 4 ∧ (clI (x : Int)).testBit 5 = x.testBit 5 := by
  have h := clN_bits ⟨x % 64, by omega⟩
  have e : ((x : Int) % 64).toNat = x % 64 := by omega
  have b : ∀ k, k < 6 → (x % 64).testBit k = x.testBit k := fun k hk => by
    rw [show (64 : Nat) = 2 ^ 6 from rfl, Nat.testBit_mod_two_pow, decide_eq_true hk, Bool.true_and]
  unfold clI
  rw [e]
  simp only [b 0 (by omega), b 1 (by omega), b 2 (by omega), b 3 (by omega), b 4 (by omega), b 5 (by omega)] at h
  exact h
theorem ahead_irr {L : List Int} (hn : L.Nodup) (a : Int) : ¬ Ahead L a a := by
  rw [ahead_at]
  rintro ⟨i, hi, h1, h2⟩
  obtain ⟨k, hk, h3⟩ := List.mem_iff_getElem.1 h2
  rw [List.length_drop] at hk
  rw [List.getElem_drop] at h3
  rw [List.getD_eq_getElem?_getD, List.getElem?_eq_getElem hi, Option.getD_some] at h1
  exact List.pairwise_iff_getElem.1 hn i (i + 1 + k) hi (by omega) (by omega) (h1.trans h3.symm)
theorem chain_trans {L : List Int} (hn : L.Nodup) {i m j : Nat} (h1 : chainR L i m = true) (h2 : chainR L m j = true) : chainR L i j = true := by
  rw [chainR_iff] at *
  exact h1.trans h2 (ahead_irr hn _)
theorem nodup_ofNat {L : List Nat} (h : L.Nodup) : (L.map Int.ofNat).Nodup := nodup_map Int.ofNat (fun _ _ e => Int.ofNat.inj e) h
theorem inM_iff (R S : Mat) : inM R S = true ↔ ∀ i j, i < 64 → j < 64 → R i j = true → S i j = true := by
  unfold inM inMTo
  rw [List.all_eq_true]
  constructor
  · intro h i j hi hj hr
    have h1 := (inB_iff (isSet_mkS _)).1 (h i (List.mem_range.2 hi)) j hj (by rw [testBit_mkS, hr, decide_eq_true hj]; rfl)
    rw [testBit_mkS, decide_eq_true hj] at h1
    simpa using h1
  · intro h i hi
    have hi := List.mem_range.1 hi
    rw [inB_iff (isSet_mkS _)]
    intro j hj hb
    rw [testBit_mkS, decide_eq_true hj] at hb ⊢
    simp only [Bool.true_and] at hb ⊢
    exact h i j hi hj hb
theorem hasR_nat (R : Mat) (i j : Nat) (hi : i < 64) (hj : j < 64) : hasR R (i : Int) (j : Int) = R i j := by
  unfold hasR mayB
  rw [Int.toNat_natCast, hasB_mkS _ _ hj, decide_eq_true (by omega), Bool.true_and]
/-- What least.Of answers. -/
def LeastIs (h : List TxnV) (x : Nat) (L : List Int) (R : Mat) : Prop := ∀ i j, i < 64 → j < 64 → (R i j = true ↔ Must (startM h (x : Int) (chainR L)) (chainR L) (trB x) (pfB x) i j)
/-- Who asks more sees as much. -/
theorem least_mono {h : List TxnV} {x y : Nat} {L : List Int} {R S : Mat} (hx : x < 9223372036854775808) (hy : y < 9223372036854775808) (hb : ∀ k, x.testBit k = true → y.testBit k = true) (hR : LeastIs h x L R) (hS : LeastIs h y L S) : inM R S = true := by
  rw [inM_iff]
  intro i j hi hj hr
  refine (hS i j hi hj).2 (must_mono ?_ ?_ ?_ ((hR i j hi hj).1 hr))
  · intro i j hs
    rw [startM_iff h x hx, baseM_iff h x hx] at hs
    rw [startM_iff h y hy, baseM_iff h y hy]
    rcases hs with (hs | ⟨h1, h2⟩ | ⟨h1, h2⟩) | ⟨h1, h2⟩ | ⟨h1, h2⟩
    · exact .inl (.inl hs)
    · exact .inl (.inr (.inl ⟨hb _ h1, h2⟩))
    · exact .inl (.inr (.inr ⟨hb _ h1, h2⟩))
    · exact .inr (.inl ⟨hb _ h1, h2⟩)
    · exact .inr (.inr ⟨hb _ h1, h2⟩)
  · rw [trB_bit x hx, trB_bit y hy]; exact hb 1
  · rw [pfB_bit x hx, pfB_bit y hy]; exact hb 2
/-- What follows of what is asked adds nothing, where all that is seen comes ahead. -/
theorem least_closed {h : List TxnV} {x : Nat} {L : List Int} {R S : Mat} (hc : checkI h = 0) (hn : L.Nodup) (hx : x < 9223372036854775808) (hR : LeastIs h x L R) (hS : LeastIs h (clI (x : Int)) L S) (hin : inM R (chainR L) = true) : rowsA R = rowsA S := by
  have hy : clI (x : Int) < 9223372036854775808 := by have := clI_lt (x : Int); omega
  obtain ⟨b0, b1, b2, b3, b4, b5⟩ := clI_bits x
  have hin := (inM_iff _ _).1 hin
  have hst := (inM_iff _ _).1 (ses_in_tim hc)
  refine rowsA_congr fun i j hi hj => ?_
  rw [Bool.eq_iff_iff, hR i j hi hj, hS i j hi hj]
  constructor
  · intro h1
    refine must_mono ?_ ?_ ?_ h1
    · intro i j hs
      rw [startM_iff h x hx, baseM_iff h x hx] at hs
      rw [startM_iff h _ hy, baseM_iff h _ hy, b0, b3, b4, b5]
      rcases hs with (hs | ⟨h1, h2⟩ | ⟨h1, h2⟩) | ⟨h1, h2⟩ | ⟨h1, h2⟩
      · exact .inl (.inl hs)
      · exact .inl (.inr (.inl ⟨by rw [h1]; rfl, h2⟩))
      · exact .inl (.inr (.inr ⟨h1, h2⟩))
      · exact .inr (.inl ⟨by rw [h1]; rfl, h2⟩)
      · exact .inr (.inr ⟨h1, h2⟩)
    · rw [trB_bit x hx, trB_bit _ hy, b1]; intro e; rw [e]; rfl
    · rw [pfB_bit x hx, pfB_bit _ hy, b2]; intro e; rw [e]; rfl
  · intro h1
    refine must_closed (tot := x.testBit 4) (fun i j hi hj hm => hin i j hi hj ((hR i j hi hj).2 hm)) (fun i m j _ _ _ h1 h2 => chain_trans hn h1 h2) ?_ ?_ ?_ ?_ h1 hi hj
    · intro ht i j _ _ ha
      rw [startM_iff h x hx]
      exact .inr (.inr ⟨ht, ha⟩)
    · intro i j hi hj hs
      rw [startM_iff h _ hy, baseM_iff h _ hy, b0, b3, b4, b5] at hs
      rw [startM_iff h x hx, baseM_iff h x hx]
      rcases hs with (hs | ⟨h1, h2⟩ | ⟨h1, h2⟩) | ⟨h1, h2⟩ | ⟨h1, h2⟩
      · exact .inl (.inl (.inl hs))
      · rcases (Bool.or_eq_true _ _).mp h1 with h1 | h1
        · exact .inl (.inl (.inr (.inl ⟨h1, h2⟩)))
        · exact .inl (.inl (.inr (.inr ⟨h1, hst i j hi hj h2⟩)))
      · exact .inl (.inl (.inr (.inr ⟨h1, h2⟩)))
      · rcases (Bool.or_eq_true _ _).mp h1 with h1 | h1
        · exact .inl (.inr (.inl ⟨h1, h2⟩))
        · exact .inr ⟨h1, rivM_in h _ i j h2⟩
      · exact .inr ⟨h1, h2⟩
    · rw [trB_bit x hx, pfB_bit x hx, trB_bit _ hy, b1]
      intro e
      rcases (Bool.or_eq_true _ _).mp e with e | e
      · exact .inl e
      · rcases (Bool.or_eq_true _ _).mp e with e | e
        · exact .inr (.inl e)
        · exact .inr (.inr e)
    · rw [pfB_bit x hx, pfB_bit _ hy, b2]
      intro e
      exact (Bool.or_eq_true _ _).mp e
end Go.Proofs.YtfekcmhjdjifgaaDoor

namespace Go.Proofs.YtfekcmhjdjifgaaDoor
set_option maxRecDepth 100000
open Go.RowKit

/-- An append onto an owned row, at a step of a region that draws: whatever is appended, nothing too. -/
theorem step_append_own {P : Program} (w : World) {ops : Array Oper} {o : Oper} {a : Act} {K : Act → World → Prop} {Q : Exit → Act → World → Prop} {E : Prop} (hgd : o.guard = none) (s x : Operand) (t : TypeId)
    (ho : o.op = .call { callee := .builtin .append, args := #[s, x], argTypes := #[t, t] })
    (base : Nat) (e : TypeId) (i : TypeInfo) (z : Value) (size bytes : Nat) (ht : P.underlying t = some (.slice e)) (hi : P.info? e = some i) (hz : i.zero = some z)
    (hsize : i.size = size) (hby : i.bytes = bytes) (hzs : z.cells.size = size) (hsz : 0 < size)
    (v : Value) (n : Nat) (xs : List Value) (hs : a.eval s = v) (hown : w.ownsRow base e size v n xs)
    (ad : Addr) (m c : Nat) (news : List Value) (hx : a.eval x = .slice (some ad) m c) (hl : news.length = m * size) (hnews : ∀ j u, news[j]? = some u → w.cell? (ad.add j) = some u) (h1 : ∀ u ∈ news, u.oneCell' = true)
    (h63 : n + m ≤ maxLen) (hbytes : (n + m) * bytes ≤ 140737488355328) (hbase : base ≤ w.heap.size)
    (h : ∀ v' w', w'.ownsRow base e size v' (n + m) (xs ++ news) → w.grownBy w' v.ownBlock → K (a.put o.dst v') w') :
    if Region.wanted o (yielded ops a.tmps) = true then Oper.wp P o a w K Q else E := by
  have hw : Region.wanted o (yielded ops a.tmps) = true := by simp [Region.wanted, hgd]
  rw [if_pos hw]
  obtain ⟨v', w', hr, h2, h3, _⟩ := run_append_own (P := P) w base t o.type e i z size bytes ht hi hz hsize hby hzs hsz v n xs hown ad m c news hl hnews h1 h63 hbytes hbase
  unfold Oper.wp execOp
  simp only [ho, resolve, invoke, builtin, Sem.run_bind, Sem.run_pure, Result.andThen_ok, List.map_toArray, List.map_cons, List.map_nil, hs, hx, hr]
  exact h v' w' h2 h3
end Go.Proofs.YtfekcmhjdjifgaaDoor

namespace Go.Proofs.YtfekcmhjdjifgaaDoor
set_option maxRecDepth 100000
open Go.RowKit

theorem ints_at {w : World} {ao : Option Addr} {n cap : Nat} {L : List Nat} (h : Ints w (.slice ao n cap) (L.map Int.ofNat)) {k : Nat} (hk : k < L.length) :
    ∃ b off, ao = some ⟨b, off, none⟩ ∧ w.cell? ⟨b, off + k, none⟩ = some (.int .i64 (L[k] : Int)) := by
  obtain ⟨b, off, h1, h2⟩ := h.at (k := k) (by simpa using hk)
  refine ⟨b, off, h1, ?_⟩
  rw [h2, List.getElem_map]; rfl
theorem Ints.grown {w w' : World} {v : Value} {xs : List Int} {row : Option Nat} (h : Ints w v xs) (hg : w.grownBy w' row) (hne : ∀ b, row = some b → v.ownBlock ≠ some b) : Ints w' v xs := by
  obtain ⟨hl, ao, cap, rfl, hm, hno, hc⟩ := h
  refine ⟨hl, ao, cap, rfl, hm, hno, fun hn => ?_⟩
  obtain ⟨b, off, rfl, hcell⟩ := hc hn
  refine ⟨b, off, rfl, fun i hi => ?_⟩
  have h2 := hcell i hi
  rw [List.getElem?_eq_getElem (by omega)] at h2 ⊢
  exact hg.cell h2 (fun e => hne b e.symm rfl)
theorem Ints.news {w : World} {g o n cap : Nat} {L : List Nat} (h : Ints w (.slice (some ⟨g, o, none⟩) n cap) (L.map Int.ofNat)) (k : Nat) :
    ∀ i u, ((L.drop k).map fun i : Nat => Value.int .i64 (i : Int))[i]? = some u → w.cell? ((⟨g, o + k, none⟩ : Addr).add i) = some u := by
  intro i u hu
  have hi : i < (L.drop k).length := by have := (List.getElem?_eq_some_iff.1 hu).1; simpa using this
  rw [List.length_drop] at hi
  obtain ⟨b, off, h1, h2⟩ := ints_at h (k := k + i) (by omega)
  cases h1
  rw [Addr.add_lit, Nat.add_assoc, h2, ← hu, List.getElem?_map, List.getElem?_drop, List.getElem?_eq_getElem (by omega)]
  rfl
end Go.Proofs.YtfekcmhjdjifgaaDoor

namespace Go.Proofs.YtfekcmhjdjifgaaDoor
set_option maxRecDepth 100000
open Go.RowKit

def smallI (h : List TxnV) : Int := if 7 < h.length ∨ checkI h ≠ 0 then 0 else 1
theorem small_no {h : List TxnV} (hs : smallI h ≠ 0) : h.length ≤ 7 ∧ checkI h = 0 ∧ smallI h = 1 := by
  unfold smallI at *
  split at hs
  · exact (hs rfl).elim
  · rename_i hn
    rw [if_neg hn]
    have h1 : ¬ 7 < h.length := fun e => hn (.inl e)
    have h2 : ¬ checkI h ≠ 0 := fun e => hn (.inr e)
    exact ⟨by omega, Decidable.not_not.1 h2, rfl⟩
set_option maxHeartbeats 4000000 in
theorem small_any (va : Value) (h : List TxnV) (w : World) (hT : Txns w va h) (hsh : Short h) :
    Calls Tryd.prog 8 #[va] w fun e w' => e = .returned (.int .i64 (smallI h)) ∧ Below w.heap.size w w' := by
  have CC := Lib.hid (rcheck_any va h w hT hsh)
  rw [← check_ref] at CC
  have HS : Hid (smallI h = if 7 < h.length ∨ checkI h ≠ 0 then 0 else 1) := Lib.hid rfl
  generalize smallI h = s at *
  generalize checkI h = c at *
  obtain ⟨ao, cap, rfl, hal⟩ := hT.form
  clear hT hsh
  by_cases h7 : 7 < h.length
  · have h7i : (7 : Int) < (h.length : Int) := by omega
    have HR : Hid ((0 : Int) = s) := Lib.hid (by rw [HS.out, if_pos (.inl h7)])
    clear HS
    go_enter Tryd.func8, Tryd.ntmps8
    go_wp2_with fail
    go_ret
    exact ⟨ret_i HR.out, Below.refl _ _⟩
  · have h7i : ¬ (7 : Int) < (h.length : Int) := by omega
    by_cases hc : c = 0
    · have HR : Hid ((1 : Int) = s) := Lib.hid (by rw [HS.out, if_neg (by omega)])
      subst hc
      clear HS
      go_enter Tryd.func8, Tryd.ntmps8
      go_wp2_with fail
      refine (CC.out).mono ?_
      rintro e w1 ⟨rfl, hb⟩
      go_wp2_with fail
      go_ret
      exact ⟨ret_i HR.out, hb⟩
    · have HR : Hid ((0 : Int) = s) := Lib.hid (by rw [HS.out, if_pos (.inr hc)])
      clear HS
      go_enter Tryd.func8, Tryd.ntmps8
      go_wp2_with fail
      refine (CC.out).mono ?_
      rintro e w1 ⟨rfl, hb⟩
      go_wp2_with fail
      go_ret
      exact ⟨ret_i HR.out, hb⟩
/-- Those that stand to a number, of the numbers below k. -/
def seeTo (R : Mat) (i : Int) (k : Nat) : Nat := (List.range k).foldl (fun (s : Nat) (a : Nat) => if hasR R (a : Int) i then withS s (a : Int) else s) 0
theorem seeTo_succ (R : Mat) (i : Int) (k : Nat) : seeTo R i (k + 1) = if hasR R (k : Int) i then withS (seeTo R i k) (k : Int) else seeTo R i k := by
  unfold seeTo; rw [List.range_succ, List.foldl_append]; rfl
theorem seeTo_set (R : Mat) (i : Int) : ∀ k, IsSet (seeTo R i k)
  | 0 => by unfold seeTo IsSet; simp
  | k + 1 => by
    rw [seeTo_succ]
    split
    · exact isSet_withS (seeTo_set R i k)
    · exact seeTo_set R i k
theorem seeTo_bit (R : Mat) (i : Int) (j : Nat) : ∀ k, k ≤ 64 → (seeTo R i k).testBit j = (decide (j < k) && hasR R (j : Int) i)
  | 0, _ => by simp [seeTo]
  | k + 1, hk => by
    have ih := seeTo_bit R i j k (by omega)
    rw [seeTo_succ]
    by_cases e : j = k
    · subst e
      have h1 : decide (0 ≤ (j : Int) ∧ (j : Int) < 64) = true := by simp; omega
      cases hh : hasR R (j : Int) i with
      | true => rw [if_pos rfl, testBit_withS, h1, Int.toNat_natCast]; simp
      | false => rw [if_neg (by simp), ih]; simp [hh]
    · have h1 : decide (j < k + 1) = decide (j < k) := by rw [decide_eq_decide]; omega
      split
      · have h2 : decide ((k : Int).toNat = j) = false := decide_eq_false (by rw [Int.toNat_natCast]; omega)
        rw [testBit_withS, ih, h1, h2, Bool.and_false, Bool.or_false]
      · rw [ih, h1]
set_option maxHeartbeats 4000000 in
theorem lsees_any (R : Mat) (i : Int) (w : World) :
    Calls Tryd.prog 28 #[.agg (rowsA R), .int .i64 i] w fun e w' => e = .returned (.int .u64 ((seeTo R i 64 : Nat) : Int)) ∧ Below w.heap.size w w' := by
  have r0 : RelAt (w.alloc (.cells (rowsA R) 37)) w.heap.size 37 R := RelAt.made w _ _ rfl rfl
  have hb0 := box_below w (.cells (rowsA R) 37)
  go_enter Tryd.func28, Tryd.ntmps28
  go_wp2_with fail
  go_loopw [5, 7] (fun s k wr => ∃ n : Nat, n ≤ 64 ∧ k = .int .i64 n ∧ s = .int .u64 ((seeTo R i n : Nat) : Int) ∧ RelAt wr w.heap.size 37 R ∧ Below w.heap.size w wr) (fun _ k _ => 64 - (intOf k).toNat)
  case atStart => exact ⟨0, by omega, rfl, rfl, r0, hb0⟩
  case round =>
    obtain ⟨n, hn, rfl, rfl, hr, hb⟩ := hrel
    clear r0 hb0
    have hset := seeTo_set R i n
    by_cases hlt : n < 64
    · have hni : (n : Int) < 64 := by omega
      have HS := Lib.hid (seeTo_succ R i n)
      go_wp2_with (with_reducible refine wpList_load_rel hr rfl _ rfl rfl ?_)
      refine (rhasR_any _ _ _ _).mono ?_
      rintro e w1 ⟨rfl, hb1⟩
      have hr1 := hr.below hb1 hr.lt
      have hbb := hb.trans (hb1.mono hb.size)
      clear hr hb
      cases hh : hasR R (n : Int) i with
      | true =>
        have HV : Hid (withS (seeTo R i n) (n : Int) = seeTo R i (n + 1)) := Lib.hid (by rw [HS.out, hh]; rfl)
        clear hh HS
        generalize seeTo R i n = a at *
        go_wp2_with fail
        refine (with_any _ _ _ hset).mono ?_
        rintro e w2 ⟨rfl, rfl⟩
        go_wp2_with fail
        go_roundw
        case rel => exact ⟨n + 1, by omega, by go_num, by rw [HV.out], hr1, hbb⟩
        case measure => simp [intOf]; omega
      | false =>
        have HV : Hid (seeTo R i n = seeTo R i (n + 1)) := Lib.hid (by rw [HS.out, hh]; rfl)
        clear hh HS
        go_wp2_with fail
        go_roundw
        case rel => exact ⟨n + 1, by omega, by go_num, by rw [HV.out], hr1, hbb⟩
        case measure => simp [intOf]; omega
    · have hn2 : n = 64 := by omega
      subst hn2
      go_wp2_with fail
      go_ret
      exact ⟨rfl, hb⟩
end Go.Proofs.YtfekcmhjdjifgaaDoor

namespace Go.Proofs.YtfekcmhjdjifgaaDoor
set_option maxRecDepth 100000
open Go.RowKit

theorem takeQ {P : Program} {ops : Array Oper} {Q : Exit → Act → World → Prop} {md : Region.Mode} {S : World → Prop} (d : Option Tmp) {i : Nat} {oi : Oper} {v : Value} {fuel : Nat} {listed : Array Bool} {a : Act} {w : World} (hi : ops[i]? = some oi) (hd : oi.dst = d)
    (hs : Region.noSelect ops = true) (hf : Region.free md ops listed i = true) (hr : (Region.ready md ops listed).contains i = true)
    (hQ : ∀ c a w, Q (.panic c) (a.put oi.dst v) w → Q (.panic c) a w) (hy : YieldsIf P ops S oi v a) (hS : S w)
    (h : wpAnyH P md ops Q S fuel (listed.setIfInBounds i true) (a.put d v) w) : wpAnyH P md ops Q S (fuel + 1) listed a w := by
  subst hd; exact wpAnyH_take hi hs hf hr hQ hy hS h
set_option maxHeartbeats 16000000 in
theorem of_done (va : Value) (h : List TxnV) (w : World) (hT : Txns w va h) (hok : ∀ t ∈ h, t.ok) (hsh : Short h) (hc : checkI h = 0) :
    Calls Tryd.prog 9 #[va] w fun e w' => (∃ B, e = .returned (.tuple #[.pointer (some ⟨B, 0, none⟩), .int .i64 0]) ∧ w.heap.size ≤ B ∧ OrdIs w' B (B + 2) h) ∧ Below w.heap.size w w' := by
  obtain ⟨ao, cap, rfl, hal⟩ := hT.form
  obtain ⟨hlen, hops, hW, hks⟩ := check_zero hc
  have hb0 := box_below w (.cells #[.slice ao h.length cap] 22)
  have CH := Lib.hid (hcheck_any _ h _ (hT.below hb0) hok hsh)
  rw [hc] at CH
  have CW := Lib.hid (fun wx (hx : Below w.heap.size w wx) => hwrites_any _ h wx (hT.below hx) hok hks (by omega) (by omega))
  have HT := Lib.hid (fun wx (hx : Below w.heap.size w wx) => hT.below hx)
  have HOK := Lib.hid hok
  have HKS := Lib.hid hks
  have HW := Lib.hid hW
  have HOPS := Lib.hid hops
  obtain ⟨i1, hi1, hza1, hzb1, hzc1⟩ := info_parts infoLI
  obtain ⟨i2, hi2, hza2, hzb2, hzc2⟩ := info_parts infoLR
  have hA0 : (w.alloc (.cells #[.slice ao h.length cap] 22)).cell? ⟨w.heap.size, 0, none⟩ = some (.slice ao h.length cap) := by rw [cell_of_row _ _ _ _ _ _ (heap_alloc_new w _)]; rfl
  clear hT hok hsh hks hW hc hops
  go_enter Tryd.func9, Tryd.ntmps9
  go_wp2_with fail
  refine (CH.out).mono ?_
  rintro e w1 ⟨rfl, hb1⟩
  have hA1 := (hb1.cell (p := ⟨w.heap.size, 0, none⟩) (block_lt hA0)).trans hA0
  have hb2 := below_then hb0 hb1
  clear CH hb1 hb0 hA0
  go_wp2_with fail
  refine (CW.out _ hb2).mono ?_
  rintro e w2 ⟨hb3, ⟨hno, _⟩ | ⟨_, bm, m, rfl, hbm, hM⟩⟩
  · exact absurd hno (by rw [HW.out]; simp)
  have hA2 := (hb3.cell (p := ⟨w.heap.size, 0, none⟩) (block_lt hA1)).trans hA1
  have hb4 := below_then hb2 hb3
  clear CW hb3 hb2 hA1
  have hlt := block_lt hA2
  simp only at hlt
  have hO3 := (OrdAt.made w2 (h.length : Int) 72 rfl rfl).alloc (.cells #[.pointer (some ⟨w2.heap.size, 0, none⟩)] 28)
  have hb3 := ((Below.refl w2.heap.size w2).alloc (Nat.le_refl _) (.cells ((Tryd.zeroCells72.setIfInBounds 0 (.int .i64 h.length)).setIfInBounds 196 (.bool true)) 72)).alloc (by simp) (.cells #[.pointer (some ⟨w2.heap.size, 0, none⟩)] 28)
  have hA3 := (hb3.cell (p := ⟨w.heap.size, 0, none⟩) hlt).trans hA2
  have hC3 : ((w2.alloc (.cells ((Tryd.zeroCells72.setIfInBounds 0 (.int .i64 h.length)).setIfInBounds 196 (.bool true)) 72)).alloc (.cells #[.pointer (some ⟨w2.heap.size, 0, none⟩)] 28)).cell? ⟨w2.heap.size + 1, 0, none⟩ = some (.pointer (some ⟨w2.heap.size, 0, none⟩)) := by
    rw [cell_of_row _ _ _ _ _ _ (heap_alloc2_new w2 _ _)]; rfl
  have hs3 : w2.heap.size + 2 ≤ ((w2.alloc (.cells ((Tryd.zeroCells72.setIfInBounds 0 (.int .i64 h.length)).setIfInBounds 196 (.bool true)) 72)).alloc (.cells #[.pointer (some ⟨w2.heap.size, 0, none⟩)] 28)).heap.size := by simp
  go_wp2_with fail
  generalize ((w2.alloc (.cells ((Tryd.zeroCells72.setIfInBounds 0 (.int .i64 h.length)).setIfInBounds 196 (.bool true)) 72)).alloc (.cells #[.pointer (some ⟨w2.heap.size, 0, none⟩)] 28)) = w3 at *
  generalize (Tryd.zeroCells72.setIfInBounds 0 (.int .i64 h.length)).setIfInBounds 196 (.bool true) = Z at *
  go_loopw [26] (fun i wr => ∃ (k : Nat) (vk vr : Value) (sd : Bool) (K : List KRow) (R : List RRow), k ≤ h.length ∧ i = .int .i64 k ∧ K.map (·.2) = keysTo h k ∧ R.map (·.2) = readsTo h k ∧ sd = soundTo h k ∧ OrdAt wr w2.heap.size h.length noR noR noR (.map none) vk vr sd ∧
      wr.cell? ⟨w2.heap.size + 1, 0, none⟩ = some (.pointer (some ⟨w2.heap.size, 0, none⟩)) ∧ OfR (w2.heap.size + 2) wr vk vr K R ∧ Below w2.heap.size w2 wr ∧ w2.heap.size + 2 ≤ wr.heap.size) (fun i _ => h.length - (intOf i).toNat)
  case atStart => exact ⟨0, _, _, _, [], [], by omega, rfl, rfl, rfl, rfl, hO3, hC3, OfR.nil _ _, hb3, hs3⟩
  case round =>
    clear hO3 hC3 hb3 hs3 hA3
    obtain ⟨k, vk, vr, sd, K, R, hk, rfl, hK, hR, hsd, hO, hC, hF, hb, hsz⟩ := hrel
    have HK := Lib.hid (And.intro hK (And.intro hR hsd))
    clear hK hR hsd
    by_cases hlk : k < h.length
    · have hki : (k : Int) < (h.length : Int) := by omega
      have hbw := below_then hb4 hb
      obtain ⟨g, o, hao, c0, c1, c2, c3⟩ := (HT.out _ hbw).at hlk
      cases hao
      have hOps := (HT.out _ hbw).ops hlk
      have HOPF := Lib.hid (fun wx (hx : Below w2.heap.size w2 wx) => (HT.out wx (below_then hb4 hx)).ops hlk)
      generalize h[k].s = ts at *
      generalize h[k].b = tb at *
      generalize h[k].c = tc at *
      have HLK : Hid (opsAt h k = h[k].l) := Lib.hid (opsAt_eq hlk)
      have hll : h[k].l.length ≤ 1024 := by
        have h1 := opsN_take h k hlk
        have h2 := opsN_le h (k + 1)
        have h3 := HOPS.out
        omega
      have HOL := Lib.hid (HOK.out _ (List.getElem_mem hlk)).2
      have HKL := Lib.hid (HKS.out _ (List.getElem_mem hlk))
      generalize h[k].v = tv at *
      generalize h[k].l = l at *
      obtain ⟨a2, cap2, rfl, hl2⟩ := hOps.form
      obtain ⟨b0, b1, b2, b3⟩ := txnBlock wr (.int .i64 ts) (.int .i64 tb) (.int .i64 tc) (.slice a2 l.length cap2) 62
      have hbx := (Below.refl wr.heap.size wr).alloc (Nat.le_refl _) (.cells #[.int .i64 ts, .int .i64 tb, .int .i64 tc, .slice a2 l.length cap2] 62)
      have hOps1 := hOps.below hbx
      have hO1 := hO.below hbx hO.lt
      have hC1 := (hbx.cell (p := ⟨w2.heap.size + 1, 0, none⟩) (block_lt hC)).trans hC
      have hF1 := hF.below hbx
      have hb1 := hb.trans (hbx.mono hb.size)
      have hs1 : w2.heap.size + 2 ≤ (wr.alloc (.cells #[.int .i64 ts, .int .i64 tb, .int .i64 tc, .slice a2 l.length cap2] 62)).heap.size := by simp; omega
      have hgx : w2.heap.size + 2 ≤ wr.heap.size := hsz
      have hX1 := heap_alloc_new wr (.cells #[.int .i64 ts, .int .i64 tb, .int .i64 tc, .slice a2 l.length cap2] 62)
      have hX : OfS w2 wr.heap.size ts tb tc (.slice a2 l.length cap2) h.length vk vr sd K R (wr.alloc (.cells #[.int .i64 ts, .int .i64 tb, .int .i64 tc, .slice a2 l.length cap2] 62)) := ⟨hO1, ⟨hC1, b0, b1, b2, b3⟩, hF1, hb1, hs1, ⟨_, hX1⟩, hgx⟩
      have hTf := fun wx (hx : Below w2.heap.size w2 wx) => HT.out wx (below_then hb4 hx)
      go_upto_region 9 with fail
      clear hOps hO hC hF hb hbx hbw hsz c0 c1 c2 c3 hO1 hC1 hF1 hb1 hs1 hX1 b0 b1 b2 b3
      generalize wr.alloc (.cells #[.int .i64 ts, .int .i64 tb, .int .i64 tc, .slice a2 l.length cap2] 62) = w4 at *
      generalize wr.heap.size = gx at *
      clear wr
      have hKl : K.length ≤ 64 := by have := congrArg List.length HK.out.1; simp [keysTo] at this; omega
      have hRl : R.length ≤ 64 := by have := congrArg List.length HK.out.2.1; simp [readsTo] at this; omega
      obtain ⟨aK, cK, rfl⟩ := owns_form hX.r.kr
      obtain ⟨aR, cR, rfl⟩ := owns_form hX.r.rr
      go_cut [41] from 31 to 41 (fun u wx => ∃ (v5 : Value) (vx : Value), u = .pointer (some ⟨w2.heap.size, 194, none⟩) ∧ OfS w2 gx ts tb tc (.slice a2 l.length cap2) h.length v5 (.slice aR R.length cR) sd (K ++ [(vx, keysOf l)]) R wx)
      case first =>
        have kd := (Below.refl w4.heap.size w4).drew
        have CK : Hid (∀ wx, Below w4.heap.size w4 wx → Calls Tryd.prog 32 #[.agg #[.int .i64 ts, .int .i64 tb, .int .i64 tc, .slice a2 l.length cap2]] wx fun e w' => ∃ v, e = .returned v ∧ w'.ownsRow (w2.heap.size + 2) 3 1 v (keysOf l).length ((keysOf l).map (Value.int .i64)) ∧ Below wx.heap.size wx w') := Lib.hid (fun wx hx => (okeys_any ts tb tc _ l wx (hOps1.below hx) HOL.out (by omega)).mono (fun e w' ⟨v, out, he, ho, hr, _, hbb⟩ => by
          obtain rfl := hr.eq (refWrites_rise HKL.out)
          refine ⟨v, he, own_base' ?_ (show w2.heap.size + 2 ≤ wx.heap.size by have h1 := hx.size; have h2 := hX.z; omega), hbb⟩
          unfold keysOf
          rw [List.length_map, List.map_map]
          exact ho))
        have HS : Hid (∀ wx, Below w4.heap.size w4 wx → SB (w2.heap.size + 1) w2.heap.size gx ts tb tc (.slice a2 l.length cap2) wx) := Lib.hid (fun wx hx => hX.s.below hx)
        have hc0 := hX.o.cK
        have HCL : Hid (∀ wx, Below w4.heap.size w4 wx → wx.cell? ⟨w2.heap.size, 194, none⟩ = some (.slice aK K.length cK)) := Lib.hid (fun wx hx => (hx.cell (p := ⟨w2.heap.size, 194, none⟩) (block_lt hc0)).trans hc0)
        have HCA : Hid (∀ wx, Below w4.heap.size w4 wx → ∀ o, (wx.alloc o).cell? ⟨w2.heap.size, 194, none⟩ = some (.slice aK K.length cK)) := Lib.hid (fun wx hx o => HCL.out _ (hx.alloc hx.size o))
        have HRO : Hid (∀ wx, Below w4.heap.size w4 wx → wx.ownsRow (w2.heap.size + 2) 32 1 (.slice aK K.length cK) K.length (K.map (·.1))) := Lib.hid (fun wx hx => owns_below hX.r.kr hx)
        have HSZ : Hid (∀ wx (o : Obj), Below w4.heap.size w4 wx → w2.heap.size + 2 ≤ (wx.alloc o).heap.size) := Lib.hid (fun wx o hx => by have h1 := hx.size; have h2 := hX.z; simp; omega)
        have HFIN := Lib.hid (fun wx w5 v v5 hx => hX.addK (wx := wx) (w5 := w5) (v := v) (v5 := v5) (t := 32) (l := keysOf l) hx)
        have n3 : Hid (K.length + 1 ≤ maxLen) := Lib.hid (by unfold maxLen; omega)
        have n4 : Hid ((K.length + 1) * 24 ≤ 140737488355328) := Lib.hid (by omega)
        refine wp_region_held_drew (S := SB (w2.heap.size + 1) w2.heap.size gx ts tb tc (.slice a2 l.length cap2)) (by kernel_rfl) hX.s.drew (fun hS0 => ?_)
        refine takeQ (some 31) (i := 0) (v := ?v1) rfl rfl (by kernel_rfl) (by kernel_rfl) (by kernel_rfl) (fun _ _ _ h => h) (Or.inl ⟨by rfl, ?h1⟩) hS0 ?r1
        case h1 => (intro w hw; obtain ⟨q0, q1, q2, q3, q4⟩ := hw; go_simp; try (with_reducible rfl))
        try simp only [Act.put, List.setIfInBounds_toArray, List.set_cons_zero, List.set_cons_succ]
        refine takeQ (some 32) (i := 1) (v := ?v2) rfl rfl (by kernel_rfl) (by kernel_rfl) (by kernel_rfl) (fun _ _ _ h => h) (Or.inl ⟨by rfl, ?h2⟩) hS0 ?r2
        case h2 => (intro w hw; obtain ⟨q0, q1, q2, q3, q4⟩ := hw; go_simp; try (with_reducible rfl))
        try simp only [Act.put, List.setIfInBounds_toArray, List.set_cons_zero, List.set_cons_succ]
        refine takeQ (some 36) (i := 5) (v := ?v3) rfl rfl (by kernel_rfl) (by kernel_rfl) (by kernel_rfl) (fun _ _ _ h => h) (Or.inl ⟨by rfl, ?h3⟩) hS0 ?r3
        case h3 => (intro w hw; obtain ⟨q0, q1, q2, q3, q4⟩ := hw; go_simp; try (with_reducible rfl))
        try simp only [Act.put, List.setIfInBounds_toArray, List.set_cons_zero, List.set_cons_succ]
        refine takeQ (some 33) (i := 2) (v := ?v4) rfl rfl (by kernel_rfl) (by kernel_rfl) (by kernel_rfl) (fun _ _ _ h => h) (Or.inl ⟨by rfl, ?h4⟩) hS0 ?r4
        case h4 => (intro w hw; obtain ⟨q0, q1, q2, q3, q4⟩ := hw; go_simp; try (with_reducible rfl))
        try simp only [Act.put, List.setIfInBounds_toArray, List.set_cons_zero, List.set_cons_succ]
        refine takeQ (some 34) (i := 3) (v := ?v5) rfl rfl (by kernel_rfl) (by kernel_rfl) (by kernel_rfl) (fun _ _ _ h => h) (Or.inl ⟨by rfl, ?h5⟩) hS0 ?r5
        case h5 => (intro w hw; obtain ⟨q0, q1, q2, q3, q4⟩ := hw; go_simp; try (with_reducible rfl))
        try simp only [Act.put, List.setIfInBounds_toArray, List.set_cons_zero, List.set_cons_succ]
        refine wpAnyH_ready (rs := [4, 6]) (by kernel_rfl) (by simp) ?_
        refine AllReadyH.cons rfl ?_ (AllReadyH.cons rfl ?_ AllReadyH.nil)
        · intro KK hKK
          go_simp
          refine hKK.out _ _ hS0 (fun _ => ?_)
          clear hKK KK
          refine wpAnyH_ready (rs := [6]) (by kernel_rfl) (by simp) ?_
          refine AllReadyH.cons rfl ?_ AllReadyH.nil
          intro KK hKK
          go_simp
          refine (CK.out _ kd).mono ?_
          rintro e wx ⟨vx, rfl, hox, hbx⟩
          obtain ⟨ax, cx, hvx⟩ := owns_form hox
          subst hvx
          show KK _ _
          have kk := below_then kd hbx
          have hS1 := HS.out _ kk
          have hcw := HCL.out _ kk
          refine hKK.out _ _ hS1 (fun _ => ?_)
          clear hKK KK
          refine wpAnyH_ready (rs := [7]) (by kernel_rfl) (by simp) ?_
          refine AllReadyH.cons rfl ?_ AllReadyH.nil
          intro KK hKK
          go_simp
          have hS2 := hS1.alloc (.cells #[.slice ax (keysOf l).length cx] 32)
          have hcw := HCA.out _ kk (.cells #[.slice ax (keysOf l).length cx] 32)
          refine hKK.out _ _ hS2 (fun _ => ?_)
          clear hKK KK
          refine wpAnyH_ready (rs := [8]) (by kernel_rfl) (by simp) ?_
          refine AllReadyH.cons rfl ?_ AllReadyH.nil
          intro KK hKK
          refine step_app _ rfl (.tmp 35) (.tmp 38) 69 rfl (w2.heap.size + 2) 32 i1 (.slice none 0 0) 1 24 Tryd.underlying69 hi1 hza1 hzb1 hzc1 rfl (by decide) (.slice aK K.length cK) K.length (K.map (·.1)) (by simp [Act.eval]) ((HRO.out _ kk).alloc _) ⟨_, 0, none⟩ 1 1 [.slice ax (keysOf l).length cx] (by rfl) rfl (cell_one_new _ _ _) (by intro u hu; simp at hu; subst hu; rfl) n3.out n4.out (HSZ.out _ _ kk) ?_
          intro v5 w5 hown5 hg5
          obtain ⟨a5, c5, hv5⟩ := owns_form hown5
          subst hv5
          obtain ⟨hfin, hS5, hfz, hcz⟩ := HFIN.out _ _ _ _ kk hox hown5 hg5
          show KK _ _
          refine hKK.out _ _ hS5 (fun _ => ?_)
          clear hKK KK
          refine takeQ (some 40) (i := 9) (v := ?v6) rfl rfl (by kernel_rfl) (by kernel_rfl) (by kernel_rfl) (fun _ _ _ h => h) (Or.inl ⟨by rfl, ?h6⟩) hS5 ?r6
          case h6 => (intro w hw; obtain ⟨q0, q1, q2, q3, q4⟩ := hw; go_simp; try (with_reducible rfl))
          try simp only [Act.put, List.setIfInBounds_toArray]
          refine takeQ (some 41) (i := 10) (v := ?v7) rfl rfl (by kernel_rfl) (by kernel_rfl) (by kernel_rfl) (fun _ _ _ h => h) (Or.inl ⟨by rfl, ?h7⟩) hS5 ?r7
          case h7 => (intro w hw; obtain ⟨q0, q1, q2, q3, q4⟩ := hw; go_simp; try (with_reducible rfl))
          try simp only [Act.put]
          refine wpAnyH_ready (rs := [11]) (by kernel_rfl) (by simp) ?_
          refine AllReadyH.cons rfl ?_ AllReadyH.nil
          intro KK hKK
          go_simp
          refine hKK.out _ _ hfin.s (fun _ => ?_)
          clear hKK KK
          refine wpAnyH_done (by kernel_rfl) ?_ _
          go_wp2_with fail
          go_meet
          exact ⟨_, _, rfl, hfin⟩
        · intro KK hKK
          go_simp
          refine (CK.out _ kd).mono ?_
          rintro e wx ⟨vx, rfl, hox, hbx⟩
          obtain ⟨ax, cx, hvx⟩ := owns_form hox
          subst hvx
          show KK _ _
          have kk := below_then kd hbx
          have hS1 := HS.out _ kk
          have hcw := HCL.out _ kk
          refine hKK.out _ _ hS1 (fun _ => ?_)
          clear hKK KK
          refine wpAnyH_ready (rs := [4, 7]) (by kernel_rfl) (by simp) ?_
          refine AllReadyH.cons rfl ?_ (AllReadyH.cons rfl ?_ AllReadyH.nil)
          · intro KK hKK
            go_simp
            refine hKK.out _ _ hS1 (fun _ => ?_)
            clear hKK KK
            refine wpAnyH_ready (rs := [7]) (by kernel_rfl) (by simp) ?_
            refine AllReadyH.cons rfl ?_ AllReadyH.nil
            intro KK hKK
            go_simp
            have hS2 := hS1.alloc (.cells #[.slice ax (keysOf l).length cx] 32)
            have hcw := HCA.out _ kk (.cells #[.slice ax (keysOf l).length cx] 32)
            refine hKK.out _ _ hS2 (fun _ => ?_)
            clear hKK KK
            refine wpAnyH_ready (rs := [8]) (by kernel_rfl) (by simp) ?_
            refine AllReadyH.cons rfl ?_ AllReadyH.nil
            intro KK hKK
            refine step_app _ rfl (.tmp 35) (.tmp 38) 69 rfl (w2.heap.size + 2) 32 i1 (.slice none 0 0) 1 24 Tryd.underlying69 hi1 hza1 hzb1 hzc1 rfl (by decide) (.slice aK K.length cK) K.length (K.map (·.1)) (by simp [Act.eval]) ((HRO.out _ kk).alloc _) ⟨_, 0, none⟩ 1 1 [.slice ax (keysOf l).length cx] (by rfl) rfl (cell_one_new _ _ _) (by intro u hu; simp at hu; subst hu; rfl) n3.out n4.out (HSZ.out _ _ kk) ?_
            intro v5 w5 hown5 hg5
            obtain ⟨a5, c5, hv5⟩ := owns_form hown5
            subst hv5
            obtain ⟨hfin, hS5, hfz, hcz⟩ := HFIN.out _ _ _ _ kk hox hown5 hg5
            show KK _ _
            refine hKK.out _ _ hS5 (fun _ => ?_)
            clear hKK KK
            refine takeQ (some 40) (i := 9) (v := ?v8) rfl rfl (by kernel_rfl) (by kernel_rfl) (by kernel_rfl) (fun _ _ _ h => h) (Or.inl ⟨by rfl, ?h8⟩) hS5 ?r8
            case h8 => (intro w hw; obtain ⟨q0, q1, q2, q3, q4⟩ := hw; go_simp; try (with_reducible rfl))
            try simp only [Act.put, List.setIfInBounds_toArray]
            refine takeQ (some 41) (i := 10) (v := ?v9) rfl rfl (by kernel_rfl) (by kernel_rfl) (by kernel_rfl) (fun _ _ _ h => h) (Or.inl ⟨by rfl, ?h9⟩) hS5 ?r9
            case h9 => (intro w hw; obtain ⟨q0, q1, q2, q3, q4⟩ := hw; go_simp; try (with_reducible rfl))
            try simp only [Act.put]
            refine wpAnyH_ready (rs := [11]) (by kernel_rfl) (by simp) ?_
            refine AllReadyH.cons rfl ?_ AllReadyH.nil
            intro KK hKK
            go_simp
            refine hKK.out _ _ hfin.s (fun _ => ?_)
            clear hKK KK
            refine wpAnyH_done (by kernel_rfl) ?_ _
            go_wp2_with fail
            go_meet
            exact ⟨_, _, rfl, hfin⟩
          · intro KK hKK
            go_simp
            have hS2 := hS1.alloc (.cells #[.slice ax (keysOf l).length cx] 32)
            have hcw := HCA.out _ kk (.cells #[.slice ax (keysOf l).length cx] 32)
            refine hKK.out _ _ hS2 (fun _ => ?_)
            clear hKK KK
            refine wpAnyH_ready (rs := [4]) (by kernel_rfl) (by simp) ?_
            refine AllReadyH.cons rfl ?_ AllReadyH.nil
            intro KK hKK
            go_simp
            refine hKK.out _ _ hS2 (fun _ => ?_)
            clear hKK KK
            refine wpAnyH_ready (rs := [8]) (by kernel_rfl) (by simp) ?_
            refine AllReadyH.cons rfl ?_ AllReadyH.nil
            intro KK hKK
            refine step_app _ rfl (.tmp 35) (.tmp 38) 69 rfl (w2.heap.size + 2) 32 i1 (.slice none 0 0) 1 24 Tryd.underlying69 hi1 hza1 hzb1 hzc1 rfl (by decide) (.slice aK K.length cK) K.length (K.map (·.1)) (by simp [Act.eval]) ((HRO.out _ kk).alloc _) ⟨_, 0, none⟩ 1 1 [.slice ax (keysOf l).length cx] (by rfl) rfl (cell_one_new _ _ _) (by intro u hu; simp at hu; subst hu; rfl) n3.out n4.out (HSZ.out _ _ kk) ?_
            intro v5 w5 hown5 hg5
            obtain ⟨a5, c5, hv5⟩ := owns_form hown5
            subst hv5
            obtain ⟨hfin, hS5, hfz, hcz⟩ := HFIN.out _ _ _ _ kk hox hown5 hg5
            show KK _ _
            refine hKK.out _ _ hS5 (fun _ => ?_)
            clear hKK KK
            refine takeQ (some 40) (i := 9) (v := ?v10) rfl rfl (by kernel_rfl) (by kernel_rfl) (by kernel_rfl) (fun _ _ _ h => h) (Or.inl ⟨by rfl, ?h10⟩) hS5 ?r10
            case h10 => (intro w hw; obtain ⟨q0, q1, q2, q3, q4⟩ := hw; go_simp; try (with_reducible rfl))
            try simp only [Act.put, List.setIfInBounds_toArray]
            refine takeQ (some 41) (i := 10) (v := ?v11) rfl rfl (by kernel_rfl) (by kernel_rfl) (by kernel_rfl) (fun _ _ _ h => h) (Or.inl ⟨by rfl, ?h11⟩) hS5 ?r11
            case h11 => (intro w hw; obtain ⟨q0, q1, q2, q3, q4⟩ := hw; go_simp; try (with_reducible rfl))
            try simp only [Act.put]
            refine wpAnyH_ready (rs := [11]) (by kernel_rfl) (by simp) ?_
            refine AllReadyH.cons rfl ?_ AllReadyH.nil
            intro KK hKK
            go_simp
            refine hKK.out _ _ hfin.s (fun _ => ?_)
            clear hKK KK
            refine wpAnyH_done (by kernel_rfl) ?_ _
            go_wp2_with fail
            go_meet
            exact ⟨_, _, rfl, hfin⟩
      case rest =>
        obtain ⟨vk5, vx, rfl, hX5⟩ := hcut
        clear hX hOps1
        have hX := hX5
        clear hX5
        have HRD : Hid (∃ rd, rd = rdFr (wrTo h h.length) (k : Int) (refReads l)) := Lib.hid ⟨_, rfl⟩
        obtain ⟨rd, hrd⟩ := HRD.out
        have HRD2 := Lib.hid hrd
        clear hrd HRD
        go_upto_region 10 with fail
        go_cut [54] from 42 to 54 (fun u wx => ∃ (v5 : Value) (vy : Value), u = .pointer (some ⟨w2.heap.size, 195, none⟩) ∧ OfS w2 gx ts tb tc (.slice a2 l.length cap2) h.length vk5 v5 sd (K ++ [(vx, keysOf l)]) (R ++ [(vy, rd)]) wx)
        case first =>
          have hOps1 := HOPF.out wc hX.b
          have hMc := hM.below hX.b
          have kd := (Below.refl wc.heap.size wc).drew
          have CK : Hid (∀ wx, Below wc.heap.size wc wx → Calls Tryd.prog 33 #[.int .i64 k, .agg #[.int .i64 ts, .int .i64 tb, .int .i64 tc, .slice a2 l.length cap2], .map (some bm)] wx fun e w' => ∃ v, e = .returned v ∧ w'.ownsRow (w2.heap.size + 2) 81 2 v rd.length (frV rd) ∧ Below wx.heap.size wx w') := Lib.hid (fun wx hx => (oreads_any (k : Int) ts tb tc _ l (wrTo h h.length) bm _ _ wx (hOps1.below hx) HOL.out (by omega) (hMc.below hx)).mono (fun e w' ⟨v, out, he, ho, hr, _, hbb⟩ => by
            obtain rfl := hr.eq (refReads_rise HKL.out)
            rw [← HRD2.out] at ho
            exact ⟨v, he, own_base' ho (show w2.heap.size + 2 ≤ wx.heap.size by have h1 := hx.size; have h2 := hX.z; omega), hbb⟩))
          have HS : Hid (∀ wx, Below wc.heap.size wc wx → SB (w2.heap.size + 1) w2.heap.size gx ts tb tc (.slice a2 l.length cap2) wx) := Lib.hid (fun wx hx => hX.s.below hx)
          have hc0 := hX.o.cR
          have HCL : Hid (∀ wx, Below wc.heap.size wc wx → wx.cell? ⟨w2.heap.size, 195, none⟩ = some (.slice aR R.length cR)) := Lib.hid (fun wx hx => (hx.cell (p := ⟨w2.heap.size, 195, none⟩) (block_lt hc0)).trans hc0)
          have HCA : Hid (∀ wx, Below wc.heap.size wc wx → ∀ o, (wx.alloc o).cell? ⟨w2.heap.size, 195, none⟩ = some (.slice aR R.length cR)) := Lib.hid (fun wx hx o => HCL.out _ (hx.alloc hx.size o))
          have HRO : Hid (∀ wx, Below wc.heap.size wc wx → wx.ownsRow (w2.heap.size + 2) 74 1 (.slice aR R.length cR) R.length (R.map (·.1))) := Lib.hid (fun wx hx => owns_below hX.r.rr hx)
          have HSZ : Hid (∀ wx (o : Obj), Below wc.heap.size wc wx → w2.heap.size + 2 ≤ (wx.alloc o).heap.size) := Lib.hid (fun wx o hx => by have h1 := hx.size; have h2 := hX.z; simp; omega)
          have HFIN := Lib.hid (fun wx w5 v v5 hx => hX.addR (wx := wx) (w5 := w5) (v := v) (v5 := v5) (t := 74) (l := rd) hx)
          have n3 : Hid (R.length + 1 ≤ maxLen) := Lib.hid (by unfold maxLen; omega)
          have n4 : Hid ((R.length + 1) * 24 ≤ 140737488355328) := Lib.hid (by omega)
          refine wp_region_held_drew (S := SB (w2.heap.size + 1) w2.heap.size gx ts tb tc (.slice a2 l.length cap2)) (by kernel_rfl) hX.s.drew (fun hS0 => ?_)
          refine takeQ (some 42) (i := 0) (v := ?v101) rfl rfl (by kernel_rfl) (by kernel_rfl) (by kernel_rfl) (fun _ _ _ h => h) (Or.inl ⟨by rfl, ?h101⟩) hS0 ?r101
          case h101 => (intro w hw; obtain ⟨q0, q1, q2, q3, q4⟩ := hw; go_simp; try (with_reducible rfl))
          try simp only [Act.put, List.setIfInBounds_toArray, List.set_cons_zero, List.set_cons_succ]
          refine takeQ (some 43) (i := 1) (v := ?v102) rfl rfl (by kernel_rfl) (by kernel_rfl) (by kernel_rfl) (fun _ _ _ h => h) (Or.inl ⟨by rfl, ?h102⟩) hS0 ?r102
          case h102 => (intro w hw; obtain ⟨q0, q1, q2, q3, q4⟩ := hw; go_simp; try (with_reducible rfl))
          try simp only [Act.put, List.setIfInBounds_toArray, List.set_cons_zero, List.set_cons_succ]
          refine takeQ (some 47) (i := 5) (v := ?v103) rfl rfl (by kernel_rfl) (by kernel_rfl) (by kernel_rfl) (fun _ _ _ h => h) (Or.inl ⟨by rfl, ?h103⟩) hS0 ?r103
          case h103 => (intro w hw; obtain ⟨q0, q1, q2, q3, q4⟩ := hw; go_simp; try (with_reducible rfl))
          try simp only [Act.put, List.setIfInBounds_toArray, List.set_cons_zero, List.set_cons_succ]
          refine takeQ (some 48) (i := 6) (v := ?v104) rfl rfl (by kernel_rfl) (by kernel_rfl) (by kernel_rfl) (fun _ _ _ h => h) (Or.inl ⟨by rfl, ?h104⟩) hS0 ?r104
          case h104 => (intro w hw; obtain ⟨q0, q1, q2, q3, q4⟩ := hw; go_simp; try (with_reducible rfl))
          try simp only [Act.put, List.setIfInBounds_toArray, List.set_cons_zero, List.set_cons_succ]
          refine takeQ (some 49) (i := 7) (v := ?v105) rfl rfl (by kernel_rfl) (by kernel_rfl) (by kernel_rfl) (fun _ _ _ h => h) (Or.inl ⟨by rfl, ?h105⟩) hS0 ?r105
          case h105 => (intro w hw; obtain ⟨q0, q1, q2, q3, q4⟩ := hw; go_simp; try (with_reducible rfl))
          try simp only [Act.put, List.setIfInBounds_toArray, List.set_cons_zero, List.set_cons_succ]
          refine takeQ (some 44) (i := 2) (v := ?v106) rfl rfl (by kernel_rfl) (by kernel_rfl) (by kernel_rfl) (fun _ _ _ h => h) (Or.inl ⟨by rfl, ?h106⟩) hS0 ?r106
          case h106 => (intro w hw; obtain ⟨q0, q1, q2, q3, q4⟩ := hw; go_simp; try (with_reducible rfl))
          try simp only [Act.put, List.setIfInBounds_toArray, List.set_cons_zero, List.set_cons_succ]
          refine takeQ (some 45) (i := 3) (v := ?v107) rfl rfl (by kernel_rfl) (by kernel_rfl) (by kernel_rfl) (fun _ _ _ h => h) (Or.inl ⟨by rfl, ?h107⟩) hS0 ?r107
          case h107 => (intro w hw; obtain ⟨q0, q1, q2, q3, q4⟩ := hw; go_simp; try (with_reducible rfl))
          try simp only [Act.put, List.setIfInBounds_toArray, List.set_cons_zero, List.set_cons_succ]
          refine wpAnyH_ready (rs := [4, 8]) (by kernel_rfl) (by simp) ?_
          refine AllReadyH.cons rfl ?_ (AllReadyH.cons rfl ?_ AllReadyH.nil)
          · intro KK hKK
            go_simp
            refine hKK.out _ _ hS0 (fun _ => ?_)
            clear hKK KK
            refine wpAnyH_ready (rs := [8]) (by kernel_rfl) (by simp) ?_
            refine AllReadyH.cons rfl ?_ AllReadyH.nil
            intro KK hKK
            go_simp
            refine (CK.out _ kd).mono ?_
            rintro e wx ⟨vx, rfl, hox, hbx⟩
            obtain ⟨ax, cx, hvx⟩ := owns_form hox
            subst hvx
            show KK _ _
            have kk := below_then kd hbx
            have hS1 := HS.out _ kk
            have hcw := HCL.out _ kk
            refine hKK.out _ _ hS1 (fun _ => ?_)
            clear hKK KK
            refine wpAnyH_ready (rs := [9]) (by kernel_rfl) (by simp) ?_
            refine AllReadyH.cons rfl ?_ AllReadyH.nil
            intro KK hKK
            go_simp
            have hS2 := hS1.alloc (.cells #[.slice ax rd.length cx] 74)
            have hcw := HCA.out _ kk (.cells #[.slice ax rd.length cx] 74)
            refine hKK.out _ _ hS2 (fun _ => ?_)
            clear hKK KK
            refine wpAnyH_ready (rs := [10]) (by kernel_rfl) (by simp) ?_
            refine AllReadyH.cons rfl ?_ AllReadyH.nil
            intro KK hKK
            refine step_app _ rfl (.tmp 46) (.tmp 51) 70 rfl (w2.heap.size + 2) 74 i2 (.slice none 0 0) 1 24 Tryd.underlying70 hi2 hza2 hzb2 hzc2 rfl (by decide) (.slice aR R.length cR) R.length (R.map (·.1)) (by simp [Act.eval]) ((HRO.out _ kk).alloc _) ⟨_, 0, none⟩ 1 1 [.slice ax rd.length cx] (by rfl) rfl (cell_one_new _ _ _) (by intro u hu; simp at hu; subst hu; rfl) n3.out n4.out (HSZ.out _ _ kk) ?_
            intro v5 w5 hown5 hg5
            obtain ⟨a5, c5, hv5⟩ := owns_form hown5
            subst hv5
            obtain ⟨hfin, hS5, hfz, hcz⟩ := HFIN.out _ _ _ _ kk hox hown5 hg5
            show KK _ _
            refine hKK.out _ _ hS5 (fun _ => ?_)
            clear hKK KK
            refine takeQ (some 53) (i := 11) (v := ?v108) rfl rfl (by kernel_rfl) (by kernel_rfl) (by kernel_rfl) (fun _ _ _ h => h) (Or.inl ⟨by rfl, ?h108⟩) hS5 ?r108
            case h108 => (intro w hw; obtain ⟨q0, q1, q2, q3, q4⟩ := hw; go_simp; try (with_reducible rfl))
            try simp only [Act.put, List.setIfInBounds_toArray]
            refine takeQ (some 54) (i := 12) (v := ?v109) rfl rfl (by kernel_rfl) (by kernel_rfl) (by kernel_rfl) (fun _ _ _ h => h) (Or.inl ⟨by rfl, ?h109⟩) hS5 ?r109
            case h109 => (intro w hw; obtain ⟨q0, q1, q2, q3, q4⟩ := hw; go_simp; try (with_reducible rfl))
            try simp only [Act.put]
            refine wpAnyH_ready (rs := [13]) (by kernel_rfl) (by simp) ?_
            refine AllReadyH.cons rfl ?_ AllReadyH.nil
            intro KK hKK
            go_simp
            refine hKK.out _ _ hfin.s (fun _ => ?_)
            clear hKK KK
            refine wpAnyH_done (by kernel_rfl) ?_ _
            go_wp2_with fail
            go_meet
            exact ⟨_, _, rfl, hfin⟩
          · intro KK hKK
            go_simp
            refine (CK.out _ kd).mono ?_
            rintro e wx ⟨vx, rfl, hox, hbx⟩
            obtain ⟨ax, cx, hvx⟩ := owns_form hox
            subst hvx
            show KK _ _
            have kk := below_then kd hbx
            have hS1 := HS.out _ kk
            have hcw := HCL.out _ kk
            refine hKK.out _ _ hS1 (fun _ => ?_)
            clear hKK KK
            refine wpAnyH_ready (rs := [4, 9]) (by kernel_rfl) (by simp) ?_
            refine AllReadyH.cons rfl ?_ (AllReadyH.cons rfl ?_ AllReadyH.nil)
            · intro KK hKK
              go_simp
              refine hKK.out _ _ hS1 (fun _ => ?_)
              clear hKK KK
              refine wpAnyH_ready (rs := [9]) (by kernel_rfl) (by simp) ?_
              refine AllReadyH.cons rfl ?_ AllReadyH.nil
              intro KK hKK
              go_simp
              have hS2 := hS1.alloc (.cells #[.slice ax rd.length cx] 74)
              have hcw := HCA.out _ kk (.cells #[.slice ax rd.length cx] 74)
              refine hKK.out _ _ hS2 (fun _ => ?_)
              clear hKK KK
              refine wpAnyH_ready (rs := [10]) (by kernel_rfl) (by simp) ?_
              refine AllReadyH.cons rfl ?_ AllReadyH.nil
              intro KK hKK
              refine step_app _ rfl (.tmp 46) (.tmp 51) 70 rfl (w2.heap.size + 2) 74 i2 (.slice none 0 0) 1 24 Tryd.underlying70 hi2 hza2 hzb2 hzc2 rfl (by decide) (.slice aR R.length cR) R.length (R.map (·.1)) (by simp [Act.eval]) ((HRO.out _ kk).alloc _) ⟨_, 0, none⟩ 1 1 [.slice ax rd.length cx] (by rfl) rfl (cell_one_new _ _ _) (by intro u hu; simp at hu; subst hu; rfl) n3.out n4.out (HSZ.out _ _ kk) ?_
              intro v5 w5 hown5 hg5
              obtain ⟨a5, c5, hv5⟩ := owns_form hown5
              subst hv5
              obtain ⟨hfin, hS5, hfz, hcz⟩ := HFIN.out _ _ _ _ kk hox hown5 hg5
              show KK _ _
              refine hKK.out _ _ hS5 (fun _ => ?_)
              clear hKK KK
              refine takeQ (some 53) (i := 11) (v := ?v110) rfl rfl (by kernel_rfl) (by kernel_rfl) (by kernel_rfl) (fun _ _ _ h => h) (Or.inl ⟨by rfl, ?h110⟩) hS5 ?r110
              case h110 => (intro w hw; obtain ⟨q0, q1, q2, q3, q4⟩ := hw; go_simp; try (with_reducible rfl))
              try simp only [Act.put, List.setIfInBounds_toArray]
              refine takeQ (some 54) (i := 12) (v := ?v111) rfl rfl (by kernel_rfl) (by kernel_rfl) (by kernel_rfl) (fun _ _ _ h => h) (Or.inl ⟨by rfl, ?h111⟩) hS5 ?r111
              case h111 => (intro w hw; obtain ⟨q0, q1, q2, q3, q4⟩ := hw; go_simp; try (with_reducible rfl))
              try simp only [Act.put]
              refine wpAnyH_ready (rs := [13]) (by kernel_rfl) (by simp) ?_
              refine AllReadyH.cons rfl ?_ AllReadyH.nil
              intro KK hKK
              go_simp
              refine hKK.out _ _ hfin.s (fun _ => ?_)
              clear hKK KK
              refine wpAnyH_done (by kernel_rfl) ?_ _
              go_wp2_with fail
              go_meet
              exact ⟨_, _, rfl, hfin⟩
            · intro KK hKK
              go_simp
              have hS2 := hS1.alloc (.cells #[.slice ax rd.length cx] 74)
              have hcw := HCA.out _ kk (.cells #[.slice ax rd.length cx] 74)
              refine hKK.out _ _ hS2 (fun _ => ?_)
              clear hKK KK
              refine wpAnyH_ready (rs := [4]) (by kernel_rfl) (by simp) ?_
              refine AllReadyH.cons rfl ?_ AllReadyH.nil
              intro KK hKK
              go_simp
              refine hKK.out _ _ hS2 (fun _ => ?_)
              clear hKK KK
              refine wpAnyH_ready (rs := [10]) (by kernel_rfl) (by simp) ?_
              refine AllReadyH.cons rfl ?_ AllReadyH.nil
              intro KK hKK
              refine step_app _ rfl (.tmp 46) (.tmp 51) 70 rfl (w2.heap.size + 2) 74 i2 (.slice none 0 0) 1 24 Tryd.underlying70 hi2 hza2 hzb2 hzc2 rfl (by decide) (.slice aR R.length cR) R.length (R.map (·.1)) (by simp [Act.eval]) ((HRO.out _ kk).alloc _) ⟨_, 0, none⟩ 1 1 [.slice ax rd.length cx] (by rfl) rfl (cell_one_new _ _ _) (by intro u hu; simp at hu; subst hu; rfl) n3.out n4.out (HSZ.out _ _ kk) ?_
              intro v5 w5 hown5 hg5
              obtain ⟨a5, c5, hv5⟩ := owns_form hown5
              subst hv5
              obtain ⟨hfin, hS5, hfz, hcz⟩ := HFIN.out _ _ _ _ kk hox hown5 hg5
              show KK _ _
              refine hKK.out _ _ hS5 (fun _ => ?_)
              clear hKK KK
              refine takeQ (some 53) (i := 11) (v := ?v112) rfl rfl (by kernel_rfl) (by kernel_rfl) (by kernel_rfl) (fun _ _ _ h => h) (Or.inl ⟨by rfl, ?h112⟩) hS5 ?r112
              case h112 => (intro w hw; obtain ⟨q0, q1, q2, q3, q4⟩ := hw; go_simp; try (with_reducible rfl))
              try simp only [Act.put, List.setIfInBounds_toArray]
              refine takeQ (some 54) (i := 12) (v := ?v113) rfl rfl (by kernel_rfl) (by kernel_rfl) (by kernel_rfl) (fun _ _ _ h => h) (Or.inl ⟨by rfl, ?h113⟩) hS5 ?r113
              case h113 => (intro w hw; obtain ⟨q0, q1, q2, q3, q4⟩ := hw; go_simp; try (with_reducible rfl))
              try simp only [Act.put]
              refine wpAnyH_ready (rs := [13]) (by kernel_rfl) (by simp) ?_
              refine AllReadyH.cons rfl ?_ AllReadyH.nil
              intro KK hKK
              go_simp
              refine hKK.out _ _ hfin.s (fun _ => ?_)
              clear hKK KK
              refine wpAnyH_done (by kernel_rfl) ?_ _
              go_wp2_with fail
              go_meet
              exact ⟨_, _, rfl, hfin⟩
        case rest =>
          obtain ⟨vr5, vy, rfl, hX5⟩ := hcut
          clear hX
          have hX := hX5
          clear hX5
          have hOps1 := HOPF.out wc hX.b
          have hMc := hM.below hX.b
          have kd := (Below.refl wc.heap.size wc).drew
          have HSO : Hid (∃ so, so = (!(refReads l).any (badFr (wrTo h h.length) (k : Int)) && steadyL l)) := Lib.hid ⟨_, rfl⟩
          obtain ⟨so, hso⟩ := HSO.out
          have HSO2 := Lib.hid hso
          clear hso HSO
          have CK : Hid (∀ wx, Below wc.heap.size wc wx → Calls Tryd.prog 34 #[.int .i64 k, .agg #[.int .i64 ts, .int .i64 tb, .int .i64 tc, .slice a2 l.length cap2], .map (some bm)] wx fun e w' => e = .returned (.bool so) ∧ Below wx.heap.size wx w') := Lib.hid (fun wx hx => (osound_any (k : Int) ts tb tc _ l (wrTo h h.length) bm _ _ wx (hOps1.below hx) HOL.out (by omega) (hMc.below hx)).mono (fun e w' ⟨out, he, hr, _, hbb⟩ => by
            obtain rfl := hr.eq (refReads_rise HKL.out)
            rw [← HSO2.out] at he
            exact ⟨he, hbb⟩))
          have HK0 : Hid ((K ++ [(vx, keysOf l)]).map (·.2) = keysTo h (k + 1) ∧ (R ++ [(vy, rd)]).map (·.2) = readsTo h (k + 1) ∧ (sd && so) = soundTo h (k + 1)) := Lib.hid (by
            refine ⟨?_, ?_, ?_⟩
            · rw [List.map_append, keysTo_succ, ← HK.out.1, HLK.out]; rfl
            · rw [List.map_append, readsTo_succ, ← HK.out.2.1]
              unfold readsOf
              rw [HLK.out, ← HRD2.out]; rfl
            · rw [soundTo_succ, ← HK.out.2.2]
              unfold soundOf
              rw [HLK.out, ← HSO2.out])
          go_upto_region 11 with fail
          cases sd
          · have HK1 : Hid ((K ++ [(vx, keysOf l)]).map (·.2) = keysTo h (k + 1) ∧ (R ++ [(vy, rd)]).map (·.2) = readsTo h (k + 1) ∧ false = soundTo h (k + 1)) := Lib.hid HK0.out
            clear HK0
            refine wp_region_held_drew (S := SB (w2.heap.size + 1) w2.heap.size gx ts tb tc (.slice a2 l.length cap2)) (by kernel_rfl) hX.s.drew (fun hS0 => ?_)
            have hc0 := hX.o.cS
            refine takeQ (some 55) (i := 0) (v := ?v201) rfl rfl (by kernel_rfl) (by kernel_rfl) (by kernel_rfl) (fun _ _ _ h => h) (Or.inl ⟨by rfl, ?h201⟩) hS0 ?r201
            case h201 => (intro w hw; obtain ⟨q0, q1, q2, q3, q4⟩ := hw; go_simp; try (with_reducible rfl))
            try simp only [Act.put, List.setIfInBounds_toArray, List.set_cons_zero, List.set_cons_succ]
            refine takeQ (some 56) (i := 1) (v := ?v202) rfl rfl (by kernel_rfl) (by kernel_rfl) (by kernel_rfl) (fun _ _ _ h => h) (Or.inl ⟨by rfl, ?h202⟩) hS0 ?r202
            case h202 => (intro w hw; obtain ⟨q0, q1, q2, q3, q4⟩ := hw; go_simp; try (with_reducible rfl))
            try simp only [Act.put, List.setIfInBounds_toArray, List.set_cons_zero, List.set_cons_succ]
            refine takeQ (some 57) (i := 2) (v := ?v203) rfl rfl (by kernel_rfl) (by kernel_rfl) (by kernel_rfl) (fun _ _ _ h => h) (Or.inl ⟨by rfl, ?h203⟩) hS0 ?r203
            case h203 => (intro w hw; obtain ⟨q0, q1, q2, q3, q4⟩ := hw; go_simp; try (with_reducible rfl))
            try simp only [Act.put, List.setIfInBounds_toArray, List.set_cons_zero, List.set_cons_succ]
            refine takeQ (some 58) (i := 3) (v := ?v204) rfl rfl (by kernel_rfl) (by kernel_rfl) (by kernel_rfl) (fun _ _ _ h => h) (Or.inl ⟨by rfl, ?h204⟩) hS0 ?r204
            case h204 => (intro w hw; obtain ⟨q0, q1, q2, q3, q4⟩ := hw; go_simp; try (with_reducible rfl))
            try simp only [Act.put, List.setIfInBounds_toArray, List.set_cons_zero, List.set_cons_succ]
            refine wpAnyH_ready (rs := [4]) (by kernel_rfl) (by simp) ?_
            refine AllReadyH.cons rfl ?_ AllReadyH.nil
            intro KK hKK
            go_simp
            refine hKK.out _ _ hS0 (fun _ => ?_)
            clear hKK KK
            refine takeQ (some 60) (i := 5) (v := ?v205) rfl rfl (by kernel_rfl) (by kernel_rfl) (by kernel_rfl) (fun _ _ _ h => h) (Or.inl ⟨by rfl, ?h205⟩) hS0 ?r205
            case h205 => (intro w hw; obtain ⟨q0, q1, q2, q3, q4⟩ := hw; go_simp; try (with_reducible rfl))
            try simp only [Act.put, List.setIfInBounds_toArray, List.set_cons_zero, List.set_cons_succ]
            refine takeQ (some 61) (i := 6) (v := undef) rfl rfl (by kernel_rfl) (by kernel_rfl) (by kernel_rfl) (fun _ _ _ h => h) (Or.inr ⟨by rfl, rfl⟩) hS0 ?_
            try simp only [Act.put, List.setIfInBounds_toArray, List.set_cons_zero, List.set_cons_succ]
            refine takeQ (some 62) (i := 7) (v := undef) rfl rfl (by kernel_rfl) (by kernel_rfl) (by kernel_rfl) (fun _ _ _ h => h) (Or.inr ⟨by rfl, rfl⟩) hS0 ?_
            try simp only [Act.put, List.setIfInBounds_toArray, List.set_cons_zero, List.set_cons_succ]
            refine takeQ (some 63) (i := 8) (v := undef) rfl rfl (by kernel_rfl) (by kernel_rfl) (by kernel_rfl) (fun _ _ _ h => h) (Or.inr ⟨by rfl, rfl⟩) hS0 ?_
            try simp only [Act.put, List.setIfInBounds_toArray, List.set_cons_zero, List.set_cons_succ]
            refine wpAnyH_ready (rs := [9]) (by kernel_rfl) (by simp) ?_
            refine AllReadyH.cons rfl ?_ AllReadyH.nil
            intro KK hKK
            go_simp
            have hY := hX.below kd
            have hf := hY.o.free (i := 196) (by omega)
            have hc := hY.o.cS
            refine hKK.out _ _ hS0 (fun _ => ?_)
            clear hKK KK
            refine takeQ (some 65) (i := 10) (v := ?v206) rfl rfl (by kernel_rfl) (by kernel_rfl) (by kernel_rfl) (fun _ _ _ h => h) (Or.inl ⟨by rfl, ?h206⟩) hS0 ?r206
            case h206 => (intro w hw; obtain ⟨q0, q1, q2, q3, q4⟩ := hw; go_simp; try (with_reducible rfl))
            try simp only [Act.put, List.setIfInBounds_toArray, List.set_cons_zero, List.set_cons_succ]
            refine takeQ (some 66) (i := 11) (v := ?v207) rfl rfl (by kernel_rfl) (by kernel_rfl) (by kernel_rfl) (fun _ _ _ h => h) (Or.inl ⟨by rfl, ?h207⟩) hS0 ?r207
            case h207 => (intro w hw; obtain ⟨q0, q1, q2, q3, q4⟩ := hw; go_simp; try (with_reducible rfl))
            try simp only [Act.put, List.setIfInBounds_toArray, List.set_cons_zero, List.set_cons_succ]
            refine takeQ (some 67) (i := 12) (v := ?v208) rfl rfl (by kernel_rfl) (by kernel_rfl) (by kernel_rfl) (fun _ _ _ h => h) (Or.inl ⟨by rfl, ?h208⟩) hS0 ?r208
            case h208 => (intro w hw; obtain ⟨q0, q1, q2, q3, q4⟩ := hw; go_simp; try (with_reducible rfl))
            try simp only [Act.put, List.setIfInBounds_toArray, List.set_cons_zero, List.set_cons_succ]
            refine wpAnyH_ready (rs := [13]) (by kernel_rfl) (by simp) ?_
            refine AllReadyH.cons rfl ?_ AllReadyH.nil
            intro KK hKK
            go_simp
            have hZ := hY.setS false
            refine hKK.out _ _ hZ.s (fun _ => ?_)
            clear hKK KK
            refine wpAnyH_done (by kernel_rfl) ?_ _
            clear hX hY CK kd hc hf hS0
            go_wp2_with fail
            go_roundw
            case rel => exact ⟨k + 1, _, _, _, _, _, by omega, by go_num, HK1.out.1, HK1.out.2.1, HK1.out.2.2, hZ.o, hZ.s.1, hZ.r, hZ.b, hZ.z⟩
            case measure => simp [intOf]; omega
          · have HK1 : Hid ((K ++ [(vx, keysOf l)]).map (·.2) = keysTo h (k + 1) ∧ (R ++ [(vy, rd)]).map (·.2) = readsTo h (k + 1) ∧ so = soundTo h (k + 1)) := Lib.hid HK0.out
            clear HK0
            refine wp_region_held_drew (S := SB (w2.heap.size + 1) w2.heap.size gx ts tb tc (.slice a2 l.length cap2)) (by kernel_rfl) hX.s.drew (fun hS0 => ?_)
            have hc0 := hX.o.cS
            refine takeQ (some 55) (i := 0) (v := ?v301) rfl rfl (by kernel_rfl) (by kernel_rfl) (by kernel_rfl) (fun _ _ _ h => h) (Or.inl ⟨by rfl, ?h301⟩) hS0 ?r301
            case h301 => (intro w hw; obtain ⟨q0, q1, q2, q3, q4⟩ := hw; go_simp; try (with_reducible rfl))
            try simp only [Act.put, List.setIfInBounds_toArray, List.set_cons_zero, List.set_cons_succ]
            refine takeQ (some 56) (i := 1) (v := ?v302) rfl rfl (by kernel_rfl) (by kernel_rfl) (by kernel_rfl) (fun _ _ _ h => h) (Or.inl ⟨by rfl, ?h302⟩) hS0 ?r302
            case h302 => (intro w hw; obtain ⟨q0, q1, q2, q3, q4⟩ := hw; go_simp; try (with_reducible rfl))
            try simp only [Act.put, List.setIfInBounds_toArray, List.set_cons_zero, List.set_cons_succ]
            refine takeQ (some 57) (i := 2) (v := ?v303) rfl rfl (by kernel_rfl) (by kernel_rfl) (by kernel_rfl) (fun _ _ _ h => h) (Or.inl ⟨by rfl, ?h303⟩) hS0 ?r303
            case h303 => (intro w hw; obtain ⟨q0, q1, q2, q3, q4⟩ := hw; go_simp; try (with_reducible rfl))
            try simp only [Act.put, List.setIfInBounds_toArray, List.set_cons_zero, List.set_cons_succ]
            refine takeQ (some 58) (i := 3) (v := ?v304) rfl rfl (by kernel_rfl) (by kernel_rfl) (by kernel_rfl) (fun _ _ _ h => h) (Or.inl ⟨by rfl, ?h304⟩) hS0 ?r304
            case h304 => (intro w hw; obtain ⟨q0, q1, q2, q3, q4⟩ := hw; go_simp; try (with_reducible rfl))
            try simp only [Act.put, List.setIfInBounds_toArray, List.set_cons_zero, List.set_cons_succ]
            refine wpAnyH_ready (rs := [4]) (by kernel_rfl) (by simp) ?_
            refine AllReadyH.cons rfl ?_ AllReadyH.nil
            intro KK hKK
            go_simp
            refine hKK.out _ _ hS0 (fun _ => ?_)
            clear hKK KK
            refine takeQ (some 60) (i := 5) (v := ?v305) rfl rfl (by kernel_rfl) (by kernel_rfl) (by kernel_rfl) (fun _ _ _ h => h) (Or.inl ⟨by rfl, ?h305⟩) hS0 ?r305
            case h305 => (intro w hw; obtain ⟨q0, q1, q2, q3, q4⟩ := hw; go_simp; try (with_reducible rfl))
            try simp only [Act.put, List.setIfInBounds_toArray, List.set_cons_zero, List.set_cons_succ]
            refine takeQ (some 61) (i := 6) (v := ?v306) rfl rfl (by kernel_rfl) (by kernel_rfl) (by kernel_rfl) (fun _ _ _ h => h) (Or.inl ⟨by rfl, ?h306⟩) hS0 ?r306
            case h306 => (intro w hw; obtain ⟨q0, q1, q2, q3, q4⟩ := hw; go_simp; try (with_reducible rfl))
            try simp only [Act.put, List.setIfInBounds_toArray, List.set_cons_zero, List.set_cons_succ]
            refine takeQ (some 62) (i := 7) (v := ?v307) rfl rfl (by kernel_rfl) (by kernel_rfl) (by kernel_rfl) (fun _ _ _ h => h) (Or.inl ⟨by rfl, ?h307⟩) hS0 ?r307
            case h307 => (intro w hw; obtain ⟨q0, q1, q2, q3, q4⟩ := hw; go_simp; try (with_reducible rfl))
            try simp only [Act.put, List.setIfInBounds_toArray, List.set_cons_zero, List.set_cons_succ]
            refine takeQ (some 63) (i := 8) (v := ?v308) rfl rfl (by kernel_rfl) (by kernel_rfl) (by kernel_rfl) (fun _ _ _ h => h) (Or.inl ⟨by rfl, ?h308⟩) hS0 ?r308
            case h308 => (intro w hw; obtain ⟨q0, q1, q2, q3, q4⟩ := hw; go_simp; try (with_reducible rfl))
            try simp only [Act.put, List.setIfInBounds_toArray, List.set_cons_zero, List.set_cons_succ]
            refine wpAnyH_ready (rs := [9]) (by kernel_rfl) (by simp) ?_
            refine AllReadyH.cons rfl ?_ AllReadyH.nil
            intro KK hKK
            go_simp
            refine (CK.out _ kd).mono ?_
            rintro e wx ⟨rfl, hbx⟩
            show KK _ _
            have kk := below_then kd hbx
            have hY := hX.below kk
            have hf := hY.o.free (i := 196) (by omega)
            have hc := hY.o.cS
            refine hKK.out _ _ hY.s (fun _ => ?_)
            clear hKK KK
            refine takeQ (some 65) (i := 10) (v := ?v309) rfl rfl (by kernel_rfl) (by kernel_rfl) (by kernel_rfl) (fun _ _ _ h => h) (Or.inl ⟨by rfl, ?h309⟩) hY.s ?r309
            case h309 => (intro w hw; obtain ⟨q0, q1, q2, q3, q4⟩ := hw; go_simp; try (with_reducible rfl))
            try simp only [Act.put, List.setIfInBounds_toArray, List.set_cons_zero, List.set_cons_succ]
            refine takeQ (some 66) (i := 11) (v := ?v310) rfl rfl (by kernel_rfl) (by kernel_rfl) (by kernel_rfl) (fun _ _ _ h => h) (Or.inl ⟨by rfl, ?h310⟩) hY.s ?r310
            case h310 => (intro w hw; obtain ⟨q0, q1, q2, q3, q4⟩ := hw; go_simp; try (with_reducible rfl))
            try simp only [Act.put, List.setIfInBounds_toArray, List.set_cons_zero, List.set_cons_succ]
            refine takeQ (some 67) (i := 12) (v := ?v311) rfl rfl (by kernel_rfl) (by kernel_rfl) (by kernel_rfl) (fun _ _ _ h => h) (Or.inl ⟨by rfl, ?h311⟩) hY.s ?r311
            case h311 => (intro w hw; obtain ⟨q0, q1, q2, q3, q4⟩ := hw; go_simp; try (with_reducible rfl))
            try simp only [Act.put, List.setIfInBounds_toArray, List.set_cons_zero, List.set_cons_succ]
            refine wpAnyH_ready (rs := [13]) (by kernel_rfl) (by simp) ?_
            refine AllReadyH.cons rfl ?_ AllReadyH.nil
            intro KK hKK
            go_simp
            have hZ := hY.setS so
            refine hKK.out _ _ hZ.s (fun _ => ?_)
            clear hKK KK
            refine wpAnyH_done (by kernel_rfl) ?_ _
            clear hX hY CK kd hc hf hS0 kk hbx
            go_wp2_with fail
            go_roundw
            case rel => exact ⟨k + 1, _, _, _, _, _, by omega, by go_num, HK1.out.1, HK1.out.2.1, HK1.out.2.2, hZ.o, hZ.s.1, hZ.r, hZ.b, hZ.z⟩
            case measure => simp [intOf]; omega
    · have hkl : k = h.length := by omega
      subst hkl
      have hA4 := (hb.cell (p := ⟨w.heap.size, 0, none⟩) hlt).trans hA2
      have hbw := below_then hb4 hb
      have hX : OfT w2 w.heap.size (.slice ao h.length cap) h.length noR noR noR (.map none) vk vr sd K R wr := ⟨hO, ⟨hC, hA4⟩, hF, hb, hlt⟩
      have hKl : K.length ≤ 64 := by have := congrArg List.length HK.out.1; simp [keysTo] at this; omega
      obtain ⟨aK, cK, rfl⟩ := owns_form hX.r.kr
      obtain ⟨aR, cR, rfl⟩ := owns_form hX.r.rr
      have HKE : Hid (∀ p ∈ K, p.2.length ≤ 64 ∧ ∀ x ∈ p.2, InI x) := Lib.hid (fun p hp => by
        have hm : p.2 ∈ keysTo h h.length := by rw [← HK.out.1]; exact List.mem_map.2 ⟨p, hp, rfl⟩
        unfold keysTo at hm
        obtain ⟨i, hi, he⟩ := List.mem_map.1 hm
        have hil := List.mem_range.1 hi
        rw [← he]
        unfold keysOf
        refine ⟨by rw [List.length_map]; exact upTo_len _ 64, fun x hx => ?_⟩
        obtain ⟨q, hq, rfl⟩ := List.mem_map.1 hx
        have hq2 := lastW_key ((((refWrites_rise (by rw [opsAt_eq hil]; exact HKS.out _ (List.getElem_mem hil))).2 q).1 hq).1)
        exact inI_of (((HOK.out _ (List.getElem_mem hil)).2 q (by rw [← opsAt_eq hil]; exact hq2.2.2)).1))
      have kd := (Below.refl wr.heap.size wr).drew
      have CWR : Hid (∀ wx, Below wr.heap.size wr wx → Calls Tryd.prog 35 #[.slice aK K.length cK] wx fun e w' => ∃ b n c, e = .returned (.map (some b)) ∧ wx.heap.size ≤ b ∧ MapI eS Tryd.prog 3 w' b n (wrsTo K K.length) c ∧ AllSet (wrsTo K K.length) ∧ Below wx.heap.size wx w') := Lib.hid (fun wx hx => owriters_any _ K wx ((hX.r.below hx).rws) (by omega) (fun p hp => by have := (HKE.out p hp).1; omega) (fun p hp => (HKE.out p hp).2))
      have hmf : ∀ (fn : Fn) (first cap : Array Value) (w : World), (Instr.makeFunc fn first cap).run Tryd.prog w = .ok (.func fn first cap) w := fun _ _ _ _ => rfl
      clear hO hC hF hb hA4 hbw
      go_wp2_with fail
      refine wp_region_held_drew (S := SA (w2.heap.size + 1) w2.heap.size w.heap.size (.slice ao h.length cap)) (by kernel_rfl) hX.drew.s (fun hS0 => ?_)
      have hc0 := hX.o.cK
      refine takeQ (some 69) (i := 0) (v := ?v401) rfl rfl (by kernel_rfl) (by kernel_rfl) (by kernel_rfl) (fun _ _ _ h => h) (Or.inl ⟨by rfl, ?h401⟩) hS0 ?r401
      case h401 => (intro w hw; obtain ⟨q0, q1⟩ := hw; go_simp; try (with_reducible rfl))
      try simp only [Act.put, List.setIfInBounds_toArray, List.set_cons_zero, List.set_cons_succ]
      refine takeQ (some 70) (i := 1) (v := ?v402) rfl rfl (by kernel_rfl) (by kernel_rfl) (by kernel_rfl) (fun _ _ _ h => h) (Or.inl ⟨by rfl, ?h402⟩) hS0 ?r402
      case h402 => (intro w hw; obtain ⟨q0, q1⟩ := hw; go_simp; try (with_reducible rfl))
      try simp only [Act.put, List.setIfInBounds_toArray, List.set_cons_zero, List.set_cons_succ]
      refine takeQ (some 71) (i := 2) (v := ?v403) rfl rfl (by kernel_rfl) (by kernel_rfl) (by kernel_rfl) (fun _ _ _ h => h) (Or.inl ⟨by rfl, ?h403⟩) hS0 ?r403
      case h403 => (intro w hw; obtain ⟨q0, q1⟩ := hw; go_simp; try (with_reducible rfl))
      try simp only [Act.put, List.setIfInBounds_toArray, List.set_cons_zero, List.set_cons_succ]
      refine takeQ (some 72) (i := 3) (v := ?v404) rfl rfl (by kernel_rfl) (by kernel_rfl) (by kernel_rfl) (fun _ _ _ h => h) (Or.inl ⟨by rfl, ?h404⟩) hS0 ?r404
      case h404 => (intro w hw; obtain ⟨q0, q1⟩ := hw; go_simp; try (with_reducible rfl))
      try simp only [Act.put, List.setIfInBounds_toArray, List.set_cons_zero, List.set_cons_succ]
      refine wpAnyH_ready (rs := [4]) (by kernel_rfl) (by simp) ?_
      refine AllReadyH.cons rfl ?_ AllReadyH.nil
      intro KK hKK
      go_simp
      refine hKK.out _ _ hS0 (fun _ => ?_)
      clear hKK KK
      refine wpAnyH_ready (rs := [5]) (by kernel_rfl) (by simp) ?_
      refine AllReadyH.cons rfl ?_ AllReadyH.nil
      intro KK hKK
      go_simp
      refine (CWR.out _ kd).mono ?_
      rintro e wx ⟨bw, nw, cw, rfl, hbw, hMw, hAw, hbx⟩
      show KK _ _
      have hY := hX.below (below_then kd hbx)
      have hbB : w2.heap.size < bw := by have h1 := hX.b.size; have h2 := hX.o.lt; have h3 := kd.size; omega
      have hf := hY.o.free (i := 193) (by omega)
      have hc := hY.o.cM
      refine hKK.out _ _ hY.s (fun _ => ?_)
      clear hKK KK
      refine takeQ (some 75) (i := 6) (v := ?v405) rfl rfl (by kernel_rfl) (by kernel_rfl) (by kernel_rfl) (fun _ _ _ h => h) (Or.inl ⟨by rfl, ?h405⟩) hY.s ?r405
      case h405 => (intro w hw; obtain ⟨q0, q1⟩ := hw; go_simp; try (with_reducible rfl))
      try simp only [Act.put, List.setIfInBounds_toArray, List.set_cons_zero, List.set_cons_succ]
      refine takeQ (some 76) (i := 7) (v := ?v406) rfl rfl (by kernel_rfl) (by kernel_rfl) (by kernel_rfl) (fun _ _ _ h => h) (Or.inl ⟨by rfl, ?h406⟩) hY.s ?r406
      case h406 => (intro w hw; obtain ⟨q0, q1⟩ := hw; go_simp; try (with_reducible rfl))
      try simp only [Act.put, List.setIfInBounds_toArray, List.set_cons_zero, List.set_cons_succ]
      refine wpAnyH_ready (rs := [8]) (by kernel_rfl) (by simp) ?_
      refine AllReadyH.cons rfl ?_ AllReadyH.nil
      intro KK hKK
      go_simp
      have hX13 := hY.setM (.map (some bw))
      have hM13 := hMw.cell (a := ⟨w2.heap.size, 193, none⟩) (by simp; omega) (.map (some bw))
      refine hKK.out _ _ hX13.s (fun _ => ?_)
      clear hKK KK
      refine wpAnyH_done (by kernel_rfl) ?_ _
      clear hX hY kd CWR hc hf hc0 hS0 hMw
      generalize wx.setCell ⟨w2.heap.size, 193, none⟩ (.map (some bw)) = w3 at *
      have hX := hX13
      have hM3 := hM13
      clear hX13 hM13
      have kd := (Below.refl w3.heap.size w3).drew
      have CP : Hid (∀ wx, Below w3.heap.size w3 wx → Calls Tryd.prog 36 #[.int .i64 h.length, .func (.func 37) #[] #[.pointer (some ⟨w.heap.size, 0, none⟩)]] wx fun e w' => e = .returned (.agg (rowsA (sesM h))) ∧ Below wx.heap.size wx w') := Lib.hid (fun wx hx => pairs_any (sesP h) h.length (by omega) _ _ wx enters_ses (fun a b wy ha hb hy => ses_calls _ h _ a b wy ((hX.below (below_then hx hy)).s.2) (HT.out _ (below_then hb4 (hX.below (below_then hx hy)).b)) ha hb))
      go_wp2_with fail
      refine wp_region_held_drew (S := SA (w2.heap.size + 1) w2.heap.size w.heap.size (.slice ao h.length cap)) (by kernel_rfl) hX.drew.s (fun hS0 => ?_)
      refine takeQ (some 77) (i := 0) (v := ?v501) rfl rfl (by kernel_rfl) (by kernel_rfl) (by kernel_rfl) (fun _ _ _ h => h) (Or.inl ⟨by rfl, ?h501⟩) hS0 ?r501
      case h501 => (intro w hw; obtain ⟨q0, q1⟩ := hw; go_simp; try (with_reducible rfl))
      try simp only [Act.put, List.setIfInBounds_toArray, List.set_cons_zero, List.set_cons_succ]
      refine takeQ (some 78) (i := 1) (v := ?v502) rfl rfl (by kernel_rfl) (by kernel_rfl) (by kernel_rfl) (fun _ _ _ h => h) (Or.inl ⟨by rfl, ?h502⟩) hS0 ?r502
      case h502 => (intro w hw; obtain ⟨q0, q1⟩ := hw; go_simp; try (with_reducible rfl))
      try simp only [Act.put, List.setIfInBounds_toArray, List.set_cons_zero, List.set_cons_succ]
      refine takeQ (some 79) (i := 2) (v := ?v503) rfl rfl (by kernel_rfl) (by kernel_rfl) (by kernel_rfl) (fun _ _ _ h => h) (Or.inl ⟨by rfl, ?h503⟩) hS0 ?r503
      case h503 => (intro w hw; obtain ⟨q0, q1⟩ := hw; go_simp; try (with_reducible rfl))
      try simp only [Act.put, List.setIfInBounds_toArray, List.set_cons_zero, List.set_cons_succ]
      refine takeQ (some 80) (i := 3) (v := ?v504) rfl rfl (by kernel_rfl) (by kernel_rfl) (by kernel_rfl) (fun _ _ _ h => h) (Or.inl ⟨by rfl, ?h504⟩) hS0 ?r504
      case h504 => (intro w hw; obtain ⟨q0, q1⟩ := hw; go_simp; try (with_reducible rfl))
      try simp only [Act.put, List.setIfInBounds_toArray, List.set_cons_zero, List.set_cons_succ]
      refine wpAnyH_ready (rs := [4]) (by kernel_rfl) (by simp) ?_
      refine AllReadyH.cons rfl ?_ AllReadyH.nil
      intro KK hKK
      go_simp
      refine (CP.out _ kd).mono ?_
      rintro e wx ⟨rfl, hbx⟩
      show KK _ _
      have kk := below_then kd hbx
      have hY := hX.below kk
      have hMY := hM3.below kk
      refine hKK.out _ _ hY.s (fun _ => ?_)
      clear hKK KK
      refine takeQ (some 82) (i := 5) (v := ?v505) rfl rfl (by kernel_rfl) (by kernel_rfl) (by kernel_rfl) (fun _ _ _ h => h) (Or.inl ⟨by rfl, ?h505⟩) hY.s ?r505
      case h505 => (intro w hw; obtain ⟨q0, q1⟩ := hw; go_simp; try (with_reducible rfl))
      try simp only [Act.put, List.setIfInBounds_toArray]
      refine takeQ (some 83) (i := 6) (v := ?v506) rfl rfl (by kernel_rfl) (by kernel_rfl) (by kernel_rfl) (fun _ _ _ h => h) (Or.inl ⟨by rfl, ?h506⟩) hY.s ?r506
      case h506 => (intro w hw; obtain ⟨q0, q1⟩ := hw; go_simp; try (with_reducible rfl))
      try simp only [Act.put]
      refine wpAnyH_ready (rs := [7]) (by kernel_rfl) (by simp) ?_
      refine AllReadyH.cons rfl ?_ AllReadyH.nil
      intro KK hKK
      rw [if_pos (by rfl)]
      refine wp_store_mid 37 (.tmp 83) (.tmp 81) rfl w2.heap.size 1 (rowsA (sesM h)) rfl rfl (by rw [rowsA_size]; exact hY.o.there 1 (by omega)) (infoRel' _) (rows_one _) ?_
      have hXn := hY.setS (sesM h)
      have hMn := MapI.cells (g := w2.heap.size) (by omega) (rowsA (sesM h)).toList 1 _ hMY
      refine hKK.out _ _ hXn.s (fun _ => ?_)
      clear hKK KK
      refine wpAnyH_done (by kernel_rfl) ?_ _
      clear hX hM3 hY kd CP hS0 hMY kk hbx
      generalize wx.setCells w2.heap.size 1 (rowsA (sesM h)).toList = w3 at *
      have hX := hXn
      have hM3 := hMn
      clear hXn hMn
      have kd := (Below.refl w3.heap.size w3).drew
      have CP : Hid (∀ wx, Below w3.heap.size w3 wx → Calls Tryd.prog 36 #[.int .i64 h.length, .func (.func 38) #[] #[.pointer (some ⟨w.heap.size, 0, none⟩)]] wx fun e w' => e = .returned (.agg (rowsA (timM h))) ∧ Below wx.heap.size wx w') := Lib.hid (fun wx hx => pairs_any (timP h) h.length (by omega) _ _ wx enters_tim (fun a b wy ha hb hy => tim_calls _ h _ a b wy ((hX.below (below_then hx hy)).s.2) (HT.out _ (below_then hb4 (hX.below (below_then hx hy)).b)) ha hb))
      go_wp2_with fail
      refine wp_region_held_drew (S := SA (w2.heap.size + 1) w2.heap.size w.heap.size (.slice ao h.length cap)) (by kernel_rfl) hX.drew.s (fun hS0 => ?_)
      refine takeQ (some 84) (i := 0) (v := ?v601) rfl rfl (by kernel_rfl) (by kernel_rfl) (by kernel_rfl) (fun _ _ _ h => h) (Or.inl ⟨by rfl, ?h601⟩) hS0 ?r601
      case h601 => (intro w hw; obtain ⟨q0, q1⟩ := hw; go_simp; try (with_reducible rfl))
      try simp only [Act.put, List.setIfInBounds_toArray, List.set_cons_zero, List.set_cons_succ]
      refine takeQ (some 85) (i := 1) (v := ?v602) rfl rfl (by kernel_rfl) (by kernel_rfl) (by kernel_rfl) (fun _ _ _ h => h) (Or.inl ⟨by rfl, ?h602⟩) hS0 ?r602
      case h602 => (intro w hw; obtain ⟨q0, q1⟩ := hw; go_simp; try (with_reducible rfl))
      try simp only [Act.put]
      refine takeQ (some 86) (i := 2) (v := ?v603) rfl rfl (by kernel_rfl) (by kernel_rfl) (by kernel_rfl) (fun _ _ _ h => h) (Or.inl ⟨by rfl, ?h603⟩) hS0 ?r603
      case h603 => (intro w hw; obtain ⟨q0, q1⟩ := hw; go_simp; try (with_reducible rfl))
      try simp only [Act.put]
      refine takeQ (some 87) (i := 3) (v := ?v604) rfl rfl (by kernel_rfl) (by kernel_rfl) (by kernel_rfl) (fun _ _ _ h => h) (Or.inl ⟨by rfl, ?h604⟩) hS0 ?r604
      case h604 => (intro w hw; obtain ⟨q0, q1⟩ := hw; go_simp; try (with_reducible rfl))
      try simp only [Act.put]
      refine wpAnyH_ready (rs := [4]) (by kernel_rfl) (by simp) ?_
      refine AllReadyH.cons rfl ?_ AllReadyH.nil
      intro KK hKK
      go_simp
      refine (CP.out _ kd).mono ?_
      rintro e wx ⟨rfl, hbx⟩
      show KK _ _
      have kk := below_then kd hbx
      have hY := hX.below kk
      have hMY := hM3.below kk
      refine hKK.out _ _ hY.s (fun _ => ?_)
      clear hKK KK
      refine takeQ (some 89) (i := 5) (v := ?v605) rfl rfl (by kernel_rfl) (by kernel_rfl) (by kernel_rfl) (fun _ _ _ h => h) (Or.inl ⟨by rfl, ?h605⟩) hY.s ?r605
      case h605 => (intro w hw; obtain ⟨q0, q1⟩ := hw; go_simp; try (with_reducible rfl))
      try simp only [Act.put, List.setIfInBounds_toArray]
      refine takeQ (some 90) (i := 6) (v := ?v606) rfl rfl (by kernel_rfl) (by kernel_rfl) (by kernel_rfl) (fun _ _ _ h => h) (Or.inl ⟨by rfl, ?h606⟩) hY.s ?r606
      case h606 => (intro w hw; obtain ⟨q0, q1⟩ := hw; go_simp; try (with_reducible rfl))
      try simp only [Act.put]
      refine wpAnyH_ready (rs := [7]) (by kernel_rfl) (by simp) ?_
      refine AllReadyH.cons rfl ?_ AllReadyH.nil
      intro KK hKK
      rw [if_pos (by rfl)]
      refine wp_store_mid 37 (.tmp 90) (.tmp 88) rfl w2.heap.size 65 (rowsA (timM h)) rfl rfl (by rw [rowsA_size]; exact hY.o.there 65 (by omega)) (infoRel' _) (rows_one _) ?_
      have hXn := hY.setT (timM h)
      have hMn := MapI.cells (g := w2.heap.size) (by omega) (rowsA (timM h)).toList 65 _ hMY
      refine hKK.out _ _ hXn.s (fun _ => ?_)
      clear hKK KK
      refine wpAnyH_done (by kernel_rfl) ?_ _
      clear hX hM3 hY kd CP hS0 hMY kk hbx
      generalize wx.setCells w2.heap.size 65 (rowsA (timM h)).toList = w3 at *
      have hX := hXn
      have hM3 := hMn
      clear hXn hMn
      have kd := (Below.refl w3.heap.size w3).drew
      have CP : Hid (∀ wx, Below w3.heap.size w3 wx → Calls Tryd.prog 36 #[.int .i64 h.length, .func (.func 39) #[] #[.pointer (some ⟨w2.heap.size + 1, 0, none⟩)]] wx fun e w' => e = .returned (.agg (rowsA (froM h))) ∧ Below wx.heap.size wx w') := Lib.hid (fun wx hx => pairs_any (froP h) h.length (by omega) _ _ wx enters_fro (fun a b wy ha hb hy => fro_calls _ h R _ _ a b wy ((hX.below (below_then hx hy)).s.1) ((hX.below (below_then hx hy)).o.cR) ((hX.below (below_then hx hy)).r.frws) HK.out.2.1 hb))
      go_wp2_with fail
      refine wp_region_held_drew (S := SA (w2.heap.size + 1) w2.heap.size w.heap.size (.slice ao h.length cap)) (by kernel_rfl) hX.drew.s (fun hS0 => ?_)
      refine takeQ (some 91) (i := 0) (v := ?v701) rfl rfl (by kernel_rfl) (by kernel_rfl) (by kernel_rfl) (fun _ _ _ h => h) (Or.inl ⟨by rfl, ?h701⟩) hS0 ?r701
      case h701 => (intro w hw; obtain ⟨q0, q1⟩ := hw; go_simp; try (with_reducible rfl))
      try simp only [Act.put, List.setIfInBounds_toArray, List.set_cons_zero, List.set_cons_succ]
      refine takeQ (some 92) (i := 1) (v := ?v702) rfl rfl (by kernel_rfl) (by kernel_rfl) (by kernel_rfl) (fun _ _ _ h => h) (Or.inl ⟨by rfl, ?h702⟩) hS0 ?r702
      case h702 => (intro w hw; obtain ⟨q0, q1⟩ := hw; go_simp; try (with_reducible rfl))
      try simp only [Act.put]
      refine takeQ (some 93) (i := 2) (v := ?v703) rfl rfl (by kernel_rfl) (by kernel_rfl) (by kernel_rfl) (fun _ _ _ h => h) (Or.inl ⟨by rfl, ?h703⟩) hS0 ?r703
      case h703 => (intro w hw; obtain ⟨q0, q1⟩ := hw; go_simp; try (with_reducible rfl))
      try simp only [Act.put]
      refine takeQ (some 94) (i := 3) (v := ?v704) rfl rfl (by kernel_rfl) (by kernel_rfl) (by kernel_rfl) (fun _ _ _ h => h) (Or.inl ⟨by rfl, ?h704⟩) hS0 ?r704
      case h704 => (intro w hw; obtain ⟨q0, q1⟩ := hw; go_simp; try (with_reducible rfl))
      try simp only [Act.put]
      refine wpAnyH_ready (rs := [4]) (by kernel_rfl) (by simp) ?_
      refine AllReadyH.cons rfl ?_ AllReadyH.nil
      intro KK hKK
      go_simp
      refine (CP.out _ kd).mono ?_
      rintro e wx ⟨rfl, hbx⟩
      show KK _ _
      have kk := below_then kd hbx
      have hY := hX.below kk
      have hMY := hM3.below kk
      refine hKK.out _ _ hY.s (fun _ => ?_)
      clear hKK KK
      refine takeQ (some 96) (i := 5) (v := ?v705) rfl rfl (by kernel_rfl) (by kernel_rfl) (by kernel_rfl) (fun _ _ _ h => h) (Or.inl ⟨by rfl, ?h705⟩) hY.s ?r705
      case h705 => (intro w hw; obtain ⟨q0, q1⟩ := hw; go_simp; try (with_reducible rfl))
      try simp only [Act.put, List.setIfInBounds_toArray]
      refine takeQ (some 97) (i := 6) (v := ?v706) rfl rfl (by kernel_rfl) (by kernel_rfl) (by kernel_rfl) (fun _ _ _ h => h) (Or.inl ⟨by rfl, ?h706⟩) hY.s ?r706
      case h706 => (intro w hw; obtain ⟨q0, q1⟩ := hw; go_simp; try (with_reducible rfl))
      try simp only [Act.put]
      refine wpAnyH_ready (rs := [7]) (by kernel_rfl) (by simp) ?_
      refine AllReadyH.cons rfl ?_ AllReadyH.nil
      intro KK hKK
      rw [if_pos (by rfl)]
      refine wp_store_mid 37 (.tmp 97) (.tmp 95) rfl w2.heap.size 129 (rowsA (froM h)) rfl rfl (by rw [rowsA_size]; exact hY.o.there 129 (by omega)) (infoRel' _) (rows_one _) ?_
      have hXn := hY.setF (froM h)
      have hMn := MapI.cells (g := w2.heap.size) (by omega) (rowsA (froM h)).toList 129 _ hMY
      refine hKK.out _ _ hXn.s (fun _ => ?_)
      clear hKK KK
      refine wpAnyH_done (by kernel_rfl) ?_ _
      clear hX hM3 hY kd CP hS0 hMY kk hbx
      generalize wx.setCells w2.heap.size 129 (rowsA (froM h)).toList = w3 at *
      have hq := hXn.s.1
      go_wp2_with fail
      go_ret2
      exact ⟨⟨_, rfl, by have := hb4.size; omega, _, _, _, _, _, K, R, HK.out.2.2 ▸ hXn.o, hMn, hAw, hXn.r, HK.out.1, HK.out.2.1⟩, below_then hb4 hXn.b⟩
end Go.Proofs.YtfekcmhjdjifgaaDoor

namespace Go.Proofs.YtfekcmhjdjifgaaDoor
set_option maxRecDepth 100000
open Go.RowKit

def sp11 (v1 v2 v3 : Value) : List TxnV := [⟨0, 1, 6, v1, [⟨true, 0, 1⟩]⟩, ⟨1, 2, 5, v2, [⟨true, 1, 2⟩]⟩, ⟨2, 3, 4, v3, [⟨false, 1, 2⟩]⟩]
theorem sp11_ok (v1 v2 v3 : Value) : ∀ t ∈ sp11 v1 v2 v3, t.ok := by
  intro t ht
  simp [sp11] at ht
  rcases ht with rfl | rfl | rfl <;> refine ⟨?_, fun o ho => ?_⟩
  all_goals first
    | (refine ⟨?_, ?_, ?_⟩ <;> simp [IntOk])
    | (simp at ho; subst ho; refine ⟨?_, ?_⟩ <;> simp [IntOk])
theorem sp11_short (v1 v2 v3 : Value) : Short (sp11 v1 v2 v3) := by
  intro t ht
  simp [sp11] at ht
  rcases ht with rfl | rfl | rfl <;> simp
theorem sp11_check (v1 v2 v3 : Value) : checkI (sp11 v1 v2 v3) = 0 := by rfl
theorem sp11_fro (v1 v2 v3 : Value) (i j : Nat) (hi : i < 64) (hj : j < 64) : froM (sp11 v1 v2 v3) i j = true ↔ i = 1 ∧ j = 2 := by
  have h := prsTo_iff (froP (sp11 v1 v2 v3)) 3 i j hi hj 3
  refine Iff.trans h ⟨?_, ?_⟩
  · rintro ⟨h1, h2, h3⟩
    have e1 : i = 0 ∨ i = 1 ∨ i = 2 := by omega
    have e2 : j = 0 ∨ j = 1 ∨ j = 2 := by omega
    rcases e1 with rfl | rfl | rfl <;> rcases e2 with rfl | rfl | rfl
    all_goals first
      | exact ⟨rfl, rfl⟩
      | exact absurd h3 (by rw [show froP (sp11 v1 v2 v3) _ _ = false from rfl]; decide)
  · rintro ⟨rfl, rfl⟩
    exact ⟨by omega, by omega, rfl⟩
theorem sp11_start (v1 v2 v3 : Value) (x : Nat) (hx : x = 4 ∨ x = 2) (A : Mat) (i j : Nat) : startM (sp11 v1 v2 v3) (x : Int) A i j = true ↔ froM (sp11 v1 v2 v3) i j = true := by
  have hx2 : x < 9223372036854775808 := by omega
  rw [startM_iff _ x hx2, baseM_iff _ x hx2]
  rcases hx with rfl | rfl
  · rw [show (4 : Nat).testBit 0 = false from rfl, show (4 : Nat).testBit 5 = false from rfl, show (4 : Nat).testBit 3 = false from rfl, show (4 : Nat).testBit 4 = false from rfl]; simp
  · rw [show (2 : Nat).testBit 0 = false from rfl, show (2 : Nat).testBit 5 = false from rfl, show (2 : Nat).testBit 3 = false from rfl, show (2 : Nat).testBit 4 = false from rfl]; simp
theorem chain012 (i j : Nat) : chainR [0, 1, 2] i j = true → i < j := by
  rw [chainR_iff, ahead_at]
  rintro ⟨k, hk, h1, h2⟩
  simp at hk
  have e : k = 0 ∨ k = 1 ∨ k = 2 := by omega
  rcases e with rfl | rfl | rfl <;> simp at h1 h2 <;> omega
theorem sp11_four (v1 v2 v3 : Value) {R : Mat} (hR : LeastIs (sp11 v1 v2 v3) 4 [0, 1, 2] R) : hasR R 0 2 = true ∧ hasR R 1 2 = true ∧ seeTo R 2 64 = 3 := by
  have t4 : trB ((4 : Nat) : Int) = false := by rw [trB_bit 4 (by omega)]; rfl
  have p4 : pfB ((4 : Nat) : Int) = true := by rw [pfB_bit 4 (by omega)]; rfl
  have m12 : Must (startM (sp11 v1 v2 v3) ((4 : Nat) : Int) (chainR [0, 1, 2])) (chainR [0, 1, 2]) (trB ((4 : Nat) : Int)) (pfB ((4 : Nat) : Int)) 1 2 := .base ((sp11_start v1 v2 v3 4 (.inl rfl) _ 1 2).2 ((sp11_fro v1 v2 v3 1 2 (by omega) (by omega)).2 ⟨rfl, rfl⟩))
  have m02 := Must.pre p4 (by omega) (show chainR [0, 1, 2] 0 1 = true from rfl) m12
  have r02 := (hR 0 2 (by omega) (by omega)).2 m02
  have r12 := (hR 1 2 (by omega) (by omega)).2 m12
  have hno : ∀ i, i < 64 → R i 2 = true → i < 2 := fun i hi h => by
    have := must_in (V := fun i j => j = 2 ∧ i < 2) ?_ ?_ ?_ ((hR i 2 hi (by omega)).1 h) hi (by omega)
    · exact this.2
    · intro i j hi hj hs
      have := (sp11_fro v1 v2 v3 i j hi hj).1 ((sp11_start v1 v2 v3 4 (.inl rfl) _ i j).1 hs)
      omega
    · intro ht
      rw [t4] at ht; cases ht
    · intro _ i m j _ _ _ ha hv
      have := chain012 i m ha
      omega
  refine ⟨(hasR_nat R 0 2 (by omega) (by omega)).trans r02, (hasR_nat R 1 2 (by omega) (by omega)).trans r12, ?_⟩
  refine set_ext (seeTo_set R 2 64) (by unfold IsSet; omega) fun i hi => ?_
  have h1 := hasR_nat R i 2 hi (by omega)
  have h2 : (3 : Nat).testBit i = decide (i < 2) := Nat.testBit_two_pow_sub_one 2 i
  have h3 := seeTo_bit R 2 i 64 (Nat.le_refl _)
  rw [h3, h2, decide_eq_true hi, Bool.true_and]
  refine h1.trans ?_
  cases hr : R i 2 with
  | true => exact (decide_eq_true (hno i hi hr)).symm
  | false =>
    refine (decide_eq_false (fun h => ?_)).symm
    have e : i = 0 ∨ i = 1 := by omega
    rcases e with rfl | rfl
    · rw [r02] at hr; cases hr
    · rw [r12] at hr; cases hr
theorem sp11_two (v1 v2 v3 : Value) {R : Mat} (hR : LeastIs (sp11 v1 v2 v3) 2 [0, 1, 2] R) : hasR R 0 2 = false ∧ hasR R 1 2 = true := by
  have p2 : pfB ((2 : Nat) : Int) = false := by rw [pfB_bit 2 (by omega)]; rfl
  have r12 := (hR 1 2 (by omega) (by omega)).2 (.base ((sp11_start v1 v2 v3 2 (.inr rfl) _ 1 2).2 ((sp11_fro v1 v2 v3 1 2 (by omega) (by omega)).2 ⟨rfl, rfl⟩)))
  refine ⟨?_, (hasR_nat R 1 2 (by omega) (by omega)).trans r12⟩
  refine (hasR_nat R 0 2 (by omega) (by omega)).trans ?_
  cases hr : R 0 2 with
  | false => rfl
  | true =>
    have := must_in (V := fun i j => i = 1 ∧ j = 2) ?_ ?_ ?_ ((hR 0 2 (by omega) (by omega)).1 hr) (by omega) (by omega)
    · omega
    · intro i j hi hj hs
      exact (sp11_fro v1 v2 v3 i j hi hj).1 ((sp11_start v1 v2 v3 2 (.inr rfl) _ i j).1 hs)
    · intro _ i m j _ _ _ h1 h2
      omega
    · intro ht
      rw [p2] at ht; cases ht
set_option maxRecDepth 100000 in
set_option maxHeartbeats 16000000 in
theorem speaks11_any (w : World) (ht : Tab w) :
    Calls Tryd.prog 7 #[] w fun e w' => e = .returned (.bool true) ∧ Below w.heap.size w w' := by
  have hg := ht.pos
  have HT : Hid (∀ wx, Below w.heap.size w wx → Tab wx) := Lib.hid (fun wx hb => ht.below hb hg)
  have C1 := fun (wx : World) => Lib.hid (write_op 0 1 wx)
  have C2 := fun (wx : World) => Lib.hid (write_op 1 2 wx)
  have C3 := fun (wx : World) => Lib.hid (read_any 1 2 wx)
  clear ht
  go_enter Tryd.func7, Tryd.ntmps7
  go_wp2_with fail
  refine ((C1 w).out).mono ?_
  rintro e w1 ⟨rfl, hb1⟩
  go_wp2_with fail
  refine ((C2 _).out).mono ?_
  rintro e w2 ⟨rfl, hb2⟩
  go_wp2_with fail
  refine ((C3 _).out).mono ?_
  rintro e w3 ⟨rfl, hb3⟩
  clear C1 C2 C3
  have hx1 := hb1.alloc hb1.size (.cells #[.bool true, .int .i64 0, .int .i64 1] 58)
  have hx2 := below_then hx1 hb2
  have hx3 := hx2.alloc hx2.size (.cells #[.bool true, .int .i64 1, .int .i64 2] 58)
  have hx4 := below_then hx3 hb3
  have hx5 := hx4.alloc hx4.size (.cells #[.bool false, .int .i64 1, .int .i64 2] 58)
  have hb4 := hx5.alloc hx5.size (.cells #[.int .i64 0, .int .i64 1, .int .i64 6, .slice (some ⟨w1.heap.size, 0, none⟩) 1 1, .int .i64 1, .int .i64 2, .int .i64 5, .slice (some ⟨w2.heap.size, 0, none⟩) 1 1, .int .i64 2, .int .i64 3, .int .i64 4, .slice (some ⟨w3.heap.size, 0, none⟩) 1 1] 62)
  have hO1 : Ops _ (.slice (some ⟨w1.heap.size, 0, none⟩) 1 1) [⟨true, 0, 1⟩] := ((((Row.of_owns (World.ownsRow_lit (base := 0) (e := 58) (size := 3) w1 #[.bool true, .int .i64 0, .int .i64 1] 1 (Nat.zero_le _) (by decide) rfl)).below hb2).below (box_below w2 (.cells #[.bool true, .int .i64 1, .int .i64 2] 58))).below hb3).below (box_below w3 (.cells #[.bool false, .int .i64 1, .int .i64 2] 58))
  have hO2 : Ops _ (.slice (some ⟨w2.heap.size, 0, none⟩) 1 1) [⟨true, 1, 2⟩] := ((Row.of_owns (World.ownsRow_lit (base := 0) (e := 58) (size := 3) w2 #[.bool true, .int .i64 1, .int .i64 2] 1 (Nat.zero_le _) (by decide) rfl)).below hb3).below (box_below w3 (.cells #[.bool false, .int .i64 1, .int .i64 2] 58))
  have hO3 : Ops _ (.slice (some ⟨w3.heap.size, 0, none⟩) 1 1) [⟨false, 1, 2⟩] := Row.of_owns (World.ownsRow_lit (base := 0) (e := 58) (size := 3) w3 #[.bool false, .int .i64 1, .int .i64 2] 1 (Nat.zero_le _) (by decide) rfl)
  have hO1 := Row.below hO1 (box_below _ (.cells #[.int .i64 0, .int .i64 1, .int .i64 6, .slice (some ⟨w1.heap.size, 0, none⟩) 1 1, .int .i64 1, .int .i64 2, .int .i64 5, .slice (some ⟨w2.heap.size, 0, none⟩) 1 1, .int .i64 2, .int .i64 3, .int .i64 4, .slice (some ⟨w3.heap.size, 0, none⟩) 1 1] 62))
  have hO2 := Row.below hO2 (box_below _ (.cells #[.int .i64 0, .int .i64 1, .int .i64 6, .slice (some ⟨w1.heap.size, 0, none⟩) 1 1, .int .i64 1, .int .i64 2, .int .i64 5, .slice (some ⟨w2.heap.size, 0, none⟩) 1 1, .int .i64 2, .int .i64 3, .int .i64 4, .slice (some ⟨w3.heap.size, 0, none⟩) 1 1] 62))
  have hO3 := Row.below hO3 (box_below _ (.cells #[.int .i64 0, .int .i64 1, .int .i64 6, .slice (some ⟨w1.heap.size, 0, none⟩) 1 1, .int .i64 1, .int .i64 2, .int .i64 5, .slice (some ⟨w2.heap.size, 0, none⟩) 1 1, .int .i64 2, .int .i64 3, .int .i64 4, .slice (some ⟨w3.heap.size, 0, none⟩) 1 1] 62))
  have hR : Row _ _ 3 4 _ := Row.of_owns (World.ownsRow_lit (base := 0) (e := 62) (size := 4) (w3.alloc (.cells #[.bool false, .int .i64 1, .int .i64 2] 58)) #[.int .i64 0, .int .i64 1, .int .i64 6, .slice (some ⟨w1.heap.size, 0, none⟩) 1 1, .int .i64 1, .int .i64 2, .int .i64 5, .slice (some ⟨w2.heap.size, 0, none⟩) 1 1, .int .i64 2, .int .i64 3, .int .i64 4, .slice (some ⟨w3.heap.size, 0, none⟩) 1 1] 3 (Nat.zero_le _) (by decide) rfl)
  rw [show (w3.alloc (.cells #[.bool false, .int .i64 1, .int .i64 2] 58)).heap.size = w3.heap.size + 1 from by simp] at hR
  clear hb1 hb2 hb3 hx1 hx2 hx3 hx4 hx5
  go_wp2_with fail
  generalize (w3.alloc (.cells #[.bool false, .int .i64 1, .int .i64 2] 58)).alloc (.cells #[.int .i64 0, .int .i64 1, .int .i64 6, .slice (some ⟨w1.heap.size, 0, none⟩) 1 1, .int .i64 1, .int .i64 2, .int .i64 5, .slice (some ⟨w2.heap.size, 0, none⟩) 1 1, .int .i64 2, .int .i64 3, .int .i64 4, .slice (some ⟨w3.heap.size, 0, none⟩) 1 1] 62) = w4 at *
  generalize w1.heap.size = a1 at *
  generalize w2.heap.size = a2 at *
  generalize w3.heap.size = a3 at *
  have hT : Txns w4 (.slice (some ⟨a3 + 1, 0, none⟩) 3 3) (sp11 (.slice (some ⟨a1, 0, none⟩) 1 1) (.slice (some ⟨a2, 0, none⟩) 1 1) (.slice (some ⟨a3, 0, none⟩) 1 1)) := ⟨hR, fun t ht => by
    simp [sp11] at ht
    rcases ht with rfl | rfl | rfl
    · exact hO1
    · exact hO2
    · exact hO3⟩
  have hck := sp11_check (.slice (some ⟨a1, 0, none⟩) 1 1) (.slice (some ⟨a2, 0, none⟩) 1 1) (.slice (some ⟨a3, 0, none⟩) 1 1)
  have CO := Lib.hid (of_done _ _ _ hT (sp11_ok _ _ _) (sp11_short _ _ _) hck)
  have H4 := Lib.hid (fun R (hR : LeastIs (sp11 (.slice (some ⟨a1, 0, none⟩) 1 1) (.slice (some ⟨a2, 0, none⟩) 1 1) (.slice (some ⟨a3, 0, none⟩) 1 1)) 4 [0, 1, 2] R) => sp11_four _ _ _ hR)
  have H2 := Lib.hid (fun R (hR : LeastIs (sp11 (.slice (some ⟨a1, 0, none⟩) 1 1) (.slice (some ⟨a2, 0, none⟩) 1 1) (.slice (some ⟨a3, 0, none⟩) 1 1)) 2 [0, 1, 2] R) => sp11_two _ _ _ hR)
  have HC := Lib.hid hck
  clear hT hR hO1 hO2 hO3 hck
  generalize sp11 (.slice (some ⟨a1, 0, none⟩) 1 1) (.slice (some ⟨a2, 0, none⟩) 1 1) (.slice (some ⟨a3, 0, none⟩) 1 1) = h at *
  refine (CO.out).mono ?_
  rintro e w5 ⟨⟨B, rfl, hB, hO⟩, hb5⟩
  have hb5 := below_then hb4 hb5
  have hI : Ints (w5.alloc (.cells #[.int .i64 0, .int .i64 1, .int .i64 2] 3)) (.slice (some ⟨w5.heap.size, 0, none⟩) 3 3) [0, 1, 2] := Row.of_owns (World.ownsRow_lit (base := 0) (e := 3) (size := 1) w5 #[.int .i64 0, .int .i64 1, .int .i64 2] 3 (Nat.zero_le _) (by decide) rfl)
  have hb6 := hb5.alloc hb5.size (.cells #[.int .i64 0, .int .i64 1, .int .i64 2] 3)
  have CL := Lib.hid (lof_any 4 _ [0, 1, 2] h B (B + 2) _ (hO.below (box_below w5 (.cells #[.int .i64 0, .int .i64 1, .int .i64 2] 3))) HC.out (HT.out _ hb6) hI)
  have HO := Lib.hid (fun wx (hx : Below w5.heap.size w5 wx) => hO.below hx)
  clear CO hO hI hb4 hB
  go_wp2_with fail
  refine (CL.out).mono ?_
  rintro e w6 ⟨⟨R4, rfl, hR4⟩, hb7⟩
  have hx6 := (box_below w5 (.cells #[.int .i64 0, .int .i64 1, .int .i64 2] 3)).trans (hb7.mono (by simp))
  have hb8 := hb5.trans (hx6.mono hb5.size)
  have hI : Ints (w6.alloc (.cells #[.int .i64 0, .int .i64 1, .int .i64 2] 3)) (.slice (some ⟨w6.heap.size, 0, none⟩) 3 3) [0, 1, 2] := Row.of_owns (World.ownsRow_lit (base := 0) (e := 3) (size := 1) w6 #[.int .i64 0, .int .i64 1, .int .i64 2] 3 (Nat.zero_le _) (by decide) rfl)
  have hb9 := hb8.alloc hb8.size (.cells #[.int .i64 0, .int .i64 1, .int .i64 2] 3)
  have CL2 := Lib.hid (lof_any 2 _ [0, 1, 2] h B (B + 2) _ (HO.out _ (hx6.alloc hx6.size (.cells #[.int .i64 0, .int .i64 1, .int .i64 2] 3))) HC.out (HT.out _ hb9) hI)
  have HR4 := Lib.hid (H4.out R4 hR4)
  clear CL hI hb5 hb6 hb7 hx6 hR4 HO hb8
  go_wp2_with fail
  refine (CL2.out).mono ?_
  rintro e w7 ⟨⟨R2, rfl, hR2⟩, hb10⟩
  have HR2 := Lib.hid (H2.out R2 hR2)
  have hb11 := below_then hb9 hb10
  clear CL2 hR2 hb9 hb10 H4 H2
  have z4 := zero_block w7
  have z4 := z4.alloc (.cells #[.int .u64 0, .int .u64 0, .int .u64 0, .int .u64 0, .int .u64 0, .int .u64 0, .int .u64 0, .int .u64 0, .int .u64 0, .int .u64 0, .int .u64 0, .int .u64 0, .int .u64 0, .int .u64 0, .int .u64 0, .int .u64 0, .int .u64 0, .int .u64 0, .int .u64 0, .int .u64 0, .int .u64 0, .int .u64 0, .int .u64 0, .int .u64 0, .int .u64 0, .int .u64 0, .int .u64 0, .int .u64 0, .int .u64 0, .int .u64 0, .int .u64 0, .int .u64 0, .int .u64 0, .int .u64 0, .int .u64 0, .int .u64 0, .int .u64 0, .int .u64 0, .int .u64 0, .int .u64 0, .int .u64 0, .int .u64 0, .int .u64 0, .int .u64 0, .int .u64 0, .int .u64 0, .int .u64 0, .int .u64 0, .int .u64 0, .int .u64 0, .int .u64 0, .int .u64 0, .int .u64 0, .int .u64 0, .int .u64 0, .int .u64 0, .int .u64 0, .int .u64 0, .int .u64 0, .int .u64 0, .int .u64 0, .int .u64 0, .int .u64 0, .int .u64 0] 37)
  have z5 := zero_block (w7.alloc (.cells #[.int .u64 0, .int .u64 0, .int .u64 0, .int .u64 0, .int .u64 0, .int .u64 0, .int .u64 0, .int .u64 0, .int .u64 0, .int .u64 0, .int .u64 0, .int .u64 0, .int .u64 0, .int .u64 0, .int .u64 0, .int .u64 0, .int .u64 0, .int .u64 0, .int .u64 0, .int .u64 0, .int .u64 0, .int .u64 0, .int .u64 0, .int .u64 0, .int .u64 0, .int .u64 0, .int .u64 0, .int .u64 0, .int .u64 0, .int .u64 0, .int .u64 0, .int .u64 0, .int .u64 0, .int .u64 0, .int .u64 0, .int .u64 0, .int .u64 0, .int .u64 0, .int .u64 0, .int .u64 0, .int .u64 0, .int .u64 0, .int .u64 0, .int .u64 0, .int .u64 0, .int .u64 0, .int .u64 0, .int .u64 0, .int .u64 0, .int .u64 0, .int .u64 0, .int .u64 0, .int .u64 0, .int .u64 0, .int .u64 0, .int .u64 0, .int .u64 0, .int .u64 0, .int .u64 0, .int .u64 0, .int .u64 0, .int .u64 0, .int .u64 0, .int .u64 0] 37))
  rw [show (w7.alloc (.cells #[.int .u64 0, .int .u64 0, .int .u64 0, .int .u64 0, .int .u64 0, .int .u64 0, .int .u64 0, .int .u64 0, .int .u64 0, .int .u64 0, .int .u64 0, .int .u64 0, .int .u64 0, .int .u64 0, .int .u64 0, .int .u64 0, .int .u64 0, .int .u64 0, .int .u64 0, .int .u64 0, .int .u64 0, .int .u64 0, .int .u64 0, .int .u64 0, .int .u64 0, .int .u64 0, .int .u64 0, .int .u64 0, .int .u64 0, .int .u64 0, .int .u64 0, .int .u64 0, .int .u64 0, .int .u64 0, .int .u64 0, .int .u64 0, .int .u64 0, .int .u64 0, .int .u64 0, .int .u64 0, .int .u64 0, .int .u64 0, .int .u64 0, .int .u64 0, .int .u64 0, .int .u64 0, .int .u64 0, .int .u64 0, .int .u64 0, .int .u64 0, .int .u64 0, .int .u64 0, .int .u64 0, .int .u64 0, .int .u64 0, .int .u64 0, .int .u64 0, .int .u64 0, .int .u64 0, .int .u64 0, .int .u64 0, .int .u64 0, .int .u64 0, .int .u64 0] 37)).heap.size = w7.heap.size + 1 from by simp] at z5
  have z5' := z5.far (g' := w7.heap.size) (by omega) (rowsA R4)
  have z4' := (z4.setRow R4).far (g' := w7.heap.size + 1) (by omega) (rowsA R2)
  have hs7 := hb11.size
  have hb12 := below_setRow (below_setRow ((hb11.alloc hb11.size (.cells #[.int .u64 0, .int .u64 0, .int .u64 0, .int .u64 0, .int .u64 0, .int .u64 0, .int .u64 0, .int .u64 0, .int .u64 0, .int .u64 0, .int .u64 0, .int .u64 0, .int .u64 0, .int .u64 0, .int .u64 0, .int .u64 0, .int .u64 0, .int .u64 0, .int .u64 0, .int .u64 0, .int .u64 0, .int .u64 0, .int .u64 0, .int .u64 0, .int .u64 0, .int .u64 0, .int .u64 0, .int .u64 0, .int .u64 0, .int .u64 0, .int .u64 0, .int .u64 0, .int .u64 0, .int .u64 0, .int .u64 0, .int .u64 0, .int .u64 0, .int .u64 0, .int .u64 0, .int .u64 0, .int .u64 0, .int .u64 0, .int .u64 0, .int .u64 0, .int .u64 0, .int .u64 0, .int .u64 0, .int .u64 0, .int .u64 0, .int .u64 0, .int .u64 0, .int .u64 0, .int .u64 0, .int .u64 0, .int .u64 0, .int .u64 0, .int .u64 0, .int .u64 0, .int .u64 0, .int .u64 0, .int .u64 0, .int .u64 0, .int .u64 0, .int .u64 0] 37)).alloc (by simp; omega) (.cells #[.int .u64 0, .int .u64 0, .int .u64 0, .int .u64 0, .int .u64 0, .int .u64 0, .int .u64 0, .int .u64 0, .int .u64 0, .int .u64 0, .int .u64 0, .int .u64 0, .int .u64 0, .int .u64 0, .int .u64 0, .int .u64 0, .int .u64 0, .int .u64 0, .int .u64 0, .int .u64 0, .int .u64 0, .int .u64 0, .int .u64 0, .int .u64 0, .int .u64 0, .int .u64 0, .int .u64 0, .int .u64 0, .int .u64 0, .int .u64 0, .int .u64 0, .int .u64 0, .int .u64 0, .int .u64 0, .int .u64 0, .int .u64 0, .int .u64 0, .int .u64 0, .int .u64 0, .int .u64 0, .int .u64 0, .int .u64 0, .int .u64 0, .int .u64 0, .int .u64 0, .int .u64 0, .int .u64 0, .int .u64 0, .int .u64 0, .int .u64 0, .int .u64 0, .int .u64 0, .int .u64 0, .int .u64 0, .int .u64 0, .int .u64 0, .int .u64 0, .int .u64 0, .int .u64 0, .int .u64 0, .int .u64 0, .int .u64 0, .int .u64 0, .int .u64 0] 37)) (g := w7.heap.size) hs7 (rowsA R4)) (g := w7.heap.size + 1) (by omega) (rowsA R2)
  clear hb11
  go_upto_region 6 with (first | (with_reducible refine wpList_store_rel z4 R4 rfl _ _ rfl rfl rfl ?_) | (with_reducible refine wpList_store_rel z5' R2 rfl _ _ rfl rfl rfl ?_))
  have z5 := z5'.setRow R2
  generalize World.setRow (World.setRow _ _ _) _ _ = w8 at *
  have z4 := z4'
  clear z5' z4'
  obtain ⟨f1, f2, f3⟩ := HR4.out
  obtain ⟨f4, f5⟩ := HR2.out
  have F1 := Lib.hid f1
  have F2 := Lib.hid f2
  have F3 := Lib.hid f3
  have F4 := Lib.hid f4
  have F5 := Lib.hid f5
  clear f1 f2 f3 f4 f5 HR4 HR2
  have HZ4 : Hid (∀ wx, Below w8.heap.size w8 wx → RelAt wx w7.heap.size 37 R4) := Lib.hid (fun wx hx => z4.below hx z4.lt)
  have HZ5 : Hid (∀ wx, Below w8.heap.size w8 wx → RelAt wx (w7.heap.size + 1) 37 R2) := Lib.hid (fun wx hx => z5.below hx z5.lt)
  have k0 := Below.refl w8.heap.size w8
  clear z5
  go_wp2_with (with_reducible refine wpList_load_rel_g z4 _ rfl (by kernel_rfl) rfl ?_)
  refine (rhasR_any _ _ _ _).mono ?_
  rintro e b1 ⟨rfl, h1⟩
  rw [F1.out]
  have k1 := below_then k0 h1
  clear z4
  have z4 := HZ4.out _ k1
  go_wp2_with (with_reducible refine wpList_load_rel_g z4 _ rfl (by kernel_rfl) rfl ?_)
  refine (rhasR_any _ _ _ _).mono ?_
  rintro e b2 ⟨rfl, h2⟩
  rw [F2.out]
  have k2 := below_then k1 h2
  clear z4
  have z4 := HZ5.out _ k2
  go_wp2_with (with_reducible refine wpList_load_rel_g z4 _ rfl (by kernel_rfl) rfl ?_)
  refine (rhasR_any _ _ _ _).mono ?_
  rintro e b3 ⟨rfl, h3⟩
  rw [F4.out]
  have k3 := below_then k2 h3
  clear z4
  have z4 := HZ5.out _ k3
  go_wp2_with (with_reducible refine wpList_load_rel_g z4 _ rfl (by kernel_rfl) rfl ?_)
  refine (rhasR_any _ _ _ _).mono ?_
  rintro e b4 ⟨rfl, h4⟩
  rw [F5.out]
  have k4 := below_then k3 h4
  clear z4
  have z4 := HZ4.out _ k4
  go_wp2_with (with_reducible refine wpList_load_rel_g z4 _ rfl (by kernel_rfl) rfl ?_)
  refine (lsees_any _ _ _).mono ?_
  rintro e b5 ⟨rfl, h5⟩
  rw [F3.out]
  have k5 := below_then k4 h5
  clear z4
  go_wp2_with fail
  go_ret
  exact ⟨rfl, hb12.trans (k5.mono hb12.size)⟩
end Go.Proofs.YtfekcmhjdjifgaaDoor
