/- Plain facts of who writes each value; nothing of the program. -/
import Derived.Test.YtlkdojcimlfmdaaHisC
namespace Go.Proofs.Ytlkdojcimlfmdaa
set_option maxRecDepth 100000
open Go.RowKit

structure WV where
  i : Int
  key : Int
  last : Bool
def eW (x : WV) : Value := .agg #[.int .i64 x.i, .int .i64 x.key, .bool x.last]
def wZ : WV := ⟨0, 0, false⟩
def addOne (i : Int) (F : Int → Option WV) (o : OpV) : Int → Option WV := if o.wr then putF F o.val ⟨i, o.key, false⟩ else F
def addF (i : Int) (F : Int → Option WV) (l : List OpV) : Int → Option WV := l.foldl (addOne i) F
def finF (i : Int) (F : Int → Option WV) (l : List OpV) : Int → Option WV := l.foldl (fun F o => putF F o.val ⟨i, o.key, true⟩) F
theorem addF_snoc (i : Int) (F : Int → Option WV) (l : List OpV) (o : OpV) : addF i F (l ++ [o]) = addOne i (addF i F l) o := by unfold addF; rw [List.foldl_append]; rfl
theorem finF_snoc (i : Int) (F : Int → Option WV) (l : List OpV) (o : OpV) : finF i F (l ++ [o]) = putF (finF i F l) o.val ⟨i, o.key, true⟩ := by unfold finF; rw [List.foldl_append]; rfl
def opsAt (h : List TxnV) (k : Nat) : List OpV := ((h[k]?).map (·.l)).getD []
theorem opsAt_eq {h : List TxnV} {k : Nat} (hk : k < h.length) : opsAt h k = h[k].l := by unfold opsAt; rw [List.getElem?_eq_getElem hk]; rfl
/-- Who writes each value, by the first k transactions. -/
def wrTo (h : List TxnV) (k : Nat) : Int → Option WV := (List.range k).foldl (fun F (j : Nat) => finF (j : Int) (addF (j : Int) F (opsAt h j)) (refWrites (opsAt h j))) fun _ => none
theorem wrTo_succ (h : List TxnV) (k : Nat) : wrTo h (k + 1) = finF k (addF k (wrTo h k) (opsAt h k)) (refWrites (opsAt h k)) := by
  unfold wrTo; rw [List.range_succ, List.foldl_append]; rfl
/-- The values that are written. -/
def wv (l : List OpV) : List Int := (l.filter (·.wr)).map (·.val)
def wvH (h : List TxnV) : List Int := h.flatMap fun t => wv t.l
theorem wv_snoc (l : List OpV) (o : OpV) : wv (l ++ [o]) = wv l ++ (if o.wr then [o.val] else []) := by
  unfold wv; rw [List.filter_append, List.map_append]
  cases h : o.wr <;> simp [h]
theorem wvH_succ (h : List TxnV) (k : Nat) (hk : k < h.length) : wvH (h.take (k + 1)) = wvH (h.take k) ++ wv h[k].l := by
  unfold wvH; rw [List.take_succ_eq_append_getElem hk, List.flatMap_append]; simp
def okW (h : List TxnV) : Bool := decide (wvH h).Nodup
theorem okW_no {h : List TxnV} {k j : Nat} (hk : k < h.length) (hn : ¬ (wvH (h.take k) ++ wv (h[k].l.take j)).Nodup) : okW h = false := by
  unfold okW
  rw [decide_eq_false_iff_not]
  intro hd
  apply hn
  have e1 : wvH h = wvH (h.take (k + 1)) ++ wvH (h.drop (k + 1)) := by unfold wvH; rw [← List.flatMap_append, List.take_append_drop]
  have e2 : wv h[k].l = wv (h[k].l.take j) ++ wv (h[k].l.drop j) := by unfold wv; rw [← List.map_append, ← List.filter_append, List.take_append_drop]
  rw [e1, wvH_succ h k hk, e2, ← List.append_assoc] at hd
  exact (List.nodup_append.1 (List.nodup_append.1 hd).1).1
/-- The map has just these values. -/
def Dom (F : Int → Option WV) (W : List Int) : Prop := ∀ x, (F x).isSome = decide (x ∈ W)
theorem Dom.put {F : Int → Option WV} {W : List Int} (h : Dom F W) (x : Int) (u : WV) : Dom (putF F x u) (W ++ [x]) := by
  intro y
  unfold putF
  by_cases e : y = x
  · simp [e]
  · rw [if_neg e, h y]; simp [e]
theorem Dom.again {F : Int → Option WV} {W : List Int} (h : Dom F W) {x : Int} (hx : x ∈ W) (u : WV) : Dom (putF F x u) W := by
  intro y
  unfold putF
  by_cases e : y = x
  · simp [e, hx]
  · rw [if_neg e, h y]
theorem Dom.not {F : Int → Option WV} {W : List Int} (h : Dom F W) {x : Int} (hx : F x = none) : ¬ x ∈ W := by
  have := h x; rw [hx] at this; simpa using this.symm
theorem Dom.yes {F : Int → Option WV} {W : List Int} (h : Dom F W) {x : Int} {u : WV} (hx : F x = some u) : x ∈ W := by
  have := h x; rw [hx] at this; simpa using this.symm
theorem nodup_snoc {L : List Int} {x : Int} (h : L.Nodup) (hx : ¬ x ∈ L) : (L ++ [x]).Nodup := by
  rw [List.nodup_append]
  exact ⟨h, by simp, by intro a ha b hb; simp at hb; subst hb; rintro rfl; exact hx ha⟩
theorem not_nodup_snoc {L : List Int} {x : Int} (hx : x ∈ L) : ¬ (L ++ [x]).Nodup := fun hd => (List.nodup_append.1 hd).2.2 x hx x (by simp) rfl
theorem wv_mem {l : List OpV} {x : Int} : x ∈ wv l ↔ ∃ o ∈ l, o.wr = true ∧ o.val = x := by
  unfold wv; simp [and_assoc]
theorem rise_wv {l out : List OpV} (h : Rise (lastW l) true out) : ∀ o ∈ out, o.val ∈ wv l := by
  intro o ho
  obtain ⟨h1, h2⟩ := (h.2 o).1 ho
  exact wv_mem.2 ⟨o, (lastW_key h1).2.2, h2, rfl⟩
theorem wv_len (l : List OpV) : (wv l).length ≤ l.length := by unfold wv; rw [List.length_map]; exact List.length_filter_le _ _
end Go.Proofs.Ytlkdojcimlfmdaa
