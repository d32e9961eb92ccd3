/- Plain facts of operations in a row: the first and the last of each key, what is steady, what is read and written of each key; nothing of the program. -/
import Derived.Test.YtlkdojcimlfmdaaOpZ
import Derived.Test.YtlkdojcimlfmdaaMapI
namespace Go.Proofs.Ytlkdojcimlfmdaa
set_option maxRecDepth 100000
open Go.RowKit

theorem inI_of {x : Int} (h : IntOk x) : InI x := WalkArith.wf_i64 (by have := h.1; have := h.2; omega)
def eI : Int → Value := Value.int .i64
def eO : OpV → Value := OpV.v
theorem eO_inj : ∀ x y : OpV, eO x = eO y → x = y := by
  rintro ⟨a, b, c⟩ ⟨a', b', c'⟩ h
  unfold eO OpV.v at h
  simp at h
  obtain ⟨rfl, rfl, rfl⟩ := h
  rfl
theorem eI_inj : ∀ x y : Int, eI x = eI y → x = y := fun x y h => by unfold eI at h; simpa using h
/-- The last operation of a key; the first one; the last write. -/
def lastO (l : List OpV) (x : Int) : Option OpV := (l.filter fun o => o.key == x).getLast?
def firstO (l : List OpV) (x : Int) : Option OpV := l.find? fun o => o.key == x
def lastW (l : List OpV) (x : Int) : Option OpV := (l.filter fun o => o.wr && o.key == x).getLast?
theorem take_snoc (l : List OpV) (k : Nat) (hk : k < l.length) : l.take (k + 1) = l.take k ++ [l[k]] := List.take_succ_eq_append_getElem hk
theorem lastO_snoc (l : List OpV) (o : OpV) : lastO (l ++ [o]) = putF (lastO l) o.key o := by
  funext y
  unfold lastO putF
  rw [List.filter_append]
  by_cases h : y = o.key
  · subst h; simp
  · have : (o.key == y) = false := by simp; exact fun e => h e.symm
    simp [this, h]
theorem lastW_snoc (l : List OpV) (o : OpV) : lastW (l ++ [o]) = if o.wr then putF (lastW l) o.key o else lastW l := by
  funext y
  cases hw : o.wr
  · unfold lastW; rw [List.filter_append]; simp [hw]
  · simp only [if_true]
    unfold lastW putF
    rw [List.filter_append]
    by_cases h : y = o.key
    · subst h; simp [hw]
    · have : (o.key == y) = false := by simp; exact fun e => h e.symm
      simp [hw, this, h]
theorem firstO_snoc (l : List OpV) (o : OpV) : firstO (l ++ [o]) = if (firstO l o.key).isSome then firstO l else putF (firstO l) o.key o := by
  funext y
  unfold firstO putF
  by_cases h : y = o.key
  · subst h
    cases hf : l.find? (fun p => p.key == o.key) <;> simp [hf]
  · have : (o.key == y) = false := by simp; exact fun e => h e.symm
    cases hf : l.find? (fun p => p.key == o.key) <;> simp [this, h]
theorem firstO_key {l : List OpV} {x : Int} {o : OpV} (h : firstO l x = some o) : o.key = x ∧ o ∈ l := by
  unfold firstO at h
  exact ⟨by simpa using List.find?_some h, List.mem_of_find?_eq_some h⟩
theorem lastW_key {l : List OpV} {x : Int} {o : OpV} (h : lastW l x = some o) : o.key = x ∧ o.wr = true ∧ o ∈ l := by
  unfold lastW at h
  have := List.mem_of_getLast? h
  simp at this
  exact ⟨this.2.2, this.2.1, this.1⟩
theorem lastO_key {l : List OpV} {x : Int} {o : OpV} (h : lastO l x = some o) : o.key = x ∧ o ∈ l := by
  unfold lastO at h
  have := List.mem_of_getLast? h
  simp at this
  exact ⟨this.2, this.1⟩
/-- What is steady at the place k: it reads what the last operation of its key has. -/
def stOk (l : List OpV) (k : Nat) : Bool :=
  match l[k]? with
  | none => true
  | some o => match lastO (l.take k) o.key with
    | none => true
    | some p => o.wr || o.val == p.val
def steadyL (l : List OpV) : Bool := (List.range l.length).all (stOk l)
theorem steadyL_all {l : List OpV} (h : ∀ j, j < l.length → stOk l j = true) : steadyL l = true := by
  unfold steadyL; rw [List.all_eq_true]; intro j hj; exact h j (List.mem_range.1 hj)
theorem steadyL_no {l : List OpV} {k : Nat} (hk : k < l.length) (h : stOk l k = false) : steadyL l = false := by
  unfold steadyL; rw [List.all_eq_false]; exact ⟨k, List.mem_range.2 hk, by simp [h]⟩
theorem stOk_at {l : List OpV} {k : Nat} (hk : k < l.length) : stOk l k = match lastO (l.take k) l[k].key with
    | none => true
    | some p => l[k].wr || l[k].val == p.val := by
  unfold stOk; rw [List.getElem?_eq_getElem hk]
/-- Rising by keys, just those that f has, of the one kind. -/
def Rise (f : Int → Option OpV) (wr : Bool) (out : List OpV) : Prop := out.Pairwise (fun a b => a.key < b.key) ∧ ∀ o, o ∈ out ↔ (f o.key = some o ∧ o.wr = wr)
theorem rise_tail {a : OpV} {l m : List OpV} (h1 : ∀ x ∈ l, a.key < x.key) (h2 : ∀ x ∈ m, a.key < x.key) (hm : ∀ o, o ∈ a :: l ↔ o ∈ a :: m) : ∀ o, o ∈ l ↔ o ∈ m := by
  intro o
  have := hm o
  simp only [List.mem_cons] at this
  constructor
  · intro ho
    rcases this.1 (Or.inr ho) with rfl | h
    · have := h1 _ ho; omega
    · exact h
  · intro ho
    rcases this.2 (Or.inr ho) with rfl | h
    · have := h2 _ ho; omega
    · exact h
theorem rise_eq : ∀ {l m : List OpV}, l.Pairwise (fun a b => a.key < b.key) → m.Pairwise (fun a b => a.key < b.key) → (∀ o, o ∈ l ↔ o ∈ m) → l = m
  | [], [], _, _, _ => rfl
  | [], b :: m, _, _, h => by have := (h b).2 List.mem_cons_self; cases this
  | a :: l, [], _, _, h => by have := (h a).1 List.mem_cons_self; cases this
  | a :: l, b :: m, hl, hm, h => by
    obtain ⟨l1, l2⟩ := List.pairwise_cons.1 hl
    obtain ⟨m1, m2⟩ := List.pairwise_cons.1 hm
    have e : a = b := by
      rcases List.mem_cons.1 ((h a).1 List.mem_cons_self) with e | e
      · exact e
      · rcases List.mem_cons.1 ((h b).2 List.mem_cons_self) with e' | e'
        · exact e'.symm
        · have := m1 _ e; have := l1 _ e'; omega
    subst e
    rw [rise_eq l2 m2 (rise_tail l1 m1 h)]
theorem Rise.eq {f : Int → Option OpV} {wr : Bool} {l m : List OpV} (h1 : Rise f wr l) (h2 : Rise f wr m) : l = m :=
  rise_eq h1.1 h2.1 fun o => (h1.2 o).trans (h2.2 o).symm
end Go.Proofs.Ytlkdojcimlfmdaa
