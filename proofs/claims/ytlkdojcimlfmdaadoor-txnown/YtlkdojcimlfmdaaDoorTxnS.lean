/- Plain facts: a read of what was written or read ahead, put in, changes nothing; nothing of the program. -/
import Derived.Test.YtlkdojcimlfmdaaDoorTxnQ
namespace Go.Proofs.YtlkdojcimlfmdaaDoor
set_option maxRecDepth 100000
open Go.RowKit

def okF (f : Int → Option Int) (o : OpV) : Bool := match f o.key with
  | none => true
  | some v => o.wr || o.val == v
def stF (f : Int → Option Int) : List OpV → Bool
  | [] => true
  | o :: r => okF f o && stF (putF f o.key o.val) r
def foldF (f : Int → Option Int) (l : List OpV) : Int → Option Int := l.foldl (fun g o => putF g o.key o.val) f
theorem stF_app : ∀ (l m : List OpV) (f : Int → Option Int), stF f (l ++ m) = (stF f l && stF (foldF f l) m)
  | [], m, f => by simp [stF, foldF]
  | a :: l, m, f => by
    show (okF f a && stF (putF f a.key a.val) (l ++ m)) = ((okF f a && stF (putF f a.key a.val) l) && stF (foldF (putF f a.key a.val) l) m)
    rw [stF_app l m, Bool.and_assoc]
theorem foldF_valO : ∀ (l : List OpV), foldF (fun _ => none) l = valO l := by
  intro l
  rw [← List.take_length (l := l)]
  have : ∀ k, k ≤ l.length → foldF (fun _ => none) (l.take k) = valO (l.take k) := by
    intro k
    induction k with
    | zero => intro _; rfl
    | succ k ih =>
      intro hk
      rw [take_snoc l k (by omega), valO_snoc, ← ih (by omega)]
      unfold foldF
      rw [List.foldl_append]; rfl
  exact this _ (Nat.le_refl _)
theorem stOk_valO {l : List OpV} {k : Nat} (hk : k < l.length) : stOk l k = okF (valO (l.take k)) l[k] := by
  rw [stOk_at hk]
  unfold okF valO
  cases lastO (l.take k) l[k].key <;> rfl
theorem steadyL_stF (l : List OpV) : steadyL l = stF (fun _ => none) l := by
  have key : ∀ k, k ≤ l.length → ((List.range k).all (stOk l)) = stF (fun _ => none) (l.take k) := by
    intro k
    induction k with
    | zero => intro _; rfl
    | succ k ih =>
      intro hk
      have hlt : k < l.length := by omega
      rw [List.range_succ, List.all_append, ih (by omega), take_snoc l k hlt, stF_app, foldF_valO]
      simp [stF, stOk_valO hlt]
  have := key l.length (Nat.le_refl _)
  rw [List.take_length] at this
  exact this
/-- A read of what the operation at k has, put in behind it. -/
def moreL (l : List OpV) (k : Nat) (hk : k < l.length) : List OpV := (l.take (k + 1) ++ [⟨false, l[k].key, l[k].val⟩]) ++ l.drop (k + 1)
theorem valO_hit {l : List OpV} {k : Nat} (hk : k < l.length) : valO (l.take (k + 1)) l[k].key = some l[k].val := by
  rw [take_snoc l k hk, valO_snoc, putF_same]
theorem more_steady (l : List OpV) (k : Nat) (hk : k < l.length) : steadyL (moreL l k hk) = steadyL l := by
  have e1 : stF (fun _ => none) l = stF (fun _ => none) (l.take (k + 1) ++ l.drop (k + 1)) := by rw [List.take_append_drop]
  rw [steadyL_stF, steadyL_stF, e1]
  unfold moreL
  rw [List.append_assoc, stF_app, stF_app, stF_app, foldF_valO]
  have h := valO_hit hk
  have e2 : okF (valO (l.take (k + 1))) ⟨false, l[k].key, l[k].val⟩ = true := by unfold okF; simp [h]
  have e3 : foldF (valO (l.take (k + 1))) [⟨false, l[k].key, l[k].val⟩] = valO (l.take (k + 1)) := by
    funext y
    unfold foldF putF
    simp only [List.foldl_cons, List.foldl_nil]
    split
    · rename_i hy; rw [hy]; exact h.symm
    · rfl
  rw [e3]
  simp [stF, e2]
theorem more_lastW (l : List OpV) (k : Nat) (hk : k < l.length) : lastW (moreL l k hk) = lastW l := by
  funext y
  have e : (moreL l k hk).filter (fun o => o.wr && o.key == y) = l.filter (fun o => o.wr && o.key == y) := by
    unfold moreL
    rw [List.filter_append, List.filter_append]
    simp only [List.filter_cons, Bool.false_and, Bool.false_eq_true, if_false, List.filter_nil, List.append_nil]
    rw [← List.filter_append, List.take_append_drop]
  unfold lastW
  rw [e]
theorem more_firstO (l : List OpV) (k : Nat) (hk : k < l.length) : firstO (moreL l k hk) = firstO l := by
  have h1 : firstO (l.take (k + 1) ++ [⟨false, l[k].key, l[k].val⟩]) = firstO (l.take (k + 1)) := by
    rw [firstO_snoc, if_pos]
    show (firstO (l.take (k + 1)) l[k].key).isSome = true
    rw [take_snoc l k hk, firstO_snoc]
    split
    · assumption
    · rw [putF_same]; rfl
  funext y
  have h2 := congrFun h1 y
  unfold moreL firstO at *
  rw [List.find?_append, h2, ← List.find?_append, List.take_append_drop]
theorem more_ok {l : List OpV} {k : Nat} (hk : k < l.length) (h : ∀ o ∈ l, o.ok) : ∀ o ∈ moreL l k hk, o.ok := by
  intro o ho
  unfold moreL at ho
  simp only [List.mem_append, List.mem_singleton] at ho
  rcases ho with (ho | rfl) | ho
  · exact h o (List.mem_of_mem_take ho)
  · exact h l[k] (List.getElem_mem hk)
  · exact h o (List.mem_of_mem_drop ho)
theorem more_len (l : List OpV) (k : Nat) (hk : k < l.length) : (moreL l k hk).length = l.length + 1 := by
  unfold moreL; simp; omega
theorem more_keys {l : List OpV} {k : Nat} (hk : k < l.length) (h : keysIn l) : keysIn (moreL l k hk) := by
  intro o ho
  unfold moreL at ho
  simp only [List.mem_append, List.mem_singleton] at ho
  rcases ho with (ho | rfl) | ho
  · exact h o (List.mem_of_mem_take ho)
  · exact h l[k] (List.getElem_mem hk)
  · exact h o (List.mem_of_mem_drop ho)
theorem more_reads (l : List OpV) (k : Nat) (hk : k < l.length) : refReads (moreL l k hk) = refReads l := by
  unfold refReads
  congr 1
  funext j
  unfold rdK
  rw [more_firstO]
theorem more_writes (l : List OpV) (k : Nat) (hk : k < l.length) : refWrites (moreL l k hk) = refWrites l := by
  unfold refWrites
  congr 1
  funext j
  unfold wrK
  rw [more_lastW]
end Go.Proofs.YtlkdojcimlfmdaaDoor
