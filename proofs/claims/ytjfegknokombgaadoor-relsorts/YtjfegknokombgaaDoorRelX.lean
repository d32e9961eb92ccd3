/- Plain facts: the reference's picking of the least free number is the program's; an append at a step of a region that draws. Nothing of the program. -/
import Derived.Test.YtjfegknokombgaaDoorRelR
import Derived.Test.YtjfegknokombgaaDoorRelJ
import Derived.Deep.AppendLies
namespace Go.Proofs.YtjfegknokombgaaDoor
set_option maxRecDepth 100000
open Go.RowKit

/-- Does none of some numbers stand to a number, by pairs? -/
def frB (m : List Pr) (L : List Nat) (n : Nat) : Bool := L.all fun x => !hasP m (x : Int) (n : Int)
theorem frB_succ (m : List Pr) (L : List Nat) (n k : Nat) (hk : k < L.length) : frB m (L.take (k + 1)) n = (frB m (L.take k) n && !hasP m (L[k] : Int) (n : Int)) := by
  unfold frB; rw [List.take_succ_eq_append_getElem hk, List.all_append]; simp
/-- Where the first free number stands, among the first k. -/
def atO (m : List Pr) (L : List Nat) (k : Nat) : Option Nat := (L.take k).findIdx? fun n => frB m L n
def atI : Option Nat → Int
  | none => -1
  | some j => (j : Int)
theorem atO_zero (m : List Pr) (L : List Nat) : atO m L 0 = none := by unfold atO; simp
theorem atO_succ (m : List Pr) (L : List Nat) (k : Nat) (hk : k < L.length) : atO m L (k + 1) = (atO m L k).or (if frB m L L[k] then some k else none) := by
  unfold atO
  rw [List.take_succ_eq_append_getElem hk, List.findIdx?_append]
  have hl : (L.take k).length = k := by rw [List.length_take]; omega
  congr 1
  rw [hl]
  cases h : frB m L L[k] <;> simp [List.findIdx?_cons, h]
theorem atO_neg (o : Option Nat) : (atI o < 0) ↔ o = none := by
  cases o with
  | none => simp [atI]
  | some j => simp [atI]
theorem find_head (p : Nat → Bool) : ∀ (L : List Nat), (L.findIdx? p = none → L.filter p = []) ∧ ∀ j, L.findIdx? p = some j → ∃ h : j < L.length, (L.filter p).headD 64 = L[j]
  | [] => ⟨fun _ => rfl, fun j h => by simp at h⟩
  | a :: L => by
    obtain ⟨h1, h2⟩ := find_head p L
    rw [List.findIdx?_cons]
    cases hp : p a
    · refine ⟨fun h => ?_, fun j h => ?_⟩
      · rw [List.filter_cons, hp]; simp at h ⊢; exact fun x hx => by simpa using h x hx
      · simp only [Bool.false_eq_true, if_false] at h
        obtain ⟨i, hi, rfl⟩ := Option.map_eq_some_iff.1 h
        obtain ⟨hlt, e⟩ := h2 i hi
        refine ⟨by simp; omega, ?_⟩
        rw [List.filter_cons, hp]
        exact e
    · refine ⟨fun h => by simp at h, fun j h => ?_⟩
      simp at h
      subst h
      exact ⟨by simp, by rw [List.filter_cons, hp]; rfl⟩
theorem lst_subS (s t : Nat) : lst (subS s t) = (lst s).filter fun i => !t.testBit i := by
  unfold lst lstTo
  rw [List.filter_filter]
  apply List.filter_congr
  intro i _
  rw [testBit_subS, Bool.and_comm]
theorem frB_rep {R : Mat} {m : List Pr} (hR : Rep R m) (c : Nat) {n : Nat} (hn : n ∈ lst c) : (!(mkS fun j => viaL R (lst c) j).testBit n) = frB m (lst c) n := by
  have hn64 := (mem_lst.1 hn).1
  rw [testBit_mkS]
  have h64 : decide (n < 64) = true := by simp [hn64]
  rw [h64, Bool.true_and]
  unfold viaL frB
  rw [List.not_any_eq_all_not]
  rw [Bool.eq_iff_iff, List.all_eq_true, List.all_eq_true]
  have e : ∀ x, x ∈ lst c → (hasP m (x : Int) (n : Int) = R x n) := fun x hx => by
    rw [Bool.eq_iff_iff, hasP_iff, hR.2]
    constructor
    · rintro ⟨i, j, _, _, h1, h2, h⟩
      obtain rfl : x = i := by omega
      obtain rfl : n = j := by omega
      exact h
    · intro h
      exact ⟨x, n, (mem_lst.1 hx).1, hn64, rfl, rfl, h⟩
  constructor
  · intro h x hx; rw [e x hx]; exact h x hx
  · intro h x hx; rw [← e x hx]; exact h x hx
theorem free_at {R : Mat} {m : List Pr} (hR : Rep R m) (c : Nat) : (atO m (lst c) (lst c).length = none → freeS R c = 64) ∧ ∀ j, atO m (lst c) (lst c).length = some j → ∃ h : j < (lst c).length, freeS R c = (lst c)[j] := by
  have e : lst (subS c (mkS fun j => viaL R (lst c) j)) = (lst c).filter (frB m (lst c)) := by
    rw [lst_subS]
    exact List.filter_congr (fun n hn => frB_rep hR c hn)
  obtain ⟨h1, h2⟩ := find_head (frB m (lst c)) (lst c)
  unfold atO freeS fst
  rw [List.take_length, e]
  refine ⟨fun h => by rw [h1 h]; rfl, fun j h => ?_⟩
  obtain ⟨hlt, e2⟩ := h2 j h
  exact ⟨hlt, e2⟩
theorem without_at : ∀ (L : List Nat), L.Nodup → ∀ (j : Nat) (hj : j < L.length), L.take j ++ L.drop (j + 1) = L.filter (fun i => i != L[j])
  | a :: L, hn, 0, _ => by
    rw [List.nodup_cons] at hn
    simp only [List.take_zero, List.nil_append, List.drop_succ_cons, List.drop_zero, List.getElem_cons_zero]
    rw [List.filter_cons]
    simp
    symm
    rw [List.filter_eq_self]
    intro b hb
    simp
    rintro rfl
    exact hn.1 hb
  | a :: L, hn, j + 1, hj => by
    rw [List.nodup_cons] at hn
    have ih := without_at L hn.2 j (by simpa using hj)
    have hne : (a != L[j]'(by simpa using hj)) = true := by
      rw [bne_iff_ne]
      intro e
      exact hn.1 (e ▸ List.getElem_mem _)
    simp only [List.take_succ_cons, List.drop_succ_cons, List.getElem_cons_succ, List.cons_append]
    rw [List.filter_cons, if_pos hne, ih]
theorem left_next (c j : Nat) (hj : j < (lst c).length) : (lst c).take j ++ (lst c).drop (j + 1) = lst (woS c ((lst c)[j] : Int)) := by
  rw [without_at _ (lst_nodup c) j hj, lst_woS c _ (lst_lt hj)]
/-- An append onto an owned row, at a step of a region that draws: whatever is appended, nothing too. -/
theorem step_append_own {P : Program} (w : World) {ops : Array Oper} {o : Oper} {a : Act} {K : Act → World → Prop} {Q : Exit → Act → World → Prop} {E : Prop} (hgd : o.guard = none) (s x : Operand) (t : TypeId)
    (ho : o.op = .call { callee := .builtin .append, args := #[s, x], argTypes := #[t, t] })
    (base : Nat) (e : TypeId) (i : TypeInfo) (z : Value) (size bytes : Nat) (ht : P.underlying t = some (.slice e)) (hi : P.info? e = some i) (hz : i.zero = some z)
    (hsize : i.size = size) (hby : i.bytes = bytes) (hzs : z.cells.size = size) (hsz : 0 < size)
    (v : Value) (n : Nat) (xs : List Value) (hs : a.eval s = v) (hown : w.ownsRow base e size v n xs)
    (ad : Addr) (m c : Nat) (news : List Value) (hx : a.eval x = .slice (some ad) m c) (hl : news.length = m * size) (hnews : ∀ j u, news[j]? = some u → w.cell? (ad.add j) = some u) (h1 : ∀ u ∈ news, u.oneCell' = true)
    (h63 : n + m ≤ maxLen) (hbytes : (n + m) * bytes ≤ 140737488355328) (hbase : base ≤ w.heap.size)
    (h : ∀ v' w', w'.ownsRow base e size v' (n + m) (xs ++ news) → w.grownBy w' v.ownBlock → K (a.put o.dst v') w') :
    if Region.wanted o (yielded ops a.tmps) = true then Oper.wp P o a w K Q else E := by
  have hw : Region.wanted o (yielded ops a.tmps) = true := by simp [Region.wanted, hgd]
  rw [if_pos hw]
  obtain ⟨v', w', hr, h2, h3, _⟩ := run_append_own (P := P) w base t o.type e i z size bytes ht hi hz hsize hby hzs hsz v n xs hown ad m c news hl hnews h1 h63 hbytes hbase
  unfold Oper.wp execOp
  simp only [ho, resolve, invoke, builtin, Sem.run_bind, Sem.run_pure, Result.andThen_ok, List.map_toArray, List.map_cons, List.map_nil, hs, hx, hr]
  exact h v' w' h2 h3
end Go.Proofs.YtjfegknokombgaaDoor
