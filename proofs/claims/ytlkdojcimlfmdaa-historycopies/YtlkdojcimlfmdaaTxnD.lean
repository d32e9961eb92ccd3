/- Slices of operations that a call makes; plain facts of what is read and written, key by key. Conditions: none. -/
import Derived.Test.YtlkdojcimlfmdaaTxnB
import Derived.Laws.StructEq
import Derived.OwnWalk
namespace Go.Proofs.Ytlkdojcimlfmdaa
set_option maxRecDepth 100000
open Go.RowKit

theorem infoOp : (Try.prog.info? 31).map (fun i => (i.zero, i.size, i.bytes)) = some (some (.agg #[.bool false, .int .i64 0, .int .i64 0]), 3, 24) := by kernel_rfl
/-- The call's own slice v holds these operations; its block lies from base on. -/
def Own (w : World) (base : Nat) (v : Value) (l : List OpV) : Prop := w.ownsRow base 31 3 v l.length (opV l)
theorem opV_app (l m : List OpV) : opV (l ++ m) = opV l ++ opV m := by simp [opV]
theorem opV_one (l : List OpV) : ∀ u ∈ opV l, u.oneCell' = true := by
  intro u hu
  unfold opV at hu
  obtain ⟨o, _, ho⟩ := List.mem_flatMap.1 hu
  simp at ho
  rcases ho with rfl | rfl | rfl <;> rfl
theorem opLit (w : World) (base : Nat) (o : OpV) (hb : base ≤ w.heap.size) : (w.alloc (.cells #[.bool o.wr, .int .i64 o.key, .int .i64 o.val] 31)).ownsRow base 31 3 (.slice (some ⟨w.heap.size, 0, none⟩) 1 1) 1 (opV [o]) :=
  World.ownsRow_lit (base := base) (size := 3) w #[.bool o.wr, .int .i64 o.key, .int .i64 o.val] 1 hb (by decide) rfl
theorem Own.ops {w : World} {base : Nat} {v : Value} {l : List OpV} (h : Own w base v l) : Ops w v l := Row.of_owns h
theorem Own.nil (w : World) (base : Nat) : Own w base (.slice none 0 0) [] := ⟨rfl, .inl ⟨rfl, rfl⟩⟩
theorem Own.below {w w' : World} {base : Nat} {v : Value} {l : List OpV} (h : Own w base v l) (hb : Below w.heap.size w w') : Own w' base v l := owns_below h hb
theorem Own.base {w : World} {base base' : Nat} {v : Value} {l : List OpV} (h : Own w base v l) (hb : base' ≤ base) : Own w base' v l := by
  obtain ⟨h1, h2⟩ := h
  refine ⟨h1, ?_⟩
  rcases h2 with h2 | ⟨g, cap, cur, e1, e2, r⟩
  · exact .inl h2
  · exact .inr ⟨g, cap, cur, e1, Nat.le_trans hb e2, r⟩
/-- What is read of others, key by key; what is written for them. -/
def rdK (l : List OpV) (k : Nat) : Option OpV := (firstO l k).filter fun o => !o.wr
def wrK (l : List OpV) (k : Nat) : Option OpV := lastW l k
def upTo (g : Nat → Option OpV) (n : Nat) : List OpV := (List.range n).filterMap g
theorem upTo_succ (g : Nat → Option OpV) (n : Nat) : upTo g (n + 1) = upTo g n ++ (g n).toList := by
  unfold upTo
  rw [List.range_succ, List.filterMap_append]
  cases h : g n <;> simp [h]
theorem upTo_len (g : Nat → Option OpV) (n : Nat) : (upTo g n).length ≤ n := by
  have := List.length_filterMap_le g (List.range n)
  unfold upTo; simpa using this
theorem upTo_mem {g : Nat → Option OpV} {n : Nat} {o : OpV} : o ∈ upTo g n ↔ ∃ k, k < n ∧ g k = some o := by
  unfold upTo; simp
theorem upTo_rise {g : Nat → Option OpV} (hg : ∀ k o, g k = some o → o.key = (k : Int)) : ∀ n, (upTo g n).Pairwise (fun a b => a.key < b.key)
  | 0 => by simp [upTo]
  | n + 1 => by
    rw [upTo_succ, List.pairwise_append]
    refine ⟨upTo_rise hg n, by cases g n <;> simp, fun a ha b hb => ?_⟩
    obtain ⟨k, hk, he⟩ := upTo_mem.1 ha
    have hb' : g n = some b := by simpa using hb
    rw [hg _ _ he, hg _ _ hb']; omega
theorem rdK_some {l : List OpV} {k : Nat} {o : OpV} : rdK l k = some o ↔ firstO l k = some o ∧ o.wr = false := by
  unfold rdK; rw [Option.filter_eq_some_iff]; simp
def refReads (l : List OpV) : List OpV := upTo (rdK l) 64
def refWrites (l : List OpV) : List OpV := upTo (wrK l) 64
def keysIn (l : List OpV) : Prop := ∀ o ∈ l, 0 ≤ o.key ∧ o.key < 64
theorem refReads_rise {l : List OpV} (h : keysIn l) : Rise (firstO l) false (refReads l) := by
  refine ⟨upTo_rise (fun k o hk => (firstO_key (rdK_some.1 hk).1).1) 64, fun o => ?_⟩
  unfold refReads
  rw [upTo_mem]
  constructor
  · rintro ⟨k, _, hk⟩
    obtain ⟨h1, h2⟩ := rdK_some.1 hk
    rw [(firstO_key h1).1]; exact ⟨h1, h2⟩
  · rintro ⟨h1, h2⟩
    obtain ⟨h3, h4⟩ := h o (firstO_key h1).2
    refine ⟨o.key.toNat, by omega, rdK_some.2 ⟨?_, h2⟩⟩
    rw [Int.toNat_of_nonneg h3]; exact h1
theorem refWrites_rise {l : List OpV} (h : keysIn l) : Rise (lastW l) true (refWrites l) := by
  refine ⟨upTo_rise (fun k o hk => (lastW_key hk).1) 64, fun o => ?_⟩
  unfold refWrites
  rw [upTo_mem]
  constructor
  · rintro ⟨k, _, hk⟩
    have h1 : lastW l k = some o := hk
    rw [(lastW_key h1).1]; exact ⟨h1, (lastW_key h1).2.1⟩
  · rintro ⟨h1, h2⟩
    obtain ⟨h3, h4⟩ := h o (lastW_key h1).2.2
    refine ⟨o.key.toNat, by omega, ?_⟩
    unfold wrK
    rw [Int.toNat_of_nonneg h3]; exact h1
theorem allM_keys {l : List OpV} (h : allM l = true) : keysIn l := fun o ho => by
  have := (mayO_iff o).1 (List.all_eq_true.1 h o ho)
  exact this.1
theorem firstO_none {l : List OpV} {x : Int} : (firstO l x).isSome = (lastO l x).isSome := by
  unfold firstO lastO
  rw [Bool.eq_iff_iff, List.find?_isSome]
  rw [← Option.ne_none_iff_isSome, Ne, List.getLast?_eq_none_iff]
  simp [List.filter_eq_nil_iff]
/-- The inner loop of the reference's Reads. -/
def rdTo (l : List OpV) (k j : Nat) : Option OpV := rdK (l.take j) k
theorem rdTo_succ {l : List OpV} {k j : Nat} (hj : j < l.length) : rdTo l k (j + 1) = if l[j].key = k ∧ l[j].wr = false ∧ lastO (l.take j) k = none then some l[j] else rdTo l k j := by
  unfold rdTo rdK
  rw [take_snoc l j hj, firstO_snoc]
  have hn := firstO_none (l := l.take j) (x := l[j].key)
  by_cases hs : (firstO (l.take j) l[j].key).isSome = true
  · rw [if_pos hs]
    rw [hs] at hn
    rw [if_neg]
    rintro ⟨h1, _, h3⟩
    rw [h1, h3] at hn
    cases hn
  · rw [if_neg hs]
    have hf : firstO (l.take j) l[j].key = none := by simpa using hs
    rw [hf] at hn
    have hl : lastO (l.take j) l[j].key = none := by simpa using hn.symm
    unfold putF
    by_cases hk : (k : Int) = l[j].key
    · rw [if_pos hk]
      cases hw : l[j].wr
      · rw [if_pos ⟨hk.symm, rfl, by rw [hk]; exact hl⟩]; simp [hw]
      · rw [if_neg (by simp), hk, hf]; simp [hw]
    · rw [if_neg hk, if_neg (fun h => hk h.1.symm)]
end Go.Proofs.Ytlkdojcimlfmdaa
