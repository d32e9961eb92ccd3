/- Walks and plain facts that the proof of the statement MemoKeeps uses, joined: MemB PlaB PlaF PlaM MemF SeaC PlaH. Conditions: each theorem's own. -/
import Derived.Maps.OwnSet
import Derived.DeepKeys4
import Derived.Laws.CopyOwn
import Derived.Deep.OwnRows
import Derived.Laws.BytesArg
import Derived.OwnWalk
import Derived.Deep.AppendLies
import Derived.Test.YtecpeegbfeijaaaDoorPMemoKeeps0
import Derived.Test.YtecpeegbfeijaaaDoorPMemoKeeps2
import Derived.Test.YtecpeegbfeijaaaDoorPMemoKeeps3
namespace Go.Proofs.YtecpeegbfeijaaaDoor
set_option maxRecDepth 100000
open Go.RowKit

/-- A key: who is placed, and what matters of their order. -/
def kV (p : Nat) (s : ByteArray) : Value := .agg #[.int .u64 (p : Int), .string s]
theorem kV_inj {p p' : Nat} {s s' : ByteArray} (h : kV p s = kV p' s') : p = p' ∧ s = s' := by
  unfold kV at h
  simp at h
  exact ⟨by exact_mod_cast h.1, h.2⟩
theorem lawK : Maps.Keyed Tryd.prog 38 :=
  Maps.Keyed.of_law (deep_law_laid laidOut (m := 2) (by omega) (of_decide_eq_true (by kernel_rfl)) (by kernel_rfl) (by kernel_rfl))
noncomputable def elK : TypeId := match Tryd.prog.underlying 47 with | some (.map _ e) => e | _ => 0
theorem undK : Tryd.prog.underlying 47 = some (.map 38 elK) := by kernel_rfl
theorem zeroK (w : World) : (zeroValue elK).run Tryd.prog w = .ok (.agg #[]) w := by kernel_rfl
theorem undKey : ∃ f1 f2 : Field, Tryd.prog.underlying 38 = some (.struct #[f1, f2]) ∧ (f1.name != "_") = true ∧ (f2.name != "_") = true ∧ f1.type = 36 ∧ f2.type = 9 ∧ f1.offset = 0 ∧ f2.offset = 1 := by
  have h0 : (match Tryd.prog.underlying 38 with | some (.struct fs) => fs.toList.map (fun f => (f.name != "_", f.type, f.offset)) | _ => []) = [(true, 36, 0), (true, 9, 1)] := by kernel_rfl
  cases hq : Tryd.prog.underlying 38 with
  | none => rw [hq] at h0; cases h0
  | some k =>
    rw [hq] at h0
    cases k
    case struct fs =>
      obtain ⟨l⟩ := fs
      simp only at h0
      match l, h0 with
      | [f1, f2], h0 =>
        simp only [List.map_cons, List.map_nil, List.cons.injEq, Prod.mk.injEq, and_true] at h0
        obtain ⟨⟨a1, a2, a3⟩, b1, b2, b3⟩ := h0
        exact ⟨f1, f2, rfl, a1, b1, a2, b2, a3, b3⟩
    all_goals cases h0
theorem cellsKey : Tryd.prog.cellsOf 38 = 2 ∧ Tryd.prog.cellsOf 36 = 1 ∧ Tryd.prog.cellsOf 9 = 1 := ⟨by kernel_rfl, by kernel_rfl, by kernel_rfl⟩
theorem litKey {p : Int} {s : ByteArray} (hp : (Lit.int .u64 p).wf = true) (hs : s.size ≤ maxLen) (d : Nat) : ∃ ls, Tryd.prog.keyLits (d + 2) 38 [.int .u64 p, .string s] = some ls := by
  obtain ⟨f1, f2, hu, n1, n2, t1, t2, o1, o2⟩ := undKey
  obtain ⟨c0, c1, c2⟩ := cellsKey
  have e1 : Tryd.prog.keyLits (d + 1) 36 [.int .u64 p] = some [.int .u64 p] := by
    unfold Program.keyLits
    rw [Tryd.underlying36]
    simp only [hp, and_self, if_true]
  have e2 : Tryd.prog.keyLits (d + 1) 9 [.string s] = some [.string s.data.toList] := by
    unfold Program.keyLits
    rw [Tryd.underlying9]
    simp only [hs, if_true]
  unfold Program.keyLits
  rw [hu]
  simp only [c0, List.length_cons, List.length_nil, Nat.zero_add, Nat.reduceAdd, true_and]
  rw [if_pos (by simp [n1, n2])]
  simp [t1, t2, o1, o2, c1, c2, e1, e2]
/-- What a key reads as. -/
theorem keyOf_mk {p : Nat} {s : ByteArray} (hp : p < 18446744073709551616) (hs : s.size ≤ maxLen) : ∃ l, keyOf Tryd.prog 38 (kV p s) = some l ∧ WideAt.IsKeyLit l := by
  have hk : ∃ l, keyOf Tryd.prog 38 (kV p s) = some l := by
    have h1 : Tryd.prog.keyType 38 = true := by kernel_rfl
    have h2 : (kV p s).formed Tryd.prog 38 = true := by kernel_rfl
    obtain ⟨f1, f2, hu, _⟩ := undKey
    have hsz : 1 ≤ Tryd.prog.types.size := of_decide_eq_true (by kernel_rfl)
    obtain ⟨ls, hl⟩ := litKey (p := (p : Int)) (s := s) (WalkArith.wf_u64 (by omega)) hs (Tryd.prog.types.size - 1)
    rw [show Tryd.prog.types.size - 1 + 2 = Tryd.prog.types.size + 1 by omega] at hl
    unfold keyOf
    rw [hu]
    simp only [h1, h2, Bool.and_true, if_true]
    exact ⟨_, by rw [show (kV p s).cells.toList = [.int .u64 (p : Int), .string s] from rfl, hl]; rfl⟩
  obtain ⟨l, hl⟩ := hk
  exact ⟨l, hl, lawK.key hl⟩
/-- Block b is a map of at most n keys: which ones f says. -/
def MemM (w : World) (b n : Nat) (f : Nat → ByteArray → Bool) : Prop :=
  ∃ D, w.ownsMap Tryd.prog 38 (unitElem (H := Unit)) b n D ∧ ∀ p s l, keyOf Tryd.prog 38 (kV p s) = some l → Maps.has D l = f p s
theorem MemM.made (w : World) : MemM (w.alloc (.map #[] 0)) w.heap.size 0 (fun _ _ => false) := ⟨_, World.ownsMap_made w _ _ _, fun _ _ _ _ => rfl⟩
section
variable {w : World} {b n : Nat} {f : Nat → ByteArray → Bool}
theorem MemM.lt (h : MemM w b n f) : b < w.heap.size := by obtain ⟨D, h, _⟩ := h; exact h.lt
theorem MemM.alloc (h : MemM w b n f) (o : Obj) : MemM (w.alloc o) b n f := by obtain ⟨D, h, r⟩ := h; exact ⟨D, h.alloc o, r⟩
theorem MemM.mono (h : MemM w b n f) {n' : Nat} (hn : n ≤ n') : MemM w b n' f := by obtain ⟨D, h, r⟩ := h; exact ⟨D, h.mono hn, r⟩
theorem MemM.kept {w' : World} {row : Option Nat} (h : MemM w b n f) (hg : w.grownBy w' row) (hne : some b ≠ row) : MemM w' b n f := by
  obtain ⟨D, h, r⟩ := h; exact ⟨D, h.kept hg hne, r⟩
theorem MemM.below {w' : World} (h : MemM w b n f) {B : Nat} (hb : Below B w w') (hB : b < B) : MemM w' b n f := by
  obtain ⟨D, ⟨es, clock, h1, h2, h3, h4⟩, r⟩ := h
  exact ⟨D, ⟨es, clock, (hb.block b hB).trans h1, h2, h3, h4⟩, r⟩
theorem MemM.block {w' : World} (h : MemM w b n f) (hb : w'.heap[b]? = w.heap[b]?) : MemM w' b n f := by
  obtain ⟨D, ⟨es, clock, h1, h2, h3, h4⟩, r⟩ := h
  exact ⟨D, ⟨es, clock, hb.trans h1, h2, h3, h4⟩, r⟩
end
section
variable {ops : Array Oper} {rest : List Oper} {o : Oper} {a : Act} {Q : Exit → Act → World → Prop} (w : World)
/-- '_, there := m[k]'. -/
theorem wpList_lookM (hg : o.guard = none) (m x : Operand) (t : TypeId) (hop : o.op = Op.lookup t m x true) (ht : t = 47)
    (b n : Nat) (f : Nat → ByteArray → Bool) (hm : a.eval m = .map (some b)) (hown : MemM w b n f) (p : Nat) (s : ByteArray) (hx : a.eval x = kV p s) (hp : p < 18446744073709551616) (hs : s.size ≤ maxLen)
    (hK : wpList Tryd.prog ops Q rest (a.put o.dst (.tuple #[.agg #[], .bool (f p s)])) w) : wpList Tryd.prog ops Q (o :: rest) a w := by
  subst ht
  obtain ⟨D, hD, r⟩ := hown
  obtain ⟨l, hl, _⟩ := keyOf_mk hp hs
  rw [← r p s l hl] at hK
  exact wpList_lookup_own_unit w hg m x _ hop _ _ lawK undK (zeroK w) b n D hm hD (kV p s) l hx hl hK
/-- 'm[k] = struct{}{}'. -/
theorem wpList_putM (hg : o.guard = none) (m x v : Operand) (t : TypeId) (hop : o.op = Op.mapUpdate t m x v) (ht : t = 47)
    (b n : Nat) (f : Nat → ByteArray → Bool) (hm : a.eval m = .map (some b)) (hown : MemM w b n f) (hn : n < maxLen) (p : Nat) (s : ByteArray) (hx : a.eval x = kV p s) (hp : p < 18446744073709551616) (hs : s.size ≤ maxLen) (hv : a.eval v = .agg #[])
    (hK : ∀ w', MemM w' b (n + 1) (fun q u => decide (q = p ∧ u = s) || f q u) → w.grownBy w' (some b) → wpList Tryd.prog ops Q rest (a.put o.dst undef) w') : wpList Tryd.prog ops Q (o :: rest) a w := by
  subst ht
  obtain ⟨D, hD, r⟩ := hown
  obtain ⟨l, hl, hkl⟩ := keyOf_mk hp hs
  refine wpList_mapUpdate_own w hg m x v _ hop _ _ lawK undK (unitElem (H := Unit)) b n D hm hD hn _ _ _ hx hv hl (.agg []) [] unitElem_mk fun w' h1 h2 => hK w' ⟨_, h1, fun q u lq hq => ?_⟩ h2
  by_cases e : q = p ∧ u = s
  · obtain ⟨rfl, rfl⟩ := e
    rw [hl] at hq
    cases hq
    rw [Maps.has_put_same hD.isMap hkl]
    simp
  · have hne : lq ≠ l := fun h => e (kV_inj (lawK.inj (h ▸ hq) hl))
    rw [Maps.has_put_other hne, r q u lq hq]
    show _ = (decide (q = p ∧ u = s) || f q u)
    rw [decide_eq_false e]
    rfl
end
end Go.Proofs.YtecpeegbfeijaaaDoor

namespace Go.Proofs.YtecpeegbfeijaaaDoor
set_option maxRecDepth 100000
open Go.RowKit

section
variable {W : World} {S B b : Nat} {h : List TxnV} {C : Nat} {r : List Nat} {vb vr : Value} {aF sF : Nat → Nat} {w : World}
set_option maxHeartbeats 4000000 in
theorem pasks_any (p : PlIs W S B b h C r vb vr aF sF w) : Calls Tryd.prog 25 #[.pointer (some ⟨S, 0, none⟩)] w fun e w' => e = .returned (.int .i64 (C : Int)) ∧ w = w' := by
  have h1 := p.a.cC
  clear p
  go_enter Tryd.func25, Tryd.ntmps25
  go_wp2_with fail
  go_ret
  exact ⟨rfl, rfl⟩
set_option maxHeartbeats 4000000 in
theorem pplaced_any (p : PlIs W S B b h C r vb vr aF sF w) : Calls Tryd.prog 10 #[.pointer (some ⟨S, 0, none⟩)] w fun e w' => e = .returned (.int .u64 ((plS r : Nat) : Int)) ∧ w = w' := by
  have h1 := p.a.cP
  clear p
  generalize plS r = s at *
  go_enter Tryd.func10, Tryd.ntmps10
  go_wp2_with fail
  go_ret
  exact ⟨rfl, rfl⟩
theorem PlIs.row (p : PlIs W S B b h C r vb vr aF sF w) : Ints w vr (r.reverse.map Int.ofNat) := by
  have h1 := Row.of_owns p.rw
  unfold Ints
  rw [List.map_map]
  have : (Value.int IntKind.i64 ∘ Int.ofNat) = fun i : Nat => Value.int .i64 (i : Int) := rfl
  rw [this, List.length_map, List.length_reverse]
  exact h1
theorem PlIs.form (p : PlIs W S B b h C r vb vr aF sF w) : ∃ ao cap, vr = .slice ao r.length cap := by
  obtain ⟨ao, cap, e, _⟩ := p.row.form
  rw [List.length_map, List.length_reverse] at e
  exact ⟨ao, cap, e⟩
theorem nodup_len : ∀ (n : Nat) (l : List Nat), l.Nodup → (∀ k ∈ l, k < n) → l.length ≤ n
  | 0, [], _, _ => Nat.le_refl _
  | 0, k :: l, _, h => absurd (h k (List.mem_cons_self ..)) (by omega)
  | n + 1, l, hn, h => by
    by_cases hm : n ∈ l
    · have h1 := nodup_len n (l.erase n) (hn.erase n) (fun k hk => by
        have := (hn.mem_erase_iff).1 hk
        have := h k this.2
        omega)
      have h2 := List.length_erase_of_mem hm
      have h3 := List.length_pos_of_mem hm
      omega
    · have := nodup_len n l hn (fun k hk => by
        have := h k hk
        have : k ≠ n := fun e => hm (by rw [← e]; exact hk)
        omega)
      omega
theorem PlIs.len (p : PlIs W S B b h C r vb vr aF sF w) : r.length ≤ h.length := nodup_len _ _ p.nd p.lt
end
theorem joinF_fold (F : Nat → Nat) : ∀ (l : List Nat) (s : Nat), l.foldl (fun s k => s ||| F k) s = s ||| joinL F l
  | [], s => by rw [joinL_nil]; simp
  | k :: l, s => by
    have e : joinL F (k :: l) = F k ||| joinL F l := by
      show l.foldl _ (0 ||| F k) = _
      rw [joinF_fold F l, Nat.zero_or]
    rw [List.foldl_cons, joinF_fold F l, e, Nat.or_assoc]
theorem joinN_step {F : Nat → Nat} {c : Nat} (hne : lst c ≠ []) (a : Nat) : a ||| joinN F c = (a ||| F (fst c)) ||| joinN F (woS c (fst c : Int)) := by
  have e : lst c = fst c :: lst (woS c (fst c : Int)) := by
    have := lst_step (S := c) (c := c) (acc := []) (by simp) hne
    simpa using this
  unfold joinN
  rw [e]
  show a ||| (lst (woS c (fst c : Int))).foldl _ (0 ||| F (fst c)) = _
  rw [joinF_fold, Nat.zero_or, Nat.or_assoc]
set_option maxHeartbeats 8000000 in
theorem joined_any (S o : Nat) (F : Nat → Nat) (s : Nat) (w : World) (hs : IsSet s) (hF : ∀ k, k < 64 → IsSet (F k)) (hcell : ∀ k, k < 64 → w.cell? ⟨S, o + k, none⟩ = some (.int .u64 ((F k : Nat) : Int))) (ht : Tab w) :
    Calls Tryd.prog 54 #[.int .u64 (s : Int), .pointer (some ⟨S, o, none⟩)] w fun e w' => e = .returned (.int .u64 ((joinN F s : Nat) : Int)) ∧ Below w.heap.size w w' := by
  have HT := Lib.hid (fun wx (hx : Below w.heap.size w wx) => ht.below hx ht.pos)
  have HC := Lib.hid (fun wx (hx : Below w.heap.size w wx) k (hk : k < 64) => (hx.cell (p := ⟨S, o + k, none⟩) (block_lt (hcell k hk))).trans (hcell k hk))
  have HF := Lib.hid hF
  have HV : Hid (joinN F s = 0 ||| joinN F s) := Lib.hid (Nat.zero_or _).symm
  clear hcell ht hF
  go_enter Tryd.func54, Tryd.ntmps54
  go_wp2_with fail
  go_loopw [0, 5] (fun v x wr => ∃ c a : Nat, IsSet c ∧ IsSet a ∧ v = .int .u64 (c : Int) ∧ x = .int .u64 (a : Int) ∧ Hid (joinN F s = a ||| joinN F c) ∧ Below w.heap.size w wr)
    (fun v _ _ => (lst (intOf v).toNat).length)
  case atStart => exact ⟨s, 0, hs, by unfold IsSet; omega, rfl, rfl, HV, Below.refl _ _⟩
  case round =>
    clear HV
    obtain ⟨c, a, hc, ha, rfl, rfl, HJ, hb⟩ := hrel
    rcases Nat.eq_zero_or_pos c with h0 | h0
    · subst h0
      have HR : Hid (((a : Nat) : Int) = ((joinN F s : Nat) : Int)) := Lib.hid (by rw [HJ.out]; unfold joinN; rw [lst_zero, joinL_nil, Nat.or_zero])
      go_wp2_with fail
      go_ret
      exact ⟨ret_i HR.out, hb⟩
    · have hne := lst_ne hc h0
      have h0i : ((c : Int) != 0) = true := by rw [bne_iff_ne]; omega
      have hwo := isSet_woS (n := (fst c : Int)) hc
      have hfl : fst c < 64 := fst_lt hne
      have HN : Hid (joinN F s = (a ||| F (fst c)) ||| joinN F (woS c (fst c : Int))) := Lib.hid (by rw [HJ.out, joinN_step hne])
      have HD := Lib.hid (lst_less hne)
      have hff := HF.out _ hfl
      have hor := isSet_or ha hff
      have HOR : Hid (Go.bits .or .u64 (a : Int) ((F (fst c) : Nat) : Int) = ((a ||| F (fst c) : Nat) : Int)) := Lib.hid (Go.bits_or_u64_nat _ _ ha hff)
      have CF := Lib.hid (fun n => (first_any c (wr.drewN n) hc (HT.out _ (below_drewN hb n))).mono fun _ _ h => And.intro h.1 h.2.symm)
      have CF2 := Lib.hid (fun wx (hx : Below w.heap.size w wx) => first_any c wx hc (HT.out _ hx))
      have CW := Lib.hid (fun wx => wo_any c (fst c : Int) wx hc)
      have hcell := HC.out _ hb _ hfl
      generalize woS c (fst c : Int) = c2 at *
      generalize F (fst c) = y at *
      generalize fst c = f at *
      have hfi : (f : Int) < 64 := by omega
      clear hne HJ h0
      go_wp2_with fail
      go_quiet ((go_at_call 52; exact Calls.quiet_of_same (CF.out _)))
      rw [HOR.out]
      have hb2 := below_drewN hb nq
      generalize wr.drewN nq = w2 at *
      go_wp2_with (first
        | (go_at_call 52; refine (CF2.out _ hb2).mono ?_; rintro e w' ⟨rfl, rfl⟩)
        | (go_at_call 47; refine (CW.out _).mono ?_; rintro e w' ⟨rfl, rfl⟩))
      go_roundw
      case rel => exact ⟨c2, a ||| y, hwo, hor, rfl, rfl, HN, hb2⟩
      case measure => simp only [intOf, Int.toNat_natCast]; exact HD.out
end Go.Proofs.YtecpeegbfeijaaaDoor

namespace Go.Proofs.YtecpeegbfeijaaaDoor
set_option maxRecDepth 100000
open Go.RowKit

theorem bit_ne (x k : Nat) (hx : x < 9223372036854775808) (hk : 2 ^ k < 9223372036854775808) {q : Int} (hq : bits .and .i64 (x : Int) ((2 ^ k : Nat) : Int) = q) : x.testBit k = !decide (q = 0) := by
  have := bit_zero x k hx hk
  rw [hq] at this
  cases hb : x.testBit k
  · rw [decide_eq_true (this.2 hb)]; rfl
  · rw [decide_eq_false (fun e => by rw [this.1 e] at hb; cases hb)]; rfl
set_option maxRecDepth 100000 in
set_option maxHeartbeats 16000000 in
theorem pwould_any {W : World} {S B b : Nat} {h : List TxnV} {C : Nat} {r : List Nat} {vb vr : Value} {aF sF : Nat → Nat} {w : World} (p : PlIs W S B b h C r vb vr aF sF w) (hc : checkI h = 0) (hC : C < 9223372036854775808) (i : Nat) (hi : i < h.length) :
    Calls Tryd.prog 28 #[.pointer (some ⟨S, 0, none⟩), .int .i64 i] w fun e w' => e = .returned (.int .u64 ((wld4 (baseN h C i) (plS r) (rivN h i) C sF aF : Nat) : Int)) ∧ Below w.heap.size w w' := by
  obtain ⟨q16, h16⟩ : ∃ q, bits .and .i64 (C : Int) 16 = q := ⟨_, rfl⟩
  obtain ⟨q8, h8⟩ : ∃ q, bits .and .i64 (C : Int) 8 = q := ⟨_, rfl⟩
  obtain ⟨q2, h2⟩ : ∃ q, bits .and .i64 (C : Int) 2 = q := ⟨_, rfl⟩
  obtain ⟨q4, h4⟩ : ∃ q, bits .and .i64 (C : Int) 4 = q := ⟨_, rfl⟩
  have H16 := Lib.hid (bit_ne C 4 hC (by omega) h16)
  have H8 := Lib.hid (bit_ne C 3 hC (by omega) h8)
  have H2 := Lib.hid (bit_ne C 1 hC (by omega) h2)
  have H4 := Lib.hid (bit_ne C 2 hC (by omega) h4)
  have hbs := baseN_set h C i
  have hps := plS_set r
  have hrs := rivN_set h i
  have E1 : Hid (wld1 (baseN h C i) (plS r) C = if q16 = 0 then baseN h C i else baseN h C i ||| plS r) := Lib.hid (by unfold wld1; rw [H16.out]; by_cases e : q16 = 0 <;> simp [e])
  have E2 : Hid (wld2 (baseN h C i) (plS r) (rivN h i) C = if q8 = 0 then wld1 (baseN h C i) (plS r) C else wld1 (baseN h C i) (plS r) C ||| (rivN h i &&& plS r)) := Lib.hid (by unfold wld2; rw [H8.out]; by_cases e : q8 = 0 <;> simp [e])
  have E3 : Hid (wld3 (baseN h C i) (plS r) (rivN h i) C sF = if q2 = 0 then wld2 (baseN h C i) (plS r) (rivN h i) C else wld2 (baseN h C i) (plS r) (rivN h i) C ||| joinN sF (wld2 (baseN h C i) (plS r) (rivN h i) C)) := Lib.hid (by unfold wld3; rw [H2.out]; by_cases e : q2 = 0 <;> simp [e])
  have E4 : Hid (wld4 (baseN h C i) (plS r) (rivN h i) C sF aF = if q4 = 0 then wld3 (baseN h C i) (plS r) (rivN h i) C sF else wld3 (baseN h C i) (plS r) (rivN h i) C sF ||| joinN aF (wld3 (baseN h C i) (plS r) (rivN h i) C sF)) := Lib.hid (by unfold wld4; rw [H4.out]; by_cases e : q4 = 0 <;> simp [e])
  have hsF : ∀ k, k < 64 → IsSet (sF k) := fun k hk => (p.set k hk).2
  have haF : ∀ k, k < 64 → IsSet (aF k) := fun k hk => (p.set k hk).1
  have s1 := wld1_set (C := C) hbs hps
  have s2 := wld2_set (C := C) hbs hps hrs
  have s3 := wld3_set (C := C) hbs hps hrs hsF
  have CJ1 := Lib.hid (fun s wx (hs : IsSet s) (hx : Below w.heap.size w wx) => joined_any S 69 sF s wx hs hsF (fun k hk => (p.below hx).a.cS hk) (p.below hx).tab)
  have CJ2 := Lib.hid (fun s wx (hs : IsSet s) (hx : Below w.heap.size w wx) => joined_any S 5 aF s wx hs haF (fun k hk => (p.below hx).a.cA hk) (p.below hx).tab)
  have CRV := Lib.hid (fun wx (hx : Below w.heap.size w wx) => ordis_rivals (p.below hx).ord hc i)
  have HS := Lib.hid (fun wx (hx : Below w.heap.size w wx) => And.intro (p.below hx).a.cO (And.intro (p.below hx).a.cC (p.below hx).a.cP))
  obtain ⟨gb, ob, cb, hvb, hcb⟩ : ∃ gb ob cb, vb = .slice (some ⟨gb, ob, none⟩) h.length cb ∧ w.cell? ⟨gb, ob + i, none⟩ = some (.int .u64 ((baseN h C i : Nat) : Int)) := by
    obtain ⟨hl, ao, cap, e, hm, hno, hcl⟩ := Row.of_owns p.ba
    obtain ⟨g, off, e2, hcell⟩ := hcl (by omega)
    refine ⟨g, off, cap, by rw [e, e2], ?_⟩
    rw [hcell i (by omega), List.getElem?_map, List.getElem?_range hi]; rfl
  have cB := p.a.cB
  rw [hvb] at cB
  obtain ⟨n0, n1, n2⟩ := HS.out w (Below.refl _ _)
  have hii : (i : Int) < (h.length : Int) := by omega
  have hb0 := Below.refl w.heap.size w
  have hr0 : IsSet (joinN sF (wld2 (baseN h C i) (plS r) (rivN h i) C)) := joinN_set hsF
  have hr1 : IsSet (joinN aF (wld3 (baseN h C i) (plS r) (rivN h i) C sF)) := joinN_set haF
  clear p H16 H8 H2 H4 hsF haF hvb hc hi
  generalize wld4 (baseN h C i) (plS r) (rivN h i) C sF aF = x4 at *
  generalize wld3 (baseN h C i) (plS r) (rivN h i) C sF = x3 at *
  generalize wld2 (baseN h C i) (plS r) (rivN h i) C = x2 at *
  generalize wld1 (baseN h C i) (plS r) C = x1 at *
  generalize baseN h C i = x0 at *
  generalize plS r = pl at *
  generalize rivN h i = rv at *
  have CJ1 := Lib.hid (fun wx (hx : Below w.heap.size w wx) => CJ1.out x2 wx s2 hx)
  have CJ2 := Lib.hid (fun wx (hx : Below w.heap.size w wx) => CJ2.out x3 wx s3 hx)
  generalize joinN sF x2 = j1 at *
  generalize joinN aF x3 = j2 at *
  have O1 := Go.bits_or_u64_nat _ _ hbs hps
  have O2 := Go.bits_and_u64_nat _ _ hrs hps
  have O3 := Go.bits_or_u64_nat _ _ s1 (isSet_and (t := pl) hrs)
  have O4 := Go.bits_or_u64_nat _ _ s2 hr0
  have O5 := Go.bits_or_u64_nat _ _ s3 hr1
  clear hbs hps hrs s1 s2 s3 hr0 hr1
  go_enter Tryd.func28, Tryd.ntmps28
  go_upto_if 18 with fail
  go_cut [5] from 13 to 24 (fun v wx => v = .int .u64 (x1 : Int) ∧ Below w.heap.size w wx)
  case first =>
    by_cases e : q16 = 0
    · have HE : Hid (x0 = x1) := Lib.hid (by rw [E1.out, if_pos e])
      go_wp2_with fail
      go_meet
      exact ⟨by rw [HE.out], hb0⟩
    · have HE : Hid (x0 ||| pl = x1) := Lib.hid (by rw [E1.out, if_neg e])
      have e2 := bne_iff_ne.2 e
      go_wp2_with fail
      go_meet
      exact ⟨by rw [← HE.out], hb0⟩
  obtain ⟨rfl, hb1⟩ := hcut
  generalize wc = w1 at *
  clear hb0 cB hcb n0 n1 n2
  obtain ⟨n0, n1, n2⟩ := HS.out _ hb1
  go_upto_if 30 with fail
  go_cut [5] from 25 to 43 (fun v wx => v = .int .u64 (x2 : Int) ∧ Below w.heap.size w wx)
  case first =>
    by_cases e : q8 = 0
    · have HE : Hid (x1 = x2) := Lib.hid (by rw [E2.out, if_pos e])
      go_wp2_with fail
      go_meet
      exact ⟨by rw [HE.out], hb1⟩
    · have HE : Hid (x1 ||| (rv &&& pl) = x2) := Lib.hid (by rw [E2.out, if_neg e])
      have e2 := bne_iff_ne.2 e
      go_upto_region 5 with fail
      refine wp_region_held_drew (S := Below w.heap.size w) (by kernel_rfl) hb1.drew (fun hS0 => ?_)
      refine takeG (some 31) (i := 0) (v := ?vua0) rfl rfl (by kernel_rfl) (by kernel_rfl) (by kernel_rfl) (fun _ _ _ h => h) (Or.inl ⟨by rfl, ?hua0⟩) hS0 ?rua0
      case hua0 => (intro w hw; obtain ⟨n0, n1, n2⟩ := HS.out _ hw; go_simp; try (with_reducible rfl))
      try simp only [Act.put, List.setIfInBounds_toArray, List.set_cons_zero, List.set_cons_succ]
      refine takeG (some 32) (i := 1) (v := ?vua1) rfl rfl (by kernel_rfl) (by kernel_rfl) (by kernel_rfl) (fun _ _ _ h => h) (Or.inl ⟨by rfl, ?hua1⟩) hS0 ?rua1
      case hua1 => (intro w hw; obtain ⟨n0, n1, n2⟩ := HS.out _ hw; go_simp; try (with_reducible rfl))
      try simp only [Act.put, List.setIfInBounds_toArray, List.set_cons_zero, List.set_cons_succ]
      refine takeG (some 33) (i := 2) (v := ?vua2) rfl rfl (by kernel_rfl) (by kernel_rfl) (by kernel_rfl) (fun _ _ _ h => h) (Or.inl ⟨by rfl, ?hua2⟩) hS0 ?rua2
      case hua2 => (intro w hw; obtain ⟨n0, n1, n2⟩ := HS.out _ hw; go_simp; try (with_reducible rfl))
      try simp only [Act.put, List.setIfInBounds_toArray, List.set_cons_zero, List.set_cons_succ]
      refine takeG (some 34) (i := 3) (v := ?vua3) rfl rfl (by kernel_rfl) (by kernel_rfl) (by kernel_rfl) (fun _ _ _ h => h) (Or.inl ⟨by rfl, ?hua3⟩) hS0 ?rua3
      case hua3 => (intro w hw; obtain ⟨n0, n1, n2⟩ := HS.out _ hw; go_simp; try (with_reducible rfl))
      try simp only [Act.put, List.setIfInBounds_toArray, List.set_cons_zero, List.set_cons_succ]
      refine takeG (some 35) (i := 4) (v := ?vua4) rfl rfl (by kernel_rfl) (by kernel_rfl) (by kernel_rfl) (fun _ _ _ h => h) (Or.inl ⟨by rfl, ?hua4⟩) hS0 ?rua4
      case hua4 => (intro w hw; obtain ⟨n0, n1, n2⟩ := HS.out _ hw; go_simp; try (with_reducible rfl))
      try simp only [Act.put, List.setIfInBounds_toArray, List.set_cons_zero, List.set_cons_succ]
      refine takeG (some 36) (i := 5) (v := ?vua5) rfl rfl (by kernel_rfl) (by kernel_rfl) (by kernel_rfl) (fun _ _ _ h => h) (Or.inl ⟨by rfl, ?hua5⟩) hS0 ?rua5
      case hua5 => (intro w hw; obtain ⟨n0, n1, n2⟩ := HS.out _ hw; go_simp; try (with_reducible rfl))
      try simp only [Act.put, List.setIfInBounds_toArray, List.set_cons_zero, List.set_cons_succ]
      refine takeG (some 38) (i := 7) (v := ?vua7) rfl rfl (by kernel_rfl) (by kernel_rfl) (by kernel_rfl) (fun _ _ _ h => h) (Or.inl ⟨by rfl, ?hua7⟩) hS0 ?rua7
      case hua7 => (intro w hw; obtain ⟨n0, n1, n2⟩ := HS.out _ hw; go_simp; try (with_reducible rfl))
      try simp only [Act.put, List.setIfInBounds_toArray, List.set_cons_zero, List.set_cons_succ]
      refine takeG (some 39) (i := 8) (v := ?vua8) rfl rfl (by kernel_rfl) (by kernel_rfl) (by kernel_rfl) (fun _ _ _ h => h) (Or.inl ⟨by rfl, ?hua8⟩) hS0 ?rua8
      case hua8 => (intro w hw; obtain ⟨n0, n1, n2⟩ := HS.out _ hw; go_simp; try (with_reducible rfl))
      try simp only [Act.put, List.setIfInBounds_toArray, List.set_cons_zero, List.set_cons_succ]
      refine takeG (some 40) (i := 9) (v := ?vua9) rfl rfl (by kernel_rfl) (by kernel_rfl) (by kernel_rfl) (fun _ _ _ h => h) (Or.inl ⟨by rfl, ?hua9⟩) hS0 ?rua9
      case hua9 => (intro w hw; obtain ⟨n0, n1, n2⟩ := HS.out _ hw; go_simp; try (with_reducible rfl))
      try simp only [Act.put, List.setIfInBounds_toArray, List.set_cons_zero, List.set_cons_succ]
      refine takeG (some 41) (i := 10) (v := ?vua10) rfl rfl (by kernel_rfl) (by kernel_rfl) (by kernel_rfl) (fun _ _ _ h => h) (Or.inl ⟨by rfl, ?hua10⟩) hS0 ?rua10
      case hua10 => (intro w hw; obtain ⟨n0, n1, n2⟩ := HS.out _ hw; go_simp; try (with_reducible rfl))
      try simp only [Act.put, List.setIfInBounds_toArray, List.set_cons_zero, List.set_cons_succ]
      refine wpAnyH_ready (rs := [6]) (by kernel_rfl) (by simp) ?_
      refine AllReadyH.cons rfl (fun K hK => ?_) AllReadyH.nil
      go_simp
      refine (CRV.out _ hS0).mono ?_
      rintro e y1 ⟨rfl, j1⟩
      show K _ _
      have s1 := below_then hS0 j1
      refine hK.out _ _ s1 (fun _ => ?_)
      clear hK K
      refine takeG (some 42) (i := 11) (v := ?vua11) rfl rfl (by kernel_rfl) (by kernel_rfl) (by kernel_rfl) (fun _ _ _ h => h) (Or.inl ⟨by rfl, ?hua11⟩) s1 ?rua11
      case hua11 => (intro w hw; obtain ⟨n0, n1, n2⟩ := HS.out _ hw; go_simp; try (with_reducible rfl))
      try simp only [Act.put, List.setIfInBounds_toArray, List.set_cons_zero, List.set_cons_succ]
      refine takeG (some 43) (i := 12) (v := ?vua12) rfl rfl (by kernel_rfl) (by kernel_rfl) (by kernel_rfl) (fun _ _ _ h => h) (Or.inl ⟨by rfl, ?hua12⟩) s1 ?rua12
      case hua12 => (intro w hw; obtain ⟨n0, n1, n2⟩ := HS.out _ hw; go_simp; try (with_reducible rfl))
      try simp only [Act.put, List.setIfInBounds_toArray, List.set_cons_zero, List.set_cons_succ]
      refine takeG (some 5) (i := 13) (v := ?vua13) rfl rfl (by kernel_rfl) (by kernel_rfl) (by kernel_rfl) (fun _ _ _ h => h) (Or.inl ⟨by rfl, ?hua13⟩) s1 ?rua13
      case hua13 => (intro w hw; obtain ⟨n0, n1, n2⟩ := HS.out _ hw; go_simp; try (with_reducible rfl))
      try simp only [Act.put, List.setIfInBounds_toArray, List.set_cons_zero, List.set_cons_succ]
      refine wpAnyH_done (by kernel_rfl) ?_ _
      rw [HE.out]
      go_wp2_with fail
      go_meet
      exact ⟨rfl, s1⟩
  obtain ⟨rfl, hb2⟩ := hcut
  generalize wc = w2 at *
  clear hb1 n0 n1 n2
  obtain ⟨n0, n1, n2⟩ := HS.out _ hb2
  go_upto_if 49 with fail
  go_cut [5] from 44 to 56 (fun v wx => v = .int .u64 (x3 : Int) ∧ Below w.heap.size w wx)
  case first =>
    by_cases e : q2 = 0
    · have HE : Hid (x2 = x3) := Lib.hid (by rw [E3.out, if_pos e])
      go_wp2_with fail
      go_meet
      exact ⟨by rw [HE.out], hb2⟩
    · have HE : Hid (x2 ||| j1 = x3) := Lib.hid (by rw [E3.out, if_neg e])
      have e2 := bne_iff_ne.2 e
      go_wp2_with fail
      refine (CJ1.out _ hb2).mono ?_
      rintro e w3 ⟨rfl, h3⟩
      have hb3 := below_then hb2 h3
      go_wp2_with fail
      go_meet
      exact ⟨by rw [← HE.out], hb3⟩
  obtain ⟨rfl, hb3⟩ := hcut
  generalize wc = w3 at *
  clear hb2 n0 n1 n2
  obtain ⟨n0, n1, n2⟩ := HS.out _ hb3
  go_upto_region 8 with fail
  by_cases e : q4 = 0
  · have HE : Hid ((x3 : Int) = ((x4 : Nat) : Int)) := Lib.hid (by rw [E4.out, if_pos e])
    go_wp2_with fail
    go_ret
    exact ⟨ret_i HE.out, hb3⟩
  · have HE : Hid (((x3 ||| j2 : Nat) : Int) = ((x4 : Nat) : Int)) := Lib.hid (by rw [E4.out, if_neg e])
    have e2 := bne_iff_ne.2 e
    go_wp2_with fail
    refine (CJ2.out _ hb3).mono ?_
    rintro e w4 ⟨rfl, h4⟩
    have hb4 := below_then hb3 h4
    go_wp2_with fail
    go_ret
    exact ⟨ret_i HE.out, hb4⟩
end Go.Proofs.YtecpeegbfeijaaaDoor

namespace Go.Proofs.YtecpeegbfeijaaaDoor
set_option maxRecDepth 100000
open Go.RowKit

theorem row_of_block {w : World} {g n : Nat} {cs : List Value} {t : TypeId} (hn : cs.length = n) (hm : n ≤ maxLen) (h : w.heap[g]? = some (.cells cs.toArray t (0, 0))) : Row w (.slice (some ⟨g, 0, none⟩) n n) n 1 cs := by
  refine ⟨by omega, _, _, rfl, ⟨Nat.le_refl _, hm⟩, fun e => (by cases e), fun _ => ⟨g, 0, rfl, fun i hi => ?_⟩⟩
  rw [cell_of_row _ _ _ _ _ _ h]; simp
set_option maxHeartbeats 4000000 in
theorem prow_at {W : World} {S B b : Nat} {h : List TxnV} {C : Nat} {r : List Nat} {vb vr : Value} {aF sF : Nat → Nat} {w : World} (p : PlIs W S B b h C r vb vr aF sF w) (h64 : h.length ≤ 64) :
    Calls Tryd.prog 13 #[.pointer (some ⟨S, 0, none⟩)] w fun e w' => ∃ v, e = .returned v ∧ v = .slice (some ⟨w.heap.size, 0, none⟩) r.length r.length ∧ Ints w' v (r.reverse.map Int.ofNat) ∧ Below w.heap.size w w' := by
  obtain ⟨i0, hi0, hz0, hz1, hz2⟩ := info_parts infoInt
  have hlen := p.len
  have hrow := p.row
  have hll : (r.reverse.map Int.ofNat).length = r.length := by simp
  obtain ⟨ao, cap, rfl⟩ := p.form
  have HS := Lib.hid (fun wx (hx : Below w.heap.size w wx) => And.intro (p.below hx).a.cR (p.below hx).row)
  have c3 := p.a.cR
  clear p hrow
  generalize r.reverse.map Int.ofNat = L at *
  generalize r.length = n at *
  have hcl : (L.map (Value.int .i64)).length = n := by simp [hll]
  have hb0 := box_below w (.cells (madeCells #[.int .i64 0] n) 3)
  have hnew := heap_alloc_new w (.cells (madeCells #[.int .i64 0] n) 3)
  have hml : (madeCells #[Value.int .i64 0] n).toList.length = n := by simp [madeCells]
  have hg0 : (w.alloc (.cells (madeCells #[.int .i64 0] n) 3)).heap[w.heap.size]? = some (.cells (madeCells #[.int .i64 0] n).toList.toArray 3 (0, 0)) := by rw [Array.toArray_toList]; exact hnew
  go_enter Tryd.func13, Tryd.ntmps13
  go_upto_region 2 with (at_make; refine wpList_make_row _ rfl _ _ 26 rfl 3 i0 (.int .i64 0) Tryd.underlying26 hi0 hz0 hz1 rfl .i64 .i64 n rfl rfl ?b2 ?b3 ?_)
  case b2 => rw [hz2]; omega
  case b3 => omega
  obtain ⟨d3, hrow⟩ := HS.out _ hb0
  clear hnew c3
  generalize w.alloc (.cells (madeCells #[.int .i64 0] n) 3) = w1 at *
  generalize (madeCells #[Value.int .i64 0] n).toList = Z at *
  obtain ⟨_, ao', cap', he, hm, hno, hc⟩ := hrow
  obtain ⟨e1, e2, e3⟩ : ao = ao' ∧ n = L.length ∧ cap = cap' := by simpa using he
  subst e1 e3
  have hpos : 0 < (L.map (Value.int .i64)).length → (some (⟨w.heap.size, 0, none⟩ : Addr) = some ⟨w.heap.size, 0, none⟩) ∧ ∃ ad, ao = some ad ∧ ∀ j v, (L.map (Value.int .i64))[j]? = some v → w1.cell? (ad.add j) = some v := fun hp => by
    obtain ⟨b, off, rfl, hcell⟩ := hc (by omega)
    refine ⟨rfl, _, rfl, fun j v hv => ?_⟩
    have hj := (List.getElem?_eq_some_iff.1 hv).1
    rw [Addr.add_lit, hcell j (by omega), hv]
  have h1c : ∀ v ∈ L.map (Value.int .i64), v.oneCell' = true := fun v hv => by obtain ⟨x, _, rfl⟩ := List.mem_map.1 hv; rfl
  obtain ⟨X, hX⟩ : ∃ X, X = L.map (Value.int .i64) := ⟨_, rfl⟩
  rw [← hX] at hcl hpos h1c
  have HX := Lib.hid hX
  have E2 := Lib.hid e2
  have HP := Lib.hid hpos
  have HC1 := Lib.hid h1c
  have HCL := Lib.hid hcl
  clear hpos h1c hcl
  clear hX hc hno he e2 hll
  obtain ⟨w2, hrun, HG, hb2⟩ : ∃ w2, Sem.run Tryd.prog (Builtin.copy_ #[26, 26] 3 #[.slice (some ⟨w.heap.size, 0, none⟩) n n, .slice ao n cap]) w1 = .ok (.int .i64 (n : Int)) w2 ∧ Hid (w2.heap[w.heap.size]? = some (.cells X.toArray 3 (0, 0))) ∧ Below w.heap.size w w2 := by
    have hsz1 : (Tryd.prog.info? 3).map (·.size) = some 1 := by rw [hi0]; simp [hz1]
    rcases Nat.eq_zero_or_pos n with h0 | h0
    · have hX0 : X = [] := List.eq_nil_of_length_eq_zero (by rw [HCL.out]; exact h0)
      have hZ0 : Z = [] := List.eq_nil_of_length_eq_zero (by rw [hml]; exact h0)
      refine ⟨w1, ?_, Lib.hid (by rw [hX0, ← hZ0]; exact hg0), hb0⟩
      have := run_copy_none (P := Tryd.prog) w1 26 26 3 3 (some ⟨w.heap.size, 0, none⟩) ao n n n cap Tryd.underlying26 hsz1 (by rw [h0]; rfl)
      rw [this, h0]; rfl
    · obtain ⟨_, ad, rfl, hsrc⟩ := HP.out (by rw [HCL.out]; exact h0)
      have := run_copy_row (P := Tryd.prog) w1 26 26 3 3 w.heap.size 0 n n ad n cap Z.toArray 3 X Tryd.underlying26 hsz1 hg0 (by rw [HCL.out]; simp) hsrc (by rw [HCL.out]; simp [hml]) HC1.out
      refine ⟨_, by rw [this, HCL.out]; rfl, Lib.hid ?_, below_setRow hb0 (Nat.le_refl _) _⟩
      have h3 := setRow_heap w1 w.heap.size Z.toArray (List.take 0 Z.toArray.toList ++ X ++ List.drop (0 + n) Z.toArray.toList).toArray 3 _ hg0
      rw [h3]
      have : List.take 0 Z.toArray.toList ++ X ++ List.drop (0 + n) Z.toArray.toList = X := by simp [hml]
      rw [this]
  have HR : Hid (Ints w2 (.slice (some ⟨w.heap.size, 0, none⟩) n n) L) := Lib.hid (by
    have h1 := row_of_block HCL.out (by unfold maxLen; omega) HG.out
    unfold Ints
    rw [HX.out] at h1
    rw [← E2.out]; exact h1)
  clear HG hg0
  go_wp2_with fail
  go_ret
  exact ⟨_, rfl, rfl, HR.out, hb2⟩
end Go.Proofs.YtecpeegbfeijaaaDoor

namespace Go.Proofs.YtecpeegbfeijaaaDoor
set_option maxRecDepth 100000
open Go.RowKit

theorem infoByte : ((Tryd.prog.info? 5).map fun i => (i.zero, i.size, i.bytes)) = some (some (.int .u8 0), 1, 1) := by kernel_rfl
def u8V (l : List Nat) : List Value := l.map fun n : Nat => Value.int .u8 (n : Int)
/-- A table of bytes. -/
def ByAt (w : World) (A : Nat) (F : Nat → Nat) : Prop := ∀ i, i < 64 → w.cell? ⟨A, i, none⟩ = some (.int .u8 ((F i : Nat) : Int)) ∧ w.frozen? ⟨A, i, none⟩ = false
section
variable {w w' : World} {A : Nat} {F : Nat → Nat}
theorem ByAt.lt (h : ByAt w A F) : A < w.heap.size := block_lt (h 0 (by omega)).1
theorem ByAt.block (h : ByAt w A F) (hb : w'.heap[A]? = w.heap[A]?) : ByAt w' A F := fun i hi =>
  ⟨(World.cell?_of_block (a := ⟨A, i, none⟩) hb).trans (h i hi).1, (World.frozen?_of_block (a := ⟨A, i, none⟩) hb).trans (h i hi).2⟩
theorem ByAt.below {B : Nat} (h : ByAt w A F) (hb : Below B w w') (hB : A < B) : ByAt w' A F := h.block (hb.block A hB)
theorem ByAt.set (h : ByAt w A F) {i : Nat} (hi : i < 64) (s : Nat) : ByAt (w.setCell ⟨A, i, none⟩ (.int .u8 (s : Int))) A (updN F i s) := fun k hk => by
  refine ⟨?_, by rw [World.frozen?_setCell]; exact (h k hk).2⟩
  unfold updN
  by_cases e : k = i
  · subst e; rw [if_pos rfl]; exact World.cell?_setCell_same _ _ _ (h k hk).1
  · rw [if_neg e, World.cell?_setCell_other _ _ _ _ (fun q => e (by injection q with _ q2; exact q2.symm))]
    exact (h k hk).1
theorem ByAt.made (w : World) (t : TypeId) (cs : Array Value) (h : ∀ i, i < 64 → cs[i]? = some (.int .u8 0)) : ByAt (w.alloc (.cells cs t)) w.heap.size (fun _ => 0) := fun i hi => by
  have hn := heap_alloc_new w (.cells cs t)
  exact ⟨by rw [cell_of_row _ _ _ _ _ _ hn]; exact h i hi, frozen_of_row _ _ _ _ _ hn⟩
end
/-- A row of bytes as a text. -/
theorem row_bytes {w : World} {base : Nat} {v : Value} {l : List Nat} (h : w.ownsRow base 5 1 v l.length (u8V l)) : (convert 23 9 v).run Tryd.prog w = .ok (.string (byteB l)) w := by
  rcases h.2 with ⟨rfl, h0⟩ | ⟨g, cap, cur, rfl, _, hg, h1, _, h2, h3⟩
  · obtain rfl := List.eq_nil_of_length_eq_zero h0
    exact run_convert_bytes_nil (P := Tryd.prog) w 23 5 Tryd.underlying23 Tryd.underlying5 0 0 9 Tryd.underlying9
  · have := run_convert_bytes_arg (P := Tryd.prog) w 23 5 Tryd.underlying23 Tryd.underlying5 g 0 l.length cap (l.map Int.ofNat) (by simp) (fun i hi => by
      rw [Nat.zero_add, cell_of_row _ _ _ _ _ _ hg]
      have e : cur.toList[i]? = (u8V l)[i]? := by rw [← h3, Nat.mul_one, List.getElem?_take, if_pos hi]
      rw [← Array.getElem?_toList, e]
      unfold u8V
      simp [List.getD, hi]) 9 Tryd.underlying9
    rw [this]
    congr 2
    unfold strOfNums byteB
    rw [List.map_map]
    rfl
/-- Of a row the first k that came, the last one first. -/
def lastK (r : List Nat) (k : Nat) : List Nat := (r.reverse.take k).reverse
theorem lastK_succ (r : List Nat) (k : Nat) (hk : k < r.reverse.length) : lastK r (k + 1) = r.reverse[k] :: lastK r k := by
  unfold lastK; rw [List.take_succ_eq_append_getElem hk, List.reverse_append]; rfl
theorem lastK_all (r : List Nat) (k : Nat) (hk : k = r.length) : lastK r k = r := by
  unfold lastK; rw [List.take_of_length_le (by rw [List.length_reverse]; omega), List.reverse_reverse]
theorem aheadC_upd (h : List TxnV) (i : Nat) (r : List Nat) : aheadC h (i :: r) = updN (aheadC h r) i (wrOf h r).length := by
  funext k; unfold updN; rw [aheadC]
set_option maxHeartbeats 4000000 in
theorem mreaches_any (C : Nat) (hC : C < 9223372036854775808) (w : World) :
    Calls Tryd.prog 24 #[.int .i64 (C : Int)] w fun e w' => e = .returned (.bool (reachB C)) ∧ w = w' := by
  obtain ⟨q16, h16⟩ : ∃ q, bits .and .i64 (C : Int) 16 = q := ⟨_, rfl⟩
  obtain ⟨q4, h4⟩ : ∃ q, bits .and .i64 (C : Int) 4 = q := ⟨_, rfl⟩
  have e16 := bit_ne C 4 hC (by omega) h16
  have e4 := bit_ne C 2 hC (by omega) h4
  have HV : Hid (reachB C = (!decide (q4 = 0) && decide (q16 = 0))) := Lib.hid (by unfold reachB; rw [e16, e4]; cases decide (q16 = 0) <;> simp)
  clear e16 e4
  rw [HV.out]
  clear HV
  go_enter Tryd.func24, Tryd.ntmps24
  by_cases z4 : q4 = 0
  · have b4 : (q4 != 0) = false := by simp [z4]
    go_wp2_with fail
    go_ret
    exact ⟨by simp [z4], rfl⟩
  · have b4 : (q4 != 0) = true := by simp [z4]
    go_wp2_with fail
    go_ret
    refine ⟨?_, rfl⟩
    by_cases z16 : q16 = 0 <;> simp [z4, z16]
theorem lack_set {a b : Nat} (ha : IsSet a) : IsSet (lackN a b) := isSet_of_bits fun i hi => by
  unfold lackN
  rw [Nat.testBit_xor, Nat.testBit_and, ha.high hi]; simp
theorem zero_bytes (w : World) : ByAt (w.alloc (.cells #[.int .u8 0, .int .u8 0, .int .u8 0, .int .u8 0, .int .u8 0, .int .u8 0, .int .u8 0, .int .u8 0, .int .u8 0, .int .u8 0, .int .u8 0, .int .u8 0, .int .u8 0, .int .u8 0, .int .u8 0, .int .u8 0, .int .u8 0, .int .u8 0, .int .u8 0, .int .u8 0, .int .u8 0, .int .u8 0, .int .u8 0, .int .u8 0, .int .u8 0, .int .u8 0, .int .u8 0, .int .u8 0, .int .u8 0, .int .u8 0, .int .u8 0, .int .u8 0, .int .u8 0, .int .u8 0, .int .u8 0, .int .u8 0, .int .u8 0, .int .u8 0, .int .u8 0, .int .u8 0, .int .u8 0, .int .u8 0, .int .u8 0, .int .u8 0, .int .u8 0, .int .u8 0, .int .u8 0, .int .u8 0, .int .u8 0, .int .u8 0, .int .u8 0, .int .u8 0, .int .u8 0, .int .u8 0, .int .u8 0, .int .u8 0, .int .u8 0, .int .u8 0, .int .u8 0, .int .u8 0, .int .u8 0, .int .u8 0, .int .u8 0, .int .u8 0] 62)) w.heap.size (fun _ => 0) := ByAt.made w _ _ fun i hi => by
  rw [show (#[.int .u8 0, .int .u8 0, .int .u8 0, .int .u8 0, .int .u8 0, .int .u8 0, .int .u8 0, .int .u8 0, .int .u8 0, .int .u8 0, .int .u8 0, .int .u8 0, .int .u8 0, .int .u8 0, .int .u8 0, .int .u8 0, .int .u8 0, .int .u8 0, .int .u8 0, .int .u8 0, .int .u8 0, .int .u8 0, .int .u8 0, .int .u8 0, .int .u8 0, .int .u8 0, .int .u8 0, .int .u8 0, .int .u8 0, .int .u8 0, .int .u8 0, .int .u8 0, .int .u8 0, .int .u8 0, .int .u8 0, .int .u8 0, .int .u8 0, .int .u8 0, .int .u8 0, .int .u8 0, .int .u8 0, .int .u8 0, .int .u8 0, .int .u8 0, .int .u8 0, .int .u8 0, .int .u8 0, .int .u8 0, .int .u8 0, .int .u8 0, .int .u8 0, .int .u8 0, .int .u8 0, .int .u8 0, .int .u8 0, .int .u8 0, .int .u8 0, .int .u8 0, .int .u8 0, .int .u8 0, .int .u8 0, .int .u8 0, .int .u8 0, .int .u8 0] : Array Value) = (List.replicate 64 (Value.int .u8 0)).toArray from rfl, List.getElem?_toArray, List.getElem?_replicate, if_pos hi]
theorem hasB_bit {s : Nat} {j : Nat} (hj : j < 64) : hasB s (j : Int) = s.testBit j := by
  unfold hasB
  rw [Int.toNat_natCast, show decide (0 ≤ (j : Int) ∧ (j : Int) < 64) = true by simp; omega, Bool.true_and]
theorem own_form {w : World} {base : Nat} {e : TypeId} {size n : Nat} {v : Value} {xs : List Value} (h : w.ownsRow base e size v n xs) : ∃ ao cap, v = .slice ao n cap := by
  rcases h.2 with ⟨rfl, rfl⟩ | ⟨g, cap, cur, rfl, _⟩
  · exact ⟨_, _, rfl⟩
  · exact ⟨_, _, rfl⟩
theorem u8V_app (l : List Nat) (n : Nat) : u8V (l ++ [n]) = u8V l ++ [.int .u8 (n : Int)] := by unfold u8V; rw [List.map_append]; rfl
theorem wrap_u8 {n : Nat} (h : n < 256) : IntKind.u8.wrap (n : Int) = (n : Int) := by
  have : IntKind.u8.wrap (n : Int) = (n : Int) % 256 := by rfl
  rw [this]; omega
/-- A key in its own block. -/
structure KyAt (w : World) (g p : Nat) (s : ByteArray) : Prop where
  c0 : w.cell? ⟨g, 0, none⟩ = some (.int .u64 (p : Int))
  c1 : w.cell? ⟨g, 1, none⟩ = some (.string s)
  f0 : w.frozen? ⟨g, 0, none⟩ = false
  f1 : w.frozen? ⟨g, 1, none⟩ = false
section
variable {w w' : World} {g p : Nat} {s : ByteArray}
theorem KyAt.lt (h : KyAt w g p s) : g < w.heap.size := block_lt h.c0
theorem KyAt.block (h : KyAt w g p s) (hb : w'.heap[g]? = w.heap[g]?) : KyAt w' g p s :=
  ⟨(World.cell?_of_block (a := ⟨g, 0, none⟩) hb).trans h.c0, (World.cell?_of_block (a := ⟨g, 1, none⟩) hb).trans h.c1, (World.frozen?_of_block (a := ⟨g, 0, none⟩) hb).trans h.f0, (World.frozen?_of_block (a := ⟨g, 1, none⟩) hb).trans h.f1⟩
theorem KyAt.below (h : KyAt w g p s) (hb : Below w.heap.size w w') : KyAt w' g p s := h.block (hb.block g h.lt)
theorem KyAt.made (w : World) : KyAt (w.alloc (.cells #[.int .u64 0, .string ⟨#[]⟩] 38)) w.heap.size 0 ⟨#[]⟩ := by
  have hn := heap_alloc_new w (.cells #[.int .u64 0, .string ⟨#[]⟩] 38)
  refine ⟨?_, ?_, frozen_of_row _ _ _ _ _ hn, frozen_of_row _ _ _ _ _ hn⟩ <;> (rw [cell_of_row _ _ _ _ _ _ hn]; rfl)
theorem KyAt.set (h : KyAt w g p s) (q : Nat) (u : ByteArray) : KyAt ((w.setCell ⟨g, 0, none⟩ (.int .u64 (q : Int))).setCell ⟨g, 1, none⟩ (.string u)) g q u := by
  refine ⟨?_, ?_, ?_, ?_⟩
  · rw [World.cell?_setCell_other _ _ _ _ (by simp)]
    exact World.cell?_setCell_same _ _ _ h.c0
  · exact World.cell?_setCell_same _ _ _ (by rw [World.cell?_setCell_other _ _ _ _ (by simp)]; exact h.c1)
  · simp only [World.frozen?_setCell]; exact h.f0
  · simp only [World.frozen?_setCell]; exact h.f1
end
/-- What the loops of Of hold: the row of bytes, and the table of how many are ahead. -/
structure OfB (N A : Nat) (rv : Value) (bs : List Nat) (F : Nat → Nat) (w4 wr : World) : Prop where
  own : wr.ownsRow N 5 1 rv bs.length (u8V bs)
  tab : ByAt wr A F
  gr : w4.grownBy wr (some A)
  len : bs.length ≤ 128
section
variable {N A : Nat} {rv : Value} {bs : List Nat} {F : Nat → Nat} {w4 wr w6 : World}
theorem OfB.set (q : OfB N A rv bs F w4 wr) (hA : A < N) {i : Nat} (hi : i < 64) (s : Nat) : OfB N A rv bs (updN F i s) w4 (wr.setCell ⟨A, i, none⟩ (.int .u8 (s : Int))) := by
  have hs : Below 0 wr (wr.setCell ⟨A, i, none⟩ (.int .u8 (s : Int))) := (Below.refl 0 wr).setCell (Nat.zero_le _) _
  refine ⟨pl_far q.own hA _, q.tab.set hi s, ⟨hs.os.trans q.gr.os, hs.tape.trans q.gr.tape, hs.output.trans q.gr.output, Nat.le_trans q.gr.size hs.size, fun k hk hne => ?_⟩, q.len⟩
  rw [Below.heap_setCell wr ⟨A, i, none⟩ _ k (fun e => hne (by rw [e]))]
  exact q.gr.block k hk hne
theorem OfB.app (q : OfB N A rv bs F w4 wr) (hA : A < N) (hN : N = w4.heap.size) {o : Obj} {v' : Value} {n : Nat} (hl : bs.length + 1 ≤ 128) (hown : w6.ownsRow N 5 1 v' (bs.length + 1) (u8V bs ++ [.int .u8 (n : Int)])) (hg : (wr.alloc o).grownBy w6 rv.ownBlock) : OfB N A v' (bs ++ [n]) F w4 w6 := by
  have hlo := q.own.lt
  have hAr : rv.ownBlock ≠ some A := fun e => by have := (hlo A e).1; omega
  have hAl := q.tab.lt
  have hz : wr.heap.size ≤ (wr.alloc o).heap.size := by simp
  refine ⟨by rw [u8V_app, List.length_append]; exact hown, q.tab.block ((hg.block A (by omega) (fun e => hAr e.symm)).trans (Below.heap_alloc wr o A hAl)), ⟨hg.os.trans q.gr.os, hg.tape.trans q.gr.tape, hg.output.trans q.gr.output, Nat.le_trans q.gr.size (Nat.le_trans hz hg.size), fun k hk hne => ?_⟩, by rw [List.length_append]; exact hl⟩
  have hkr : k < wr.heap.size := Nat.lt_of_lt_of_le hk q.gr.size
  rw [hg.block k (by omega) (fun e => by have := (hlo k e.symm).1; omega), Below.heap_alloc wr o k hkr]
  exact q.gr.block k hk hne
theorem OfB.below (q : OfB N A rv bs F w4 wr) (hb : Below wr.heap.size wr w6) : OfB N A rv bs F w4 w6 :=
  ⟨owns_below q.own hb, q.tab.below hb q.tab.lt, ⟨hb.os.trans q.gr.os, hb.tape.trans q.gr.tape, hb.output.trans q.gr.output, Nat.le_trans q.gr.size hb.size, fun k hk hne => (hb.block k (Nat.lt_of_lt_of_le hk q.gr.size)).trans (q.gr.block k hk hne)⟩, q.len⟩
end
section
variable {W : World} {S B b : Nat} {h : List TxnV} {C : Nat} {r : List Nat} {vb vr : Value} {aF sF : Nat → Nat} {w : World}
set_option maxRecDepth 100000 in
set_option maxHeartbeats 16000000 in
theorem mof_any (p : PlIs W S B b h C r vb vr aF sF w) (hc : checkI h = 0) (hC : C < 9223372036854775808) :
    Calls Tryd.prog 9 #[.pointer (some ⟨B, 0, none⟩), .pointer (some ⟨S, 0, none⟩)] w fun e w' => e = .returned (kV (plS r) (keyB h C r)) ∧ Below w.heap.size w w' := by
  have h64 := (check_zero hc).1
  obtain ⟨i0, hi, hz0, hz1, hz2⟩ := info_parts infoByte
  have hrl : r.length ≤ 64 := by have := p.len; omega
  have hlt64 : ∀ k ∈ r, k < 64 := fun k hk => by have := p.lt k hk; omega
  have P := Lib.hid p
  have CP := Lib.hid (fun wx (hx : Below w.heap.size w wx) => pplaced_any (p.below hx))
  have CW := Lib.hid (fun wx (hx : Below w.heap.size w wx) => mwriters_any (p.below hx).ord hc)
  have CR := Lib.hid (fun wx (hx : Below w.heap.size w wx) => prow_at (p.below hx) h64)
  have CA := Lib.hid (fun wx (hx : Below w.heap.size w wx) => pasks_any (p.below hx))
  have CL := Lib.hid (fun wx (hx : Below w.heap.size w wx) => list_any (lackN (plS r) (wAllN h)) wx (lack_set (plS_set r)) (p.below hx).tab)
  have CH := Lib.hid (fun (n : Int) wx => has_any (wAllN h) n wx (wAll_set h))
  have CM := Lib.hid (fun wx => mreaches_any C hC wx)
  have HLT := Lib.hid hlt64
  have HLK : Hid (bits .andNot .u64 ((plS r : Nat) : Int) ((wAllN h : Nat) : Int) = ((lackN (plS r) (wAllN h) : Nat) : Int)) := Lib.hid (bits_andNot_u64_nat _ _ (plS_set r) (wAll_set h))
  have hb0 := box_below w (.cells #[.int .u64 0, .string ⟨#[]⟩] 38)
  have hky : ∀ wx, Below (w.heap.size + 1) (w.alloc (.cells #[.int .u64 0, .string ⟨#[]⟩] 38)) wx → KyAt wx w.heap.size 0 ⟨#[]⟩ := fun wx hx => by
    exact (KyAt.made w).block (hx.block w.heap.size (Nat.lt_succ_self _))
  have hs0 : (w.alloc (.cells #[.int .u64 0, .string ⟨#[]⟩] 38)).heap.size = w.heap.size + 1 := by simp
  have HKY := Lib.hid hky
  clear p hlt64 hky
  go_enter Tryd.func9, Tryd.ntmps9
  go_upto_region 1 with fail
  generalize w.alloc (.cells #[.int .u64 0, .string ⟨#[]⟩] 38) = w0 at *
  go_wp2_with fail
  refine (CP.out _ hb0).mono ?_
  rintro e wq ⟨rfl, rfl⟩
  go_wp2_with fail
  refine (CW.out _ hb0).mono ?_
  rintro e w1 ⟨rfl, hb1⟩
  have hk1 : Below (w.heap.size + 1) w0 w1 := by rw [← hs0]; exact hb1
  have hb1 := below_then hb0 hb1
  clear hb0 CP CW
  go_upto_region 4 with fail
  have z2 := zero_bytes w1
  have hb2 := hb1.alloc hb1.size (.cells #[.int .u8 0, .int .u8 0, .int .u8 0, .int .u8 0, .int .u8 0, .int .u8 0, .int .u8 0, .int .u8 0, .int .u8 0, .int .u8 0, .int .u8 0, .int .u8 0, .int .u8 0, .int .u8 0, .int .u8 0, .int .u8 0, .int .u8 0, .int .u8 0, .int .u8 0, .int .u8 0, .int .u8 0, .int .u8 0, .int .u8 0, .int .u8 0, .int .u8 0, .int .u8 0, .int .u8 0, .int .u8 0, .int .u8 0, .int .u8 0, .int .u8 0, .int .u8 0, .int .u8 0, .int .u8 0, .int .u8 0, .int .u8 0, .int .u8 0, .int .u8 0, .int .u8 0, .int .u8 0, .int .u8 0, .int .u8 0, .int .u8 0, .int .u8 0, .int .u8 0, .int .u8 0, .int .u8 0, .int .u8 0, .int .u8 0, .int .u8 0, .int .u8 0, .int .u8 0, .int .u8 0, .int .u8 0, .int .u8 0, .int .u8 0, .int .u8 0, .int .u8 0, .int .u8 0, .int .u8 0, .int .u8 0, .int .u8 0, .int .u8 0, .int .u8 0] 62)
  have hk2 := hk1.alloc (by rw [← hs0]; exact hk1.size) (.cells #[.int .u8 0, .int .u8 0, .int .u8 0, .int .u8 0, .int .u8 0, .int .u8 0, .int .u8 0, .int .u8 0, .int .u8 0, .int .u8 0, .int .u8 0, .int .u8 0, .int .u8 0, .int .u8 0, .int .u8 0, .int .u8 0, .int .u8 0, .int .u8 0, .int .u8 0, .int .u8 0, .int .u8 0, .int .u8 0, .int .u8 0, .int .u8 0, .int .u8 0, .int .u8 0, .int .u8 0, .int .u8 0, .int .u8 0, .int .u8 0, .int .u8 0, .int .u8 0, .int .u8 0, .int .u8 0, .int .u8 0, .int .u8 0, .int .u8 0, .int .u8 0, .int .u8 0, .int .u8 0, .int .u8 0, .int .u8 0, .int .u8 0, .int .u8 0, .int .u8 0, .int .u8 0, .int .u8 0, .int .u8 0, .int .u8 0, .int .u8 0, .int .u8 0, .int .u8 0, .int .u8 0, .int .u8 0, .int .u8 0, .int .u8 0, .int .u8 0, .int .u8 0, .int .u8 0, .int .u8 0, .int .u8 0, .int .u8 0, .int .u8 0, .int .u8 0] 62)
  have hs2 : (w1.alloc (.cells #[.int .u8 0, .int .u8 0, .int .u8 0, .int .u8 0, .int .u8 0, .int .u8 0, .int .u8 0, .int .u8 0, .int .u8 0, .int .u8 0, .int .u8 0, .int .u8 0, .int .u8 0, .int .u8 0, .int .u8 0, .int .u8 0, .int .u8 0, .int .u8 0, .int .u8 0, .int .u8 0, .int .u8 0, .int .u8 0, .int .u8 0, .int .u8 0, .int .u8 0, .int .u8 0, .int .u8 0, .int .u8 0, .int .u8 0, .int .u8 0, .int .u8 0, .int .u8 0, .int .u8 0, .int .u8 0, .int .u8 0, .int .u8 0, .int .u8 0, .int .u8 0, .int .u8 0, .int .u8 0, .int .u8 0, .int .u8 0, .int .u8 0, .int .u8 0, .int .u8 0, .int .u8 0, .int .u8 0, .int .u8 0, .int .u8 0, .int .u8 0, .int .u8 0, .int .u8 0, .int .u8 0, .int .u8 0, .int .u8 0, .int .u8 0, .int .u8 0, .int .u8 0, .int .u8 0, .int .u8 0, .int .u8 0, .int .u8 0, .int .u8 0, .int .u8 0] 62)).heap.size = w1.heap.size + 1 := by simp
  have hA1 : w.heap.size + 1 ≤ w1.heap.size := by have := hk1.size; omega
  clear hb1 hk1 hs0
  generalize w1.alloc (.cells #[.int .u8 0, .int .u8 0, .int .u8 0, .int .u8 0, .int .u8 0, .int .u8 0, .int .u8 0, .int .u8 0, .int .u8 0, .int .u8 0, .int .u8 0, .int .u8 0, .int .u8 0, .int .u8 0, .int .u8 0, .int .u8 0, .int .u8 0, .int .u8 0, .int .u8 0, .int .u8 0, .int .u8 0, .int .u8 0, .int .u8 0, .int .u8 0, .int .u8 0, .int .u8 0, .int .u8 0, .int .u8 0, .int .u8 0, .int .u8 0, .int .u8 0, .int .u8 0, .int .u8 0, .int .u8 0, .int .u8 0, .int .u8 0, .int .u8 0, .int .u8 0, .int .u8 0, .int .u8 0, .int .u8 0, .int .u8 0, .int .u8 0, .int .u8 0, .int .u8 0, .int .u8 0, .int .u8 0, .int .u8 0, .int .u8 0, .int .u8 0, .int .u8 0, .int .u8 0, .int .u8 0, .int .u8 0, .int .u8 0, .int .u8 0, .int .u8 0, .int .u8 0, .int .u8 0, .int .u8 0, .int .u8 0, .int .u8 0, .int .u8 0, .int .u8 0] 62) = w2 at *
  generalize w1.heap.size = A at *
  go_wp2_with fail
  refine (CR.out _ hb2).mono ?_
  rintro e w4 ⟨v, rfl, rfl, hI, hb4⟩
  have z4 := z2.below hb4 z2.lt
  have hk4 : Below (w.heap.size + 1) w0 w4 := hk2.trans (hb4.mono (by omega))
  have hb4 := below_then hb2 hb4
  rw [hs2] at hI ⊢
  have hA : A < w4.heap.size := z4.lt
  have hAw : w.heap.size ≤ A := by omega
  have hw4 : w.heap.size + 1 ≤ w4.heap.size := by omega
  have HI := Lib.hid (fun wx (hg : w4.grownBy wx (some A)) => hI.grown hg (fun b e e2 => by
    simp only [Value.ownBlock, Option.some.injEq] at e e2
    omega))
  have HG := Lib.hid (fun wx (hg : w4.grownBy wx (some A)) => hb4.grown hg hb4.size (fun j e => by injection e with e; omega))
  have HKG := Lib.hid (fun wx (hg : w4.grownBy wx (some A)) => hk4.grown hg hw4 (fun j e => by injection e with e; omega))
  have q0 : OfB w4.heap.size A (.slice none 0 0) [] (fun _ => 0) w4 w4 := ⟨World.ownsRow_nil _ _ _ _, z4, World.grownBy.refl _ _, by simp⟩
  clear hs2 CR z2 z4 hb2 hk2 hk4 hb4 hI
  go_wp2_with fail
  go_loopw [7, 20] (fun rv iv wr => ∃ (k : Nat) (bs : List Nat) (F : Nat → Nat), k ≤ r.length ∧ iv = .int .i64 k ∧ bs.length ≤ k ∧ OfB w4.heap.size A rv bs F w4 wr ∧ Hid (bs = (wrOf h (lastK r k)).reverse ∧ F = aheadC h (lastK r k))) (fun _ iv _ => r.length - (intOf iv).toNat)
  case atStart => exact ⟨0, [], fun _ => 0, Nat.zero_le _, rfl, Nat.zero_le _, q0, Lib.hid ⟨rfl, rfl⟩⟩
  case round =>
    clear q0
    obtain ⟨k, bs, F, hk, rfl, hbk, q, HQ⟩ := hrel
    obtain ⟨ro, rc, rfl⟩ := own_form q.own
    by_cases hkl : k < r.length
    · have hki : (k : Int) < (r.length : Int) := by omega
      have hkL : k < r.reverse.length := by rw [List.length_reverse]; exact hkl
      obtain ⟨ga, oa, hao, e0⟩ := ints_at (HI.out _ q.gr) hkL
      cases hao
      rw [Nat.zero_add] at e0
      have hi64 : r.reverse[k] < 64 := HLT.out _ (List.mem_reverse.1 (List.getElem_mem hkL))
      have HL1 := Lib.hid (lastK_succ r k hkL)
      generalize r.reverse[k] = i at *
      have hi64i : (i : Int) < 64 := by omega
      have hb64 : bs.length < 256 := by omega
      have hwl := wrap_u8 hb64
      have hwi := wrap_u8 (show i < 256 by omega)
      obtain ⟨t0, t1⟩ := q.tab i hi64
      have HS := Lib.hid (q.set hA hi64 bs.length)
      have CHI := Lib.hid (fun wx => CH.out (i : Int) wx)
      rw [hasB_bit hi64] at CHI
      clear q
      go_upto_region 8 with fail
      have q := HS.out
      clear HS t0 t1 e0
      generalize wr.setCell ⟨A, i, none⟩ (.int .u8 (bs.length : Int)) = w5 at *
      go_wp2_with fail
      refine (CHI.out _).mono ?_
      rintro e wq ⟨rfl, rfl⟩
      clear CHI
      cases hw : (wAllN h).testBit i with
      | true =>
        have HR : Hid (bs ++ [i] = (wrOf h (lastK r (k + 1))).reverse ∧ updN F i bs.length = aheadC h (lastK r (k + 1))) := Lib.hid (by
          obtain ⟨a1, a2⟩ := HQ.out
          rw [HL1.out, wrOf_cons, if_pos hw, List.reverse_cons, ← a1, aheadC_upd, ← a2, a1, List.length_reverse]
          exact ⟨rfl, rfl⟩)
        have hown := q.own
        clear HQ HL1 hw
        go_wp2_with (at_builtin; refine wpList_append_own _ rfl _ _ 23 rfl w4.heap.size 5 i0 (.int .u8 0) 1 1 Tryd.underlying23 hi hz0 hz1 hz2 rfl (by decide) _ _ _ rfl (hown.alloc _) ⟨_, 0, none⟩ 1 1 [.int .u8 (i : Int)] rfl rfl ?c1 ?c2 ?c3 ?c4 ?c5 ?_)
        try case c1 => exact cell_one_new _ _ _
        case c2 => first | rfl | (intro u hu; simp at hu; subst hu; rfl)
        case c3 => unfold maxLen; omega
        case c4 => omega
        case c5 => have := q.gr.size; simp; omega
        intro v6 w6 hown6 hg6 _
        have q := q.app hA rfl (by omega) hown6 hg6
        clear hown hown6 hg6
        go_wp2_with fail
        go_roundw
        case rel => exact ⟨k + 1, bs ++ [i], _, by omega, by go_num, by simp; omega, q, HR⟩
        case measure => simp [intOf]; omega
      | false =>
        have HR : Hid (bs = (wrOf h (lastK r (k + 1))).reverse ∧ updN F i bs.length = aheadC h (lastK r (k + 1))) := Lib.hid (by
          obtain ⟨a1, a2⟩ := HQ.out
          rw [HL1.out, wrOf_cons, hw, aheadC_upd, ← a2, a1, List.length_reverse]
          exact ⟨rfl, rfl⟩)
        clear HQ HL1 hw
        go_wp2_with fail
        go_roundw
        case rel => exact ⟨k + 1, bs, _, by omega, by go_num, by omega, q, HR⟩
        case measure => simp [intOf]; omega
    · have hkn : k = r.length := by omega
      have HV : Hid (bs = (wrOf h r).reverse ∧ F = aheadC h r) := Lib.hid (by have := HQ.out; rwa [lastK_all r k hkn] at this)
      have hbl : bs.length ≤ 64 := by omega
      have CA1 := Lib.hid (CA.out _ (HG.out _ q.gr))
      clear HQ hkl hbk CA HI HLT
      subst hkn
      go_wp2_with fail
      refine CA1.out.mono ?_
      rintro e wq ⟨rfl, rfl⟩
      go_wp2_with fail
      refine (CM.out _).mono ?_
      rintro e wq ⟨rfl, rfl⟩
      clear CA1 CM
      cases hpf : reachB C with
      | false =>
        have HE : Hid (keyB h C r = byteB bs) := Lib.hid (by unfold keyB keyL; rw [hpf, HV.out.1]; simp)
        clear CL CH hpf
        have hcv := row_bytes q.own
        have KY := Lib.hid ((HKY.out _ (HKG.out _ q.gr)).set (plS r) (byteB bs))
        obtain ⟨y0, y1, y2, y3⟩ := HKY.out _ (HKG.out _ q.gr)
        have hZ := ((HG.out _ q.gr).setCell (p := ⟨w.heap.size, 0, none⟩) (Nat.le_refl _) (.int .u64 ((plS r : Nat) : Int))).setCell (p := ⟨w.heap.size, 1, none⟩) (Nat.le_refl _) (.string (byteB bs))
        have HZ := Lib.hid hZ
        clear hZ
        go_wp2_with fail
        obtain ⟨d0, d1, _, _⟩ := KY.out
        refine bodyPost_ret (v := .agg #[.int .u64 ((plS r : Nat) : Int), .string (byteB bs)]) ?_ rfl ⟨by rw [HE.out]; rfl, HZ.out⟩
        simp [results, Tryd.results9, go_sem, d0, d1]
      | true =>
        have CL1 := Lib.hid (CL.out _ (HG.out _ q.gr))
        have HE : Hid (keyB h C r = byteB (bs ++ (lst (lackN (plS r) (wAllN h))).map F)) := Lib.hid (by unfold keyB keyL; rw [hpf, HV.out.1, HV.out.2]; simp)
        have HLS : Hid (∀ n ∈ lst (lackN (plS r) (wAllN h)), n < 64) := Lib.hid (fun n hn => (mem_lst.1 hn).1)
        have hll : (lst (lackN (plS r) (wAllN h))).length ≤ 64 := by
          unfold lst lstTo
          exact Nat.le_trans (List.length_filter_le _ _) (by simp)
        have hlk := HLK.out
        clear CL CH hpf HV
        go_wp2_with fail
        clear hlk
        refine CL1.out.mono ?_
        rintro e w7 ⟨vl, rfl, hvl, hb7⟩
        have q := q.below hb7
        clear CL1 hb7
        generalize lst (lackN (plS r) (wAllN h)) = ls at *
        obtain ⟨lo, lc, rfl⟩ := own_form hvl
        generalize wr.heap.size = N7 at *
        go_wp2_with fail
        go_loopw [7, 46] (fun rv iv wx => ∃ (j : Nat) (cs : List Nat), j ≤ ls.length ∧ iv = .int .i64 j ∧ cs.length ≤ 64 + j ∧ OfB w4.heap.size A rv cs F w4 wx ∧ wx.ownsRow N7 3 1 (.slice lo ls.length lc) ls.length (ls.map fun i : Nat => Value.int .i64 (i : Int)) ∧ Hid (cs = bs ++ (ls.take j).map F)) (fun _ iv _ => ls.length - (intOf iv).toNat)
        case atStart => exact ⟨0, bs, Nat.zero_le _, rfl, by omega, q, hvl, Lib.hid (by simp)⟩
        case round =>
          clear q hvl
          obtain ⟨j, cs, hj, rfl, hcl, q, hvl, HC⟩ := hrel
          obtain ⟨ro, rc, rfl⟩ := own_form q.own
          by_cases hjl : j < ls.length
          · have hji : (j : Int) < (ls.length : Int) := by omega
            obtain ⟨ga, oa, hao, e0⟩ := ints_at (Ints.of_nats hvl) hjl
            cases hao
            have hn64 := HLS.out _ (List.getElem_mem hjl)
            have HR : Hid (cs ++ [F ls[j]] = bs ++ (ls.take (j + 1)).map F) := Lib.hid (by rw [HC.out, List.take_succ_eq_append_getElem hjl, List.map_append, List.append_assoc]; rfl)
            generalize ls[j] = n at *
            have hn64i : (n : Int) < 64 := by omega
            obtain ⟨t0, t1⟩ := q.tab n hn64
            generalize F n = x at *
            have hown := q.own
            clear HC t1
            go_wp2_with (at_builtin; refine wpList_append_own _ rfl _ _ 23 rfl w4.heap.size 5 i0 (.int .u8 0) 1 1 Tryd.underlying23 hi hz0 hz1 hz2 rfl (by decide) _ _ _ rfl (hown.alloc _) ⟨_, 0, none⟩ 1 1 [.int .u8 (x : Int)] rfl rfl ?c1 ?c2 ?c3 ?c4 ?c5 ?_)
            try case c1 => exact cell_one_new _ _ _
            case c2 => first | rfl | (intro u hu; simp at hu; subst hu; rfl)
            case c3 => unfold maxLen; omega
            case c4 => omega
            case c5 => have := q.gr.size; simp; omega
            intro v6 w6 hown6 hg6 _
            have hvl := (hvl.alloc (.cells #[.int .u8 (x : Int)] 5)).kept hg6 (owns_apart (hvl.alloc (.cells #[.int .u8 (x : Int)] 5)) (hown.alloc (.cells #[.int .u8 (x : Int)] 5)) (by decide))
            have q := q.app hA rfl (by omega) hown6 hg6
            clear hown hown6 hg6 e0 t0
            go_wp2_with fail
            go_roundw
            case rel => exact ⟨j + 1, cs ++ [x], by omega, by go_num, by simp; omega, q, hvl, HR⟩
            case measure => simp [intOf]; omega
          · have hjn : j = ls.length := by omega
            have HE : Hid (keyB h C r = byteB cs) := Lib.hid (by rw [HE.out, HC.out, List.take_of_length_le (by omega)])
            clear HC hvl hjl
            have hcv := row_bytes q.own
            have KY := Lib.hid ((HKY.out _ (HKG.out _ q.gr)).set (plS r) (byteB cs))
            obtain ⟨y0, y1, y2, y3⟩ := HKY.out _ (HKG.out _ q.gr)
            have hZ := ((HG.out _ q.gr).setCell (p := ⟨w.heap.size, 0, none⟩) (Nat.le_refl _) (.int .u64 ((plS r : Nat) : Int))).setCell (p := ⟨w.heap.size, 1, none⟩) (Nat.le_refl _) (.string (byteB cs))
            have HZ := Lib.hid hZ
            clear hZ
            go_wp2_with fail
            obtain ⟨d0, d1, _, _⟩ := KY.out
            refine bodyPost_ret (v := .agg #[.int .u64 ((plS r : Nat) : Int), .string (byteB cs)]) ?_ rfl ⟨by rw [HE.out]; rfl, HZ.out⟩
            simp [results, Tryd.results9, go_sem, d0, d1]
end
end Go.Proofs.YtecpeegbfeijaaaDoor

namespace Go.Proofs.YtecpeegbfeijaaaDoor
set_option maxRecDepth 100000
open Go.RowKit

/-- A state; what it hangs on lay there in w0. -/
def PlX (w0 : World) (N S B b : Nat) (h : List TxnV) (C : Nat) (r : List Nat) (vb vr : Value) (aF sF : Nat → Nat) (w : World) : Prop :=
  ∃ W, Below w0.heap.size w0 W ∧ W.heap.size = N ∧ PlIs W S B b h C r vb vr aF sF w
/-- From one world to a later one blocks of Q alone are changed. -/
structure ApartQ (Q : Nat → Prop) (w w' : World) : Prop where
  os : w'.os = w.os
  tape : w'.tape = w.tape
  output : w'.output = w.output
  size : w.heap.size ≤ w'.heap.size
  block : ∀ k, k < w.heap.size → ¬ Q k → w'.heap[k]? = w.heap[k]?
theorem ApartQ.of_grown {w w' : World} {T : Nat} (hg : w.grownBy w' (some T)) : ApartQ (fun k => k = T) w w' := ⟨hg.os, hg.tape, hg.output, hg.size, fun k hk hn => hg.block k hk fun e => hn (by injection e)⟩
theorem ApartQ.of_step {S : Nat} {vr vr' : Value} {w w' : World} (k : PlStep S vr vr' w w') : ApartQ (fun x => x = S ∨ vr.ownBlock = some x) w w' := ⟨k.os, k.tape, k.output, k.size, fun x hx hn => k.block x hx (fun e => hn (.inl e)) (fun e => hn (.inr e))⟩
theorem ApartQ.of_below {Q : Nat → Prop} {w w' : World} (hb : Below w.heap.size w w') : ApartQ Q w w' := ⟨hb.os, hb.tape, hb.output, hb.size, fun k hk _ => hb.block k hk⟩
theorem own_block {w w' : World} {base : Nat} {e : TypeId} {size n : Nat} {v : Value} {xs : List Value} (h : w.ownsRow base e size v n xs) (hg : ∀ g, v.ownBlock = some g → w'.heap[g]? = w.heap[g]?) : w'.ownsRow base e size v n xs := by
  refine ⟨h.1, ?_⟩
  rcases h.2 with hn | ⟨g, cap, cur, rfl, hb, hgg, rest⟩
  · exact .inl hn
  · exact .inr ⟨g, cap, cur, rfl, hb, (hg g rfl).trans hgg, rest⟩
section
variable {w0 W w w' : World} {N S B b T : Nat} {h : List TxnV} {C : Nat} {r : List Nat} {vb vr : Value} {aF sF : Nat → Nat}
theorem PlX.below (p : PlX w0 N S B b h C r vb vr aF sF w) (hb : Below w.heap.size w w') : PlX w0 N S B b h C r vb vr aF sF w' := by
  obtain ⟨W, h1, h2, q⟩ := p; exact ⟨W, h1, h2, q.below hb⟩
theorem PlX.lowS (p : PlX w0 N S B b h C r vb vr aF sF w) : N ≤ S ∧ S < w.heap.size ∧ w0.heap.size ≤ N := by
  obtain ⟨W, h1, h2, q⟩ := p; rw [← h2]; exact ⟨q.low, q.a.lt, h1.size⟩
theorem PlX.own (p : PlX w0 N S B b h C r vb vr aF sF w) : (∀ g, vb.ownBlock = some g → S < g ∧ g < w.heap.size) ∧ ∀ g, vr.ownBlock = some g → S < g ∧ g < w.heap.size := by
  obtain ⟨W, h1, h2, q⟩ := p
  exact ⟨fun g hg => q.ba.lt g hg, fun g hg => q.rw.lt g hg⟩
/-- Other blocks are changed. -/
theorem PlX.apart (p : PlX w0 N S B b h C r vb vr aF sF w) (hO : OrdIs w0 B b h) (ht : Tab w0) {Q : Nat → Prop} (hg : ApartQ Q w w') (h0 : ∀ k, Q k → w0.heap.size ≤ k) (hS : ¬ Q S) (hvb : ∀ g, vb.ownBlock = some g → ¬ Q g) (hvr : ∀ g, vr.ownBlock = some g → ¬ Q g) : PlX w0 N S B b h C r vb vr aF sF w' := by
  obtain ⟨W, h1, rfl, q⟩ := p
  have hSl := q.a.lt
  have hlow := q.low
  have hws := q.bel.size
  have hgs := hg.size
  have hsz : (w'.heap.extract 0 W.heap.size).size = W.heap.size := by simp; omega
  have hget : ∀ k, k < W.heap.size → (w'.heap.extract 0 W.heap.size)[k]? = w'.heap[k]? := fun k hk => by
    rw [Array.getElem?_extract]; simp; omega
  have hB : Below w0.heap.size w0 { W with heap := w'.heap.extract 0 W.heap.size } := by
    refine ⟨h1.os, h1.tape, h1.output, ?_, fun k hk => ?_⟩
    · show w0.heap.size ≤ (w'.heap.extract 0 W.heap.size).size
      rw [hsz]; exact h1.size
    · have hkW : k < W.heap.size := Nat.lt_of_lt_of_le hk h1.size
      show (w'.heap.extract 0 W.heap.size)[k]? = _
      rw [hget k hkW, hg.block k (by omega) (fun e => by have := h0 k e; omega), q.bel.block k hkW]
      exact h1.block k hk
  refine ⟨{ W with heap := w'.heap.extract 0 W.heap.size }, hB, hsz, hO.below hB, ht.below hB ht.pos, ?_, ?_, ?_, ?_, ?_, q.ne, q.set, q.eq, q.nd, q.lt, q.base⟩
  · refine ⟨hg.os.trans q.bel.os, hg.tape.trans q.bel.tape, hg.output.trans q.bel.output, ?_, fun k hk => ?_⟩
    · show (w'.heap.extract 0 W.heap.size).size ≤ _
      rw [hsz]; omega
    · have hk : k < W.heap.size := by rw [← hsz]; exact hk
      exact (hget k hk).symm
  · show (w'.heap.extract 0 W.heap.size).size ≤ S
    rw [hsz]; exact hlow
  · intro i hi
    obtain ⟨a1, a2⟩ := q.a i hi
    have hb := hg.block S hSl hS
    exact ⟨(World.cell?_of_block (a := ⟨S, i, none⟩) hb).trans a1, (World.frozen?_of_block (a := ⟨S, i, none⟩) hb).trans a2⟩
  · exact own_block q.ba fun g e => hg.block g (q.ba.lt g e).2 (hvb g e)
  · exact own_block q.rw fun g e => hg.block g (q.rw.lt g e).2 (hvr g e)
end
end Go.Proofs.YtecpeegbfeijaaaDoor

namespace Go.Proofs.YtecpeegbfeijaaaDoor
set_option maxRecDepth 100000
open Go.RowKit

theorem heap_set_far (w : World) (p : Addr) (u : Value) (k : Nat) (hk : k ≠ p.block) : (w.setCell p u).heap[k]? = w.heap[k]? := Below.heap_setCell w p u k (fun e => hk e)
theorem PlStep.setCell {S : Nat} {v1 v2 : Value} {w w' : World} (h : PlStep S v1 v2 w w') (o : Nat) (u : Value) : PlStep S v1 v2 w (w'.setCell ⟨S, o, none⟩ u) := by
  refine ⟨h.os, h.tape, h.output, by have := h.size; simpa using this, fun k hk hs hv => ?_, h.own⟩
  rw [heap_set_far w' ⟨S, o, none⟩ u k hs]
  exact h.block k hk hs hv
theorem PlStep.below {S : Nat} {v1 v2 : Value} {w w' w'' : World} (h : PlStep S v1 v2 w w') (hb : Below w'.heap.size w' w'') : PlStep S v1 v2 w w'' := h.trans (.of_below hb)
theorem PlStep.grown {S : Nat} {v1 v2 v3 : Value} {w w' w'' : World} (h : PlStep S v1 v2 w w') (hg : w'.grownBy w'' v2.ownBlock) (ho : ∀ g, v3.ownBlock = some g → v2.ownBlock = some g ∨ g = w'.heap.size) : PlStep S v1 v3 w w'' := by
  refine ⟨hg.os.trans h.os, hg.tape.trans h.tape, hg.output.trans h.output, Nat.le_trans h.size hg.size, fun k hk hs hv => ?_, fun g hgo => ?_⟩
  · refine (hg.block k (Nat.lt_of_lt_of_le hk h.size) (fun e => ?_)).trans (h.block k hk hs hv)
    rcases h.own k e.symm with q | q
    · exact hv q
    · omega
  · rcases ho g hgo with q | q
    · exact h.own g q
    · exact .inr (by have := h.size; omega)
theorem PlStep.as {S : Nat} {v1 v2 v3 : Value} {w w' : World} (h : PlStep S v1 v2 w w') (e : v3.ownBlock = v2.ownBlock) : PlStep S v1 v3 w w' := ⟨h.os, h.tape, h.output, h.size, h.block, fun g hg => h.own g (by rw [← e]; exact hg)⟩
theorem owns_less {w : World} {base n cap : Nat} {e : TypeId} {ao : Option Addr} {xs : List Value} {x : Value} (h : w.ownsRow base e 1 (.slice ao (n + 1) cap) (n + 1) (xs ++ [x])) : w.ownsRow base e 1 (.slice ao n cap) n xs := by
  obtain ⟨hl, h⟩ := h
  have hn : xs.length = n := by simp at hl; omega
  refine ⟨by omega, ?_⟩
  rcases h with ⟨hv, h0⟩ | ⟨g, cap', cur, hv, hb, hh, hc, hm, hs, ht⟩
  · omega
  · obtain ⟨e1, e2, e3⟩ : ao = some ⟨g, 0, none⟩ ∧ n + 1 = n + 1 ∧ cap = cap' := by simpa using hv
    subst e1 e3
    refine .inr ⟨g, cap, cur, rfl, hb, hh, by omega, hm, hs, ?_⟩
    have := congrArg (List.take (n * 1)) ht
    rw [List.take_take, Nat.min_eq_left (by omega)] at this
    rw [this, Nat.mul_one, ← hn, List.take_left]
theorem own_len (ao : Option Addr) (n m c d : Nat) : (Value.slice ao n c).ownBlock = (Value.slice ao m d).ownBlock := by cases ao <;> rfl
section
variable {W : World} {S B b : Nat} {h : List TxnV} {C : Nat} {r : List Nat} {vb vr : Value} {aF sF : Nat → Nat} {w : World}
theorem PlIs.undo {i : Nat} {ao : Option Addr} {cap : Nat} (p : PlIs W S B b h C (i :: r) vb (.slice ao (r.length + 1) cap) aF sF w) :
    PlIs W S B b h C r vb (.slice ao r.length cap) aF sF ((w.setCell ⟨S, 3, none⟩ (.slice ao r.length cap)).setCell ⟨S, 4, none⟩ (.int .u64 ((plS r : Nat) : Int))) ∧
    PlStep S (.slice ao (r.length + 1) cap) (.slice ao r.length cap) w ((w.setCell ⟨S, 3, none⟩ (.slice ao r.length cap)).setCell ⟨S, 4, none⟩ (.int .u64 ((plS r : Nat) : Int))) := by
  obtain ⟨hi, hnd⟩ := List.nodup_cons.1 p.nd
  have hrw := p.rw
  rw [List.reverse_cons, List.map_append, List.length_cons] at hrw
  have hne : ∀ k ∈ r, k ≠ i := fun k hk e => hi (by rw [← e]; exact hk)
  refine ⟨⟨p.o, p.t, (p.bel.setCell (p := ⟨S, 3, none⟩) p.low _).setCell (p := ⟨S, 4, none⟩) p.low _, p.low, (p.a.setR _).setP _, pl_far (pl_far p.ba (by simp) _) (by simp) _, pl_far (pl_far (owns_less hrw) (by simp) _) (by simp) _, fun g hg e => p.ne g hg (by rw [own_len ao (r.length + 1) r.length cap cap]; exact e), p.set, fun k hk => ?_, hnd, fun k hk => p.lt k (List.mem_cons_of_mem _ hk), (base_tail hi p.base).1⟩, ?_⟩
  · have := p.eq k (List.mem_cons_of_mem _ hk)
    rw [aheadL_tail (hne k hk), plSee_tail (hne k hk)] at this
    exact this
  · exact (((PlStep.refl S _ w).setCell 3 _).setCell 4 _).as (own_len _ _ _ _ _)
/-- A state while one is placed. -/
structure PlRaw (W : World) (S B C : Nat) (h : List TxnV) (r : List Nat) (vb vr : Value) (aF sF : Nat → Nat) (w0 w : World) : Prop where
  bel : Below W.heap.size W w
  low : W.heap.size ≤ S
  a : PlAt w S B C vb vr (plS r) aF sF
  ba : w.ownsRow (S + 1) 36 1 vb h.length ((List.range h.length).map fun i => .int .u64 ((baseN h C i : Nat) : Int))
  rw : w.ownsRow (S + 1) 3 1 vr r.length (r.reverse.map fun i : Nat => .int .i64 (i : Int))
  st : PlStep S vr vr w0 w
theorem PlIs.raw (p : PlIs W S B b h C r vb vr aF sF w) : PlRaw W S B C h r vb vr aF sF w w := ⟨p.bel, p.low, p.a, p.ba, p.rw, .refl _ _ _⟩
section
variable {w0 w' : World}
theorem PlRaw.below (p : PlRaw W S B C h r vb vr aF sF w0 w) (hb : Below w.heap.size w w') : PlRaw W S B C h r vb vr aF sF w0 w' :=
  ⟨p.bel.trans (hb.mono p.bel.size), p.low, p.a.below hb p.a.lt, owns_below p.ba hb, owns_below p.rw hb, p.st.below hb⟩
theorem PlRaw.setA (p : PlRaw W S B C h r vb vr aF sF w0 w) {k : Nat} (hk : k < 64) (s : Nat) : PlRaw W S B C h r vb vr (updN aF k s) sF w0 (w.setCell ⟨S, 5 + k, none⟩ (.int .u64 (s : Int))) :=
  ⟨p.bel.setCell (p := ⟨S, 5 + k, none⟩) p.low _, p.low, p.a.setA hk s, pl_far p.ba (by simp) _, pl_far p.rw (by simp) _, p.st.setCell _ _⟩
theorem PlRaw.setS (p : PlRaw W S B C h r vb vr aF sF w0 w) {k : Nat} (hk : k < 64) (s : Nat) : PlRaw W S B C h r vb vr aF (updN sF k s) w0 (w.setCell ⟨S, 69 + k, none⟩ (.int .u64 (s : Int))) :=
  ⟨p.bel.setCell (p := ⟨S, 69 + k, none⟩) p.low _, p.low, p.a.setS hk s, pl_far p.ba (by simp) _, pl_far p.rw (by simp) _, p.st.setCell _ _⟩
theorem updN_same (F : Nat → Nat) (i s : Nat) : updN F i s i = s := by unfold updN; rw [if_pos rfl]
theorem updN_other (F : Nat → Nat) {i k : Nat} (s : Nat) (hk : k ≠ i) : updN F i s k = F k := by unfold updN; rw [if_neg hk]
/-- One is placed: what lies there behind the append. -/
theorem PlRaw.app (p : PlRaw W S B C h r vb vr aF sF w0 w) (hne : ∀ g, vb.ownBlock = some g → vr.ownBlock ≠ some g) {w5 : World} {g cap n : Nat} {xs : List Value} (hown : w5.ownsRow (S + 1) 3 1 (.slice (some ⟨g, 0, none⟩) n cap) n xs) (hg : w.grownBy w5 vr.ownBlock) (hl : vr.ownBlock = some g ∨ g = w.heap.size) :
    Below W.heap.size W w5 ∧ PlAt w5 S B C vb vr (plS r) aF sF ∧ w5.ownsRow (S + 1) 36 1 vb h.length ((List.range h.length).map fun i => .int .u64 ((baseN h C i : Nat) : Int)) ∧ PlStep S vr (.slice (some ⟨g, 0, none⟩) n cap) w0 w5 ∧ ∀ k, vb.ownBlock = some k → k ≠ g := by
  have hS : vr.ownBlock ≠ some S := fun e => by have := (p.rw.lt _ e).1; omega
  refine ⟨p.bel.grown hg p.bel.size (fun k hk => ?_), p.a.grown hg (fun e => hS e.symm), p.ba.kept hg ?_, p.st.grown hg (fun k hk => ?_), fun k hk e => ?_⟩
  · have := (p.rw.lt _ hk).1
    have := p.low
    omega
  · cases hb : vb.ownBlock with
    | none => exact .inl rfl
    | some k => exact .inr (fun e => hne k hb e.symm)
  · have e : g = k := by injection hk
    rcases hl with q | q
    · exact .inl (by rw [← e]; exact q)
    · exact .inr (by omega)
  · subst e
    rcases hl with q | q
    · exact hne k hk q
    · have := (p.ba.lt _ hk).2
      omega
theorem PlIs.done (p : PlIs W S B b h C r vb vr aF sF w) {i s : Nat} (hi : i < h.length) (hin : i ∉ r) (hbs : ∀ j, (baseN h C i).testBit j = true → (plS r).testBit j = true) (h64 : h.length ≤ 64) (hs : s = nextN h C r i) {w4 w5 : World} (q : PlRaw W S B C h r vb vr (updN aF i (plS r)) (updN sF i s) w w4)
    {g cap : Nat} (hown : w5.ownsRow (S + 1) 3 1 (.slice (some ⟨g, 0, none⟩) (r.length + 1) cap) (r.length + 1) ((r.reverse.map fun i : Nat => .int .i64 (i : Int)) ++ [.int .i64 (i : Int)])) (hg : w4.grownBy w5 vr.ownBlock) (hl : vr.ownBlock = some g ∨ g = w4.heap.size) :
    PlIs W S B b h C (i :: r) vb (.slice (some ⟨g, 0, none⟩) (r.length + 1) cap) (updN aF i (plS r)) (updN sF i s) ((w5.setCell ⟨S, 3, none⟩ (.slice (some ⟨g, 0, none⟩) (r.length + 1) cap)).setCell ⟨S, 4, none⟩ (.int .u64 ((plS (i :: r) : Nat) : Int))) ∧
    PlStep S vr (.slice (some ⟨g, 0, none⟩) (r.length + 1) cap) w ((w5.setCell ⟨S, 3, none⟩ (.slice (some ⟨g, 0, none⟩) (r.length + 1) cap)).setCell ⟨S, 4, none⟩ (.int .u64 ((plS (i :: r) : Nat) : Int))) := by
  obtain ⟨b5, a5, v5, s5, n5⟩ := q.app p.ne hown hg hl
  have hi64 : i < 64 := by omega
  have hset : IsSet s := by rw [hs]; exact wld4_set (baseN_set h C i) (plS_set r) (rivN_set h i) (fun k _ => plSee_set h C r k) (fun k _ => aheadL_set r k)
  refine ⟨⟨p.o, p.t, (b5.setCell (p := ⟨S, 3, none⟩) p.low _).setCell (p := ⟨S, 4, none⟩) p.low _, p.low, (a5.setR _).setP _, pl_far (pl_far v5 (by simp) _) (by simp) _, ?_, fun k hk e => n5 k hk (by injection e with e; exact e.symm), fun k hk => ?_, fun k hk => ?_, List.nodup_cons.2 ⟨hin, p.nd⟩, fun k hk => ?_, fun k hk j hj => ?_⟩, (s5.setCell 3 _).setCell 4 _⟩
  · rw [List.reverse_cons, List.map_append, List.length_cons]
    exact pl_far (pl_far hown (by simp) _) (by simp) _
  · by_cases e : k = i
    · subst e; rw [updN_same, updN_same]; exact ⟨plS_set r, hset⟩
    · rw [updN_other _ _ e, updN_other _ _ e]; exact p.set k hk
  · by_cases e : k = i
    · subst e
      rw [updN_same, updN_same, aheadL, if_pos rfl, plSee, if_pos rfl, hs]
      exact ⟨rfl, rfl⟩
    · rw [updN_other _ _ e, updN_other _ _ e, aheadL_tail e, plSee_tail e]
      rcases List.mem_cons.1 hk with q | q
      · exact (e q).elim
      · exact p.eq k q
  · rcases List.mem_cons.1 hk with q | q
    · omega
    · exact p.lt k q
  · by_cases e : k = i
    · subst e
      rw [aheadL, if_pos rfl]
      exact hbs j hj
    · rw [aheadL_tail e]
      rcases List.mem_cons.1 hk with q | q
      · exact (e q).elim
      · exact p.base k q j hj
end
end
end Go.Proofs.YtecpeegbfeijaaaDoor
