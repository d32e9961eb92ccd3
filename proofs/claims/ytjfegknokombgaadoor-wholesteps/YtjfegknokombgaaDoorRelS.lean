/- The walk of the statement on a relation's parts: it answers true. Condition: First's library table lies where it is laid; slices' cells are known. -/
import Derived.Test.YtjfegknokombgaaDoorRelR
import Derived.Deep.AppendLies
namespace Go.Proofs.YtjfegknokombgaaDoor
set_option maxRecDepth 100000
open Go.RowKit

/-- Both relations and both lists of pairs lie where they lie; nothing older has changed. -/
def St (w0 : World) (g h : Nat) (R S : Mat) (v x : Value) (m n : List Pr) (w : World) : Prop :=
  RelAt w g 27 R ∧ RelAt w h 27 S ∧ Prs w v m ∧ Prs w x n ∧ Below w0.heap.size w0 w
theorem St.below {w0 : World} {g h : Nat} {R S : Mat} {v x : Value} {m n : List Pr} {w w' : World} (hs : St w0 g h R S v x m n w) (hb : Below w.heap.size w w') : St w0 g h R S v x m n w' :=
  ⟨hs.1.below hb hs.1.lt, hs.2.1.below hb hs.2.1.lt, hs.2.2.1.below hb, hs.2.2.2.1.below hb, hs.2.2.2.2.trans (hb.mono hs.2.2.2.2.size)⟩
theorem St.alloc {w0 : World} {g h : Nat} {R S : Mat} {v x : Value} {m n : List Pr} {w : World} (hs : St w0 g h R S v x m n w) (o : Obj) : St w0 g h R S v x m n (w.alloc o) :=
  hs.below ((Below.refl _ _).alloc (Nat.le_refl _) _)
theorem swapP_succ (m : List Pr) (k : Nat) (hk : k < m.length) : swapP (m.take (k + 1)) = swapP (m.take k) ++ [(m[k].2, m[k].1)] := by
  unfold swapP
  rw [List.take_succ_eq_append_getElem hk, List.map_append]; rfl
/-- A slice of pairs lies where it lies, whatever becomes of one block. -/
def Off (q : Nat) (w : World) (v : Value) (l : List Pr) : Prop := ∀ w', w.grownBy w' (some q) → Prs w' v l
theorem grownBy_of_below {w w' : World} (hb : Below w.heap.size w w') (q : Option Nat) : w.grownBy w' q := ⟨hb.os, hb.tape, hb.output, hb.size, fun k hk _ => hb.block k hk⟩
theorem Off.prs {q : Nat} {w : World} {v : Value} {l : List Pr} (h : Off q w v l) : Prs w v l := h w (World.grownBy.refl _ _)
theorem Off.below {q : Nat} {w w' : World} {v : Value} {l : List Pr} (h : Off q w v l) (hb : Below w.heap.size w w') : Off q w' v l :=
  fun w2 hg => h w2 ((grownBy_of_below hb (some q)).trans hg)
theorem Off.of_owns {q base : Nat} {w : World} {e : TypeId} {v : Value} {n : Nat} {l : List Pr} (h : w.ownsRow base e 2 v n (prV l)) (hq : q < base) : Off q w v l :=
  fun w2 hg => Prs.of_owns (h.kept hg (by
    rcases ho : v.ownBlock with _ | g
    · exact .inl rfl
    · right; have := (h.lt g ho).1; intro e; cases e; omega))
theorem Off.of_prs {q : Nat} {w w1 : World} {v : Value} {l : List Pr} (h : Prs w v l) (hb : Below w.heap.size w w1) (hq : w.heap.size ≤ q) : Off q w1 v l :=
  fun w2 hg => h.below ⟨hg.os.trans hb.os, hg.tape.trans hb.tape, hg.output.trans hb.output, Nat.le_trans hb.size hg.size, fun k hk => (hg.block k (Nat.lt_of_lt_of_le hk hb.size) (by intro e; cases e; omega)).trans (hb.block k hk)⟩
set_option maxHeartbeats 1000000 in
theorem put_off (q : Nat) (v : Value) (l : List Pr) (a b : Int) (w : World) (ho : Off q w v l) (hlen : l.length ≤ 1000000000) (hq : q < w.heap.size) :
    Calls Tryd.prog 49 #[v, .int .i64 a, .int .i64 b] w fun e w' => ∃ v', e = .returned v' ∧ Off q w' v' (putP l a b) ∧ Below w.heap.size w w' := by
  obtain ⟨i0, hi, hz0, hz1, hz2⟩ := info_parts infoPair
  have hv := ho.prs
  have HO := Lib.hid ho
  clear ho
  have C := phas_any v l a b w hv
  cases hh : hasP l a b
  · have HP : Hid (putP l a b = l ++ [(a, b)]) := Lib.hid (by unfold putP; rw [hh]; rfl)
    rw [hh] at C
    have CH := Lib.hid C
    clear C hh
    go_enter Tryd.func49, Tryd.ntmps49
    go_wp2_with fail
    refine (CH.out).mono ?_
    rintro e w' ⟨rfl, rfl⟩
    go_wp2_with (at_builtin; refine wpList_append_row rfl _ _ 22 rfl w.heap.size 61 i0 (.agg #[.int .i64 0, .int .i64 0]) 2 16 Tryd.underlying22 hi hz0 hz1 hz2 rfl (by decide) _ 0 [] rfl (World.ownsRow_lit _ _ _ (Nat.le_refl _) (by decide) rfl) _ l.length _ rfl (hv.below ((Below.refl _ _).alloc (Nat.le_refl _) _)) ?c1 ?c2 ?c3 ?c4 ?_)
    case c1 => exact prV_oneCell _
    case c2 => unfold maxLen; omega
    case c3 => omega
    case c4 => simp
    intro v5 w5 hown5 hg5
    have hb5 : Below w.heap.size w w5 := ((Below.refl w.heap.size w).alloc (Nat.le_refl _) _).grown hg5 (by simp) (by intro k hk; simp [Value.ownBlock] at hk; omega)
    clear hg5
    have hsz := hb5.size
    have hown5' : w5.ownsRow w.heap.size 61 2 v5 l.length (prV l) := by simpa using hown5
    clear hown5
    go_wp2_with (at_builtin; refine wpList_append_row rfl _ _ 22 rfl w.heap.size 61 i0 (.agg #[.int .i64 0, .int .i64 0]) 2 16 Tryd.underlying22 hi hz0 hz1 hz2 rfl (by decide) _ _ _ rfl (hown5'.alloc _) _ 1 _ rfl (Row.of_owns (Prs.lit w5 0 a b (Nat.zero_le _))) ?d1 ?d2 ?d3 ?d4 ?_)
    case d1 => exact prV_oneCell _
    case d2 => unfold maxLen; omega
    case d3 => omega
    case d4 => simp; omega
    intro v6 w6 hown6 hg6
    have hb6 := below_app hb5 (Nat.le_refl _) hown5' hg6
    clear hg6 hown5' hb5
    go_wp2
    go_ret
    refine ⟨_, rfl, ?_, hb6⟩
    rw [HP.out]
    rw [← prV_append] at hown6
    exact Off.of_owns hown6 hq
  · have HP : Hid (putP l a b = l) := Lib.hid (by unfold putP; rw [hh]; rfl)
    rw [hh] at C
    have CH := Lib.hid C
    clear C hh
    go_enter Tryd.func49, Tryd.ntmps49
    go_wp2_with fail
    refine (CH.out).mono ?_
    rintro e w' ⟨rfl, rfl⟩
    go_wp2_with fail
    go_ret
    exact ⟨_, rfl, by rw [HP.out]; exact HO.out, Below.refl _ _⟩
end Go.Proofs.YtjfegknokombgaaDoor
