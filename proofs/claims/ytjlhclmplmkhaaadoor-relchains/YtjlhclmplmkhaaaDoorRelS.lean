/- The walk of the statement on a relation's parts: it answers true. Condition: First's library table lies where it is laid; slices' cells are known. -/
import Derived.Test.YtjlhclmplmkhaaaDoorRelR
import Derived.Deep.AppendLies
namespace Go.Proofs.YtjlhclmplmkhaaaDoor
open Go.RowKit

/-- Both relations and both lists of pairs lie where they lie; nothing older has changed. -/
def St (w0 : World) (g h : Nat) (R S : Mat) (v x : Value) (m n : List Pr) (w : World) : Prop :=
  RelAt w g 42 R ∧ RelAt w h 42 S ∧ Prs w v m ∧ Prs w x n ∧ Below w0.heap.size w0 w
theorem St.below {w0 : World} {g h : Nat} {R S : Mat} {v x : Value} {m n : List Pr} {w w' : World} (hs : St w0 g h R S v x m n w) (hb : Below w.heap.size w w') : St w0 g h R S v x m n w' :=
  ⟨hs.1.below hb hs.1.lt, hs.2.1.below hb hs.2.1.lt, hs.2.2.1.below hb, hs.2.2.2.1.below hb, hs.2.2.2.2.trans (hb.mono hs.2.2.2.2.size)⟩
theorem St.alloc {w0 : World} {g h : Nat} {R S : Mat} {v x : Value} {m n : List Pr} {w : World} (hs : St w0 g h R S v x m n w) (o : Obj) : St w0 g h R S v x m n (w.alloc o) :=
  hs.below ((Below.refl _ _).alloc (Nat.le_refl _) _)
theorem swapP_succ (m : List Pr) (k : Nat) (hk : k < m.length) : swapP (m.take (k + 1)) = swapP (m.take k) ++ [(m[k].2, m[k].1)] := by
  unfold swapP
  rw [List.take_succ_eq_append_getElem hk, List.map_append]; rfl
/-- A slice of pairs lies where it lies, whatever becomes of one block. -/
def Off (q : Nat) (w : World) (v : Value) (l : List Pr) : Prop := ∀ w', w.grownBy w' (some q) → Prs w' v l
theorem grownBy_of_below {w w' : World} (hb : Below w.heap.size w w') (q : Option Nat) : w.grownBy w' q := ⟨hb.os, hb.tape, hb.output, hb.size, fun k hk _ => hb.block k hk⟩
theorem Off.prs {q : Nat} {w : World} {v : Value} {l : List Pr} (h : Off q w v l) : Prs w v l := h w (World.grownBy.refl _ _)
theorem Off.below {q : Nat} {w w' : World} {v : Value} {l : List Pr} (h : Off q w v l) (hb : Below w.heap.size w w') : Off q w' v l :=
  fun w2 hg => h w2 ((grownBy_of_below hb (some q)).trans hg)
theorem Off.of_owns {q base : Nat} {w : World} {e : TypeId} {v : Value} {n : Nat} {l : List Pr} (h : w.ownsRow base e 2 v n (prV l)) (hq : q < base) : Off q w v l :=
  fun w2 hg => Prs.of_owns (h.kept hg (by
    rcases ho : v.ownBlock with _ | g
    · exact .inl rfl
    · right; have := (h.lt g ho).1; intro e; cases e; omega))
theorem Off.of_prs {q : Nat} {w w1 : World} {v : Value} {l : List Pr} (h : Prs w v l) (hb : Below w.heap.size w w1) (hq : w.heap.size ≤ q) : Off q w1 v l :=
  fun w2 hg => h.below ⟨hg.os.trans hb.os, hg.tape.trans hb.tape, hg.output.trans hb.output, Nat.le_trans hb.size hg.size, fun k hk => (hg.block k (Nat.lt_of_lt_of_le hk hb.size) (by intro e; cases e; omega)).trans (hb.block k hk)⟩
set_option maxHeartbeats 1000000 in
theorem put_off (q : Nat) (v : Value) (l : List Pr) (a b : Int) (w : World) (ho : Off q w v l) (hlen : l.length ≤ 1000000000) (hq : q < w.heap.size) :
    Calls Tryd.prog 30 #[v, .int .i64 a, .int .i64 b] w fun e w' => ∃ v', e = .returned v' ∧ Off q w' v' (putP l a b) ∧ Below w.heap.size w w' := by
  obtain ⟨i0, hi, hz0, hz1, hz2⟩ := info_parts infoPair
  have hv := ho.prs
  have HO := Lib.hid ho
  clear ho
  have C := phas_any v l a b w hv
  cases hh : hasP l a b
  · have HP : Hid (putP l a b = l ++ [(a, b)]) := Lib.hid (by unfold putP; rw [hh]; rfl)
    rw [hh] at C
    have CH := Lib.hid C
    clear C hh
    go_enter Tryd.func30, Tryd.ntmps30
    go_wp2_with fail
    refine (CH.out).mono ?_
    rintro e w' ⟨rfl, rfl⟩
    go_wp2_with (at_builtin; refine wpList_append_row rfl _ _ 40 rfl w.heap.size 47 i0 (.agg #[.int .i64 0, .int .i64 0]) 2 16 Tryd.underlying40 hi hz0 hz1 hz2 rfl (by decide) _ 0 [] rfl (World.ownsRow_lit _ _ _ (Nat.le_refl _) (by decide) rfl) _ l.length _ rfl (hv.below ((Below.refl _ _).alloc (Nat.le_refl _) _)) ?c1 ?c2 ?c3 ?c4 ?_)
    case c1 => exact prV_oneCell _
    case c2 => unfold maxLen; omega
    case c3 => omega
    case c4 => simp
    intro v5 w5 hown5 hg5
    have hb5 : Below w.heap.size w w5 := ((Below.refl w.heap.size w).alloc (Nat.le_refl _) _).grown hg5 (by simp) (by intro k hk; simp [Value.ownBlock] at hk; omega)
    clear hg5
    have hsz := hb5.size
    have hown5' : w5.ownsRow w.heap.size 47 2 v5 l.length (prV l) := by simpa using hown5
    clear hown5
    go_wp2_with (at_builtin; refine wpList_append_row rfl _ _ 40 rfl w.heap.size 47 i0 (.agg #[.int .i64 0, .int .i64 0]) 2 16 Tryd.underlying40 hi hz0 hz1 hz2 rfl (by decide) _ _ _ rfl (hown5'.alloc _) _ 1 _ rfl (Row.of_owns (Prs.lit w5 0 a b (Nat.zero_le _))) ?d1 ?d2 ?d3 ?d4 ?_)
    case d1 => exact prV_oneCell _
    case d2 => unfold maxLen; omega
    case d3 => omega
    case d4 => simp; omega
    intro v6 w6 hown6 hg6
    have hb6 := below_app hb5 (Nat.le_refl _) hown5' hg6
    clear hg6 hown5' hb5
    go_wp2
    go_ret
    refine ⟨_, rfl, ?_, hb6⟩
    rw [HP.out]
    rw [← prV_append] at hown6
    exact Off.of_owns hown6 hq
  · have HP : Hid (putP l a b = l) := Lib.hid (by unfold putP; rw [hh]; rfl)
    rw [hh] at C
    have CH := Lib.hid C
    clear C hh
    go_enter Tryd.func30, Tryd.ntmps30
    go_wp2_with fail
    refine (CH.out).mono ?_
    rintro e w' ⟨rfl, rfl⟩
    go_wp2_with fail
    go_ret
    exact ⟨_, rfl, by rw [HP.out]; exact HO.out, Below.refl _ _⟩
set_option maxRecDepth 100000 in
set_option maxHeartbeats 8000000 in
theorem rparts_walk (va vb : Value) (la lb : List Pr) (w : World) (ht : Tab w) (ha : Prs w va la) (hb : Prs w vb lb) :
    Calls Tryd.prog 6 #[va, vb] w fun e w' => e = .returned (.bool true) ∧ Below w.heap.size w w' := by
  obtain ⟨i0, hi, hz0, hz1, hz2⟩ := info_parts infoPair
  have hg := ht.pos
  have HT : Hid (∀ wx, Below w.heap.size w wx → Tab wx) := Lib.hid (fun wx hb => ht.below hb hg)
  clear ht
  obtain ⟨ao, acap, rfl, hal⟩ := ha.form
  obtain ⟨bo, bcap, rfl, hbl⟩ := hb.form
  by_cases hbig : 30 < la.length ∨ 30 < lb.length
  · go_enter Tryd.func6, Tryd.ntmps6
    go_wp2_with fail
    refine (speaks2_any w (HT.out _ (Below.refl _ _))).mono ?_
    rintro e w1 ⟨rfl, hb1⟩
    by_cases h1 : 30 < la.length
    · go_wp2_with fail
      go_ret
      exact ⟨rfl, hb1⟩
    · have h2 : 30 < lb.length := by omega
      go_wp2_with fail
      go_ret
      exact ⟨rfl, hb1⟩
  have hla : la.length ≤ 30 := by omega
  have hlb : lb.length ≤ 30 := by omega
  clear hbig
  go_enter Tryd.func6, Tryd.ntmps6
  go_wp2_with fail
  refine (speaks2_any w (HT.out _ (Below.refl _ _))).mono ?_
  rintro e w1 ⟨rfl, hb1⟩
  have ha1 := ha.below hb1
  have hbb1 := hb.below hb1
  clear ha hb
  go_wp2_with fail
  refine (of2_any _ la w1 ha1 (by omega)).mono ?_
  rintro e w2 ⟨v6, rfl, hp2, hb2⟩
  have hbB := hb1.trans (hb2.mono hb1.size)
  have hbb2 := hbb1.below hb2
  have HR := Lib.hid (rep_of la)
  have hml := ofP_len la
  clear ha1 hb1 hb2 hbb1
  generalize ofP la = m at *
  generalize addAll noR la = R at *
  obtain ⟨mo, mcap, rfl, _⟩ := hp2.form
  have hz := zero_block w2
  have hz2 := hz.setRow R
  have hzb := zero_below w2 R
  have hp3 := hp2.below hzb
  have hbb3 := hbb2.below hzb
  have hb3 := hbB.trans (hzb.mono hbB.size)
  clear hp2 hbB hzb hbb2
  go_wp2_with (with_reducible refine wpList_store_rel hz R rfl _ _ rfl rfl rfl ?_)
  clear hz
  generalize World.setRow _ _ _ = w3 at *
  refine (of2_any _ lb w3 hbb3 (by omega)).mono ?_
  rintro e w4 ⟨v9, rfl, hp4, hb4⟩
  have hm4 := hp3.below hb4
  have hr4 := hz2.below hb4 hz2.lt
  have hbB := hb3.trans (hb4.mono hb3.size)
  have HS := Lib.hid (rep_of lb)
  have hnl := ofP_len lb
  clear hp3 hz2 hb3 hb4 hbb3
  generalize ofP lb = n at *
  generalize addAll noR lb = S at *
  obtain ⟨no, ncap, rfl, _⟩ := hp4.form
  have hz := zero_block w4
  have hz2 := hz.setRow S
  have hzb := zero_below w4 S
  have hst := (show St w w2.heap.size w4.heap.size R S (.slice mo m.length mcap) (.slice no n.length ncap) m n _ from ⟨hr4.below hzb hr4.lt, hz2, hm4.below hzb, hp4.below hzb, hbB.trans (hzb.mono hbB.size)⟩)
  clear hp4 hm4 hr4 hbB hzb
  have h5 := hst.1
  go_wp2_with (first
    | (with_reducible refine wpList_store_rel hz S rfl _ _ rfl rfl rfl ?_)
    | (with_reducible refine wpList_load_rel_g h5 _ rfl (by kernel_rfl) rfl ?_))
  clear hz h5 hz2
  generalize World.setRow _ _ _ = w5 at *
  have CSM : Hid (∀ (W : World) (v : Value) (Q : Mat) (l : List Pr), Rep Q l → Prs W v l → Calls Tryd.prog 29 #[.agg (rowsA Q), v] W fun e w' => e = .returned (.bool true) ∧ Below W.heap.size W w') := Lib.hid (fun W v Q l hq hp => by
    have h := same2_any Q v l W hp
    rwa [same_rep hq] at h)
  refine (CSM.out w5 _ R m HR.out hst.2.2.1).mono ?_
  rintro e w6 ⟨rfl, hb6⟩
  have hs6 := hst.below hb6
  clear hst hb6
  go_wp2_with fail
  have HST : Hid (∀ wx, Below w6.heap.size w6 wx → St w w2.heap.size w4.heap.size R S (.slice mo m.length mcap) (.slice no n.length ncap) m n wx) := Lib.hid (fun wx hb => hs6.below hb)
  have hpm := hs6.2.2.1
  clear hs6
  have hm30 : m.length ≤ 30 := by omega
  have hn30 : n.length ≤ 30 := by omega
  go_loopw [11, 56] (fun v i wr => ∃ k : Nat, k ≤ n.length ∧ i = .int .i64 k ∧ Off w6.heap.size wr v (putAll m (n.take k)) ∧ wr.ownsRow w6.heap.size 47 2 (.slice (some ⟨w6.heap.size, 0, none⟩) 0 0) 0 [] ∧ Below w6.heap.size w6 wr ∧ w6.heap.size < wr.heap.size) (fun _ i _ => n.length - (intOf i).toNat)
  case atStart =>
    refine ⟨0, by omega, rfl, ?_, World.ownsRow_lit _ _ _ (Nat.le_refl _) (by simp) (by simp), (Below.refl _ _).alloc (Nat.le_refl _) _, by simp⟩
    exact Off.of_prs hpm ((Below.refl _ _).alloc (Nat.le_refl _) _) (Nat.le_refl _)
  case round =>
    obtain ⟨k, hk, rfl, hoff, hown, hb6, hlt6⟩ := hrel
    by_cases hlt : k < n.length
    · have hki : (k : Int) < (n.length : Int) := by omega
      obtain ⟨p, off, hao, hc1, hc2⟩ := (HST.out _ hb6).2.2.2.1.at hlt
      cases hao
      have HS := Lib.hid (putAll_succ m n k hlt)
      have hlen := (putAll_len (n.take k) m).1
      have hlen2 : (n.take k).length ≤ n.length := by simp; omega
      have HP := Lib.hid hoff
      have HOwn := Lib.hid hown
      clear hoff hown
      have hlen3 : (putAll m (n.take k)).length ≤ 100 := by omega
      clear hlen hlen2
      generalize putAll m (n.take k) = o at *
      generalize n[k] = z at *
      obtain ⟨x, y⟩ := z
      simp only at hc1 hc2
      go_wp2_with fail
      have hba : Below wr.heap.size wr (wr.alloc (.cells #[.int .i64 x, .int .i64 y] 47)) := (Below.refl _ _).alloc (Nat.le_refl _) _
      refine (put_off w6.heap.size _ o x y _ ((HP.out).below hba) (by omega) (by simp; omega)).mono ?_
      rintro e w7 ⟨v7, rfl, hp7, hb7⟩
      have hb67 : Below wr.heap.size wr w7 := hba.trans (hb7.mono hba.size)
      have HP7 := Lib.hid hp7
      have HO7 := Lib.hid (owns_below HOwn.out hb67)
      have hb8 := hb6.trans (hb67.mono hb6.size)
      have hsz8 := hb67.size
      clear hc1 hc2 hba hb7 hp7 hb67
      go_wp2_with fail
      go_roundw
      case rel => exact ⟨k + 1, by omega, by go_num, by rw [HS.out]; exact HP7.out, HO7.out, hb8, by omega⟩
      case measure => simp [intOf]; omega
    · have HALL : Hid (Off w6.heap.size wr u11 (putAll m n)) := Lib.hid (by rwa [List.take_of_length_le (by omega)] at hoff)
      clear hoff
      rename World => wB
      go_wp2_with fail
      go_loopw [12, 13, 69] (fun v b i wx => ∃ k : Nat, k ≤ m.length ∧ i = .int .i64 k ∧ b = .bool (inPTo m n k) ∧ wx.ownsRow w6.heap.size 47 2 v k (prV (swapP (m.take k))) ∧ wB.grownBy wx (some w6.heap.size) ∧ (∀ j, v.ownBlock = some j → wB.heap.size ≤ j ∨ j = w6.heap.size)) (fun _ _ i _ => m.length - (intOf i).toNat)
      case atStart =>
        exact ⟨0, by omega, rfl, rfl, hown, World.grownBy.refl _ _, fun j hj => .inr (by simpa [Value.ownBlock] using hj.symm)⟩
      case round =>
        obtain ⟨k, hk, rfl, rfl, hown, hgr, hlie⟩ := hrel
        have hbx : Below w6.heap.size w6 wr := hb6.grown hgr hb6.size (fun k hk => by cases hk; exact Nat.le_refl _)
        by_cases hlt : k < m.length
        · have hki : (k : Int) < (m.length : Int) := by omega
          obtain ⟨p, off, hao, hc1, hc2⟩ := (HST.out _ hbx).2.2.1.at hlt
          cases hao
          have HIN := Lib.hid (inPTo_succ m n k hlt)
          have HSW := Lib.hid (swapP_succ m k hlt)
          have HOwn := Lib.hid hown
          have HLie := Lib.hid hlie
          have HGr := Lib.hid hgr
          have hszB := hgr.size
          clear hown hlie hgr
          generalize m[k] = z at *
          obtain ⟨x, y⟩ := z
          simp only at hc1 hc2
          obtain ⟨pb0, pb1⟩ := pair_block wr x y
          generalize hold0 : prV (swapP (m.take k)) = old at *
          have HOld := Lib.hid hold0
          clear hold0
          have hnew := pair_new (wr.alloc (.cells #[.int .i64 x, .int .i64 y] 47)) #[.int .i64 y, .int .i64 x] 47 (0, 0)
          have hnsz : (wr.alloc (.cells #[.int .i64 x, .int .i64 y] 47)).heap.size = wr.heap.size + 1 := by simp
          rw [hnsz] at hnew
          have hq0 := ((Below.refl (wr.alloc (.cells #[.int .i64 x, .int .i64 y] 47)).heap.size _).alloc (Nat.le_refl _) (.cells #[.int .i64 y, .int .i64 x] 47)).cell (p := ⟨wr.heap.size, 0, none⟩) (by simp)
          have hq1 := ((Below.refl (wr.alloc (.cells #[.int .i64 x, .int .i64 y] 47)).heap.size _).alloc (Nat.le_refl _) (.cells #[.int .i64 y, .int .i64 x] 47)).cell (p := ⟨wr.heap.size, 1, none⟩) (by simp)
          have pc0 := hq0.trans pb0
          have pc1 := hq1.trans pb1
          clear hq0 hq1
          have HNew := Lib.hid hnew
          clear hnew
          go_wp2_with (at_builtin; go_loud (refine wpList_append_lies _ rfl _ _ 40 rfl w6.heap.size 47 i0 (.agg #[.int .i64 0, .int .i64 0]) 2 16 Tryd.underlying40 hi hz0 hz1 hz2 rfl (by decide) _ k _ rfl ((HOwn.out.alloc _).alloc _) ⟨wr.heap.size + 1, 0, none⟩ 1 1 [.int .i64 y, .int .i64 x] rfl rfl HNew.out ?c1 (by decide) ?c2 ?c3 ?c4 _ rfl ?_))
          case c1 => first | exact prV_oneCell [(y, x)] | exact ⟨rfl, rfl⟩
          case c2 => unfold maxLen; omega
          case c3 => omega
          case c4 => have := hbx.size; simp; omega
          intro g cap w7 hown7 hg7 hat7 hlt7
          have hvlt := HOwn.out.lt
          have pd0 := hg7.cell pc0 (by intro e; have := hvlt _ e.symm; simp at this)
          have pd1 := hg7.cell pc1 (by intro e; have := hvlt _ e.symm; simp at this)
          have hall : wB.grownBy w7 (some w6.heap.size) := ((HGr.out.trans (World.grownBy_alloc wr _ _)).trans (World.grownBy_alloc _ _ _)).andThen hg7 (fun j hj => (HLie.out j hj).imp id (fun e => by rw [e]))
          have hlie7 : ∀ j, Value.ownBlock (.slice (some ⟨g, 0, none⟩) (k + 1) cap) = some j → wB.heap.size ≤ j ∨ j = w6.heap.size := by
            intro j hj
            obtain rfl : g = j := by simpa [Value.ownBlock] using hj
            rcases hat7 with h | h
            · exact HLie.out _ h
            · left; rw [h]; (try simp); omega
          have hb7 : Below w6.heap.size w6 w7 := hb6.grown hall hb6.size (fun k hk => by cases hk; exact Nat.le_refl _)
          have hown7' : w7.ownsRow w6.heap.size 47 2 (.slice (some ⟨g, 0, none⟩) (k + 1) cap) (k + 1) (old ++ [.int .i64 y, .int .i64 x]) := hown7
          have CH := phas_any _ n x y w7 (HST.out _ hb7).2.2.2.1
          have HG7 := Lib.hid hall
          have HL7 := Lib.hid hlie7
          have HO7 := Lib.hid hown7'
          have HCH := Lib.hid CH
          clear CH hown7 hown7' hlie7 hall hg7 hat7 pc0 pc1 pb0 pb1 hvlt hnsz hc1 hc2 HOwn HGr HLie HNew
          have hrl : ∀ b, (inPTo m n k && hasP n x y) = b → inPTo m n (k + 1) = b := fun b h => by rw [HIN.out, h]
          have HRL := Lib.hid hrl
          clear hrl HIN
          have hold : prV (swapP (m.take (k + 1))) = old ++ [.int .i64 y, .int .i64 x] := by rw [HSW.out, prV_append, HOld.out]; rfl
          have HOld2 := Lib.hid hold
          clear hold HSW
          cases hin : inPTo m n k
          · have HIN' : Hid (inPTo m n (k + 1) = false) := Lib.hid (HRL.out _ (by rw [hin]; rfl))
            clear hin HRL
            go_wp2_with fail
            go_roundw
            case rel => exact ⟨k + 1, by omega, by go_num, by rw [HIN'.out], by rw [HOld2.out]; exact HO7.out, HG7.out, HL7.out⟩
            case measure => simp [intOf]; omega
          · have HIN' : Hid (inPTo m n (k + 1) = hasP n x y) := Lib.hid (HRL.out _ (by rw [hin]; rfl))
            clear hin HRL
            go_wp2_with fail
            refine (HCH.out).mono ?_
            rintro e w8 ⟨rfl, rfl⟩
            go_wp2_with fail
            go_roundw
            case rel => exact ⟨k + 1, by omega, by go_num, by rw [HIN'.out], by rw [HOld2.out]; exact HO7.out, HG7.out, HL7.out⟩
            case measure => simp [intOf]; omega
        · have hk' : k = m.length := by omega
          have hpa := HALL.out _ hgr
          have hpt : Prs wr u12 (swapP m) := by
            rw [List.take_of_length_le (by omega)] at hown
            exact Prs.of_owns hown
          have HB : Hid (∀ wx, Below wr.heap.size wr wx → St w w2.heap.size w4.heap.size R S (.slice mo m.length mcap) (.slice no n.length ncap) m n wx ∧ Prs wx u11 (putAll m n) ∧ Prs wx u12 (swapP m)) := Lib.hid (fun wx hb =>
            ⟨(HST.out _ hbx).below hb, hpa.below hb, hpt.below hb⟩)
          clear hpa hpt hown hgr hlie HST HALL hbx hb6 hlt6 hpm
          have hIN : inPTo m n k = inM R S := by rw [hk']; exact (within_rep HR.out HS.out).symm
          rw [hIN]
          clear hIN hk'
          have HMN : Hid (m.length * n.length ≤ 1000000) := Lib.hid (by have := Nat.mul_le_mul hm30 hn30; omega)
          have HRO := Lib.hid (rep_or HR.out HS.out)
          have HRT := Lib.hid (rep_then HR.out HS.out)
          have HRU := Lib.hid (rep_turn HR.out)
          have hb0 : Below wr.heap.size wr wr := Below.refl _ _
          have hR := (HB.out _ hb0).1.1
          have hS := (HB.out _ hb0).1.2.1
          go_wp2_with (first
            | (with_reducible refine wpList_load_rel hR rfl _ rfl rfl ?_)
            | (with_reducible refine wpList_load_rel hS rfl _ rfl rfl ?_)
            | (with_reducible refine wpList_load_rel_g hR _ rfl (by kernel_rfl) rfl ?_)
            | (with_reducible refine wpList_load_rel_g hS _ rfl (by kernel_rfl) rfl ?_))
          refine (union_any R S _).mono ?_
          rintro e q1 ⟨rfl, hbn⟩
          have hb1 := hb0.trans (hbn.mono hb0.size)
          have hR := (HB.out _ hb1).1.1
          have hS := (HB.out _ hb1).1.2.1
          clear hbn
          go_wp2_with (first
            | (with_reducible refine wpList_load_rel hR rfl _ rfl rfl ?_)
            | (with_reducible refine wpList_load_rel hS rfl _ rfl rfl ?_)
            | (with_reducible refine wpList_load_rel_g hR _ rfl (by kernel_rfl) rfl ?_)
            | (with_reducible refine wpList_load_rel_g hS _ rfl (by kernel_rfl) rfl ?_))
          refine (CSM.out _ _ _ _ HRO.out (HB.out _ hb1).2.1).mono ?_
          rintro e q2 ⟨rfl, hbn⟩
          have hb2 := hb1.trans (hbn.mono hb1.size)
          have hR := (HB.out _ hb2).1.1
          have hS := (HB.out _ hb2).1.2.1
          clear hbn
          go_wp2_with (first
            | (with_reducible refine wpList_load_rel hR rfl _ rfl rfl ?_)
            | (with_reducible refine wpList_load_rel hS rfl _ rfl rfl ?_)
            | (with_reducible refine wpList_load_rel_g hR _ rfl (by kernel_rfl) rfl ?_)
            | (with_reducible refine wpList_load_rel_g hS _ rfl (by kernel_rfl) rfl ?_))
          refine (then_any R S _ (HT.out _ (HB.out _ hb2).1.2.2.2.2)).mono ?_
          rintro e q3 ⟨rfl, hbn⟩
          have hb3 := hb2.trans (hbn.mono hb2.size)
          have hR := (HB.out _ hb3).1.1
          have hS := (HB.out _ hb3).1.2.1
          clear hbn
          go_wp2_with (first
            | (with_reducible refine wpList_load_rel hR rfl _ rfl rfl ?_)
            | (with_reducible refine wpList_load_rel hS rfl _ rfl rfl ?_)
            | (with_reducible refine wpList_load_rel_g hR _ rfl (by kernel_rfl) rfl ?_)
            | (with_reducible refine wpList_load_rel_g hS _ rfl (by kernel_rfl) rfl ?_))
          refine (pthen_any _ _ m n _ (HB.out _ hb3).1.2.2.1 (HB.out _ hb3).1.2.2.2.1 HMN.out).mono ?_
          rintro e q4 ⟨vT, rfl, hpT, hbn⟩
          have hb4 := hb3.trans (hbn.mono hb3.size)
          have hR := (HB.out _ hb4).1.1
          have hS := (HB.out _ hb4).1.2.1
          clear hbn
          go_wp2_with (first
            | (with_reducible refine wpList_load_rel hR rfl _ rfl rfl ?_)
            | (with_reducible refine wpList_load_rel hS rfl _ rfl rfl ?_)
            | (with_reducible refine wpList_load_rel_g hR _ rfl (by kernel_rfl) rfl ?_)
            | (with_reducible refine wpList_load_rel_g hS _ rfl (by kernel_rfl) rfl ?_))
          refine (CSM.out _ _ _ _ HRT.out hpT).mono ?_
          rintro e q5 ⟨rfl, hbn⟩
          have hb5 := hb4.trans (hbn.mono hb4.size)
          have hR := (HB.out _ hb5).1.1
          have hS := (HB.out _ hb5).1.2.1
          clear hbn
          go_wp2_with (first
            | (with_reducible refine wpList_load_rel hR rfl _ rfl rfl ?_)
            | (with_reducible refine wpList_load_rel hS rfl _ rfl rfl ?_)
            | (with_reducible refine wpList_load_rel_g hR _ rfl (by kernel_rfl) rfl ?_)
            | (with_reducible refine wpList_load_rel_g hS _ rfl (by kernel_rfl) rfl ?_))
          refine (turned_any R _ (HT.out _ (HB.out _ hb5).1.2.2.2.2)).mono ?_
          rintro e q6 ⟨rfl, hbn⟩
          have hb6 := hb5.trans (hbn.mono hb5.size)
          have hR := (HB.out _ hb6).1.1
          have hS := (HB.out _ hb6).1.2.1
          clear hbn
          go_wp2_with (first
            | (with_reducible refine wpList_load_rel hR rfl _ rfl rfl ?_)
            | (with_reducible refine wpList_load_rel hS rfl _ rfl rfl ?_)
            | (with_reducible refine wpList_load_rel_g hR _ rfl (by kernel_rfl) rfl ?_)
            | (with_reducible refine wpList_load_rel_g hS _ rfl (by kernel_rfl) rfl ?_))
          refine (CSM.out _ _ _ _ HRU.out (HB.out _ hb6).2.2).mono ?_
          rintro e q7 ⟨rfl, hbn⟩
          have hb7 := hb6.trans (hbn.mono hb6.size)
          have hR := (HB.out _ hb7).1.1
          have hS := (HB.out _ hb7).1.2.1
          clear hbn
          go_wp2_with (first
            | (with_reducible refine wpList_load_rel hR rfl _ rfl rfl ?_)
            | (with_reducible refine wpList_load_rel hS rfl _ rfl rfl ?_)
            | (with_reducible refine wpList_load_rel_g hR _ rfl (by kernel_rfl) rfl ?_)
            | (with_reducible refine wpList_load_rel_g hS _ rfl (by kernel_rfl) rfl ?_))
          refine (closure_any R _).mono ?_
          rintro e q8 ⟨rfl, hbn⟩
          have hb8 := hb7.trans (hbn.mono hb7.size)
          have hR := (HB.out _ hb8).1.1
          have hS := (HB.out _ hb8).1.2.1
          clear hbn
          go_wp2_with (first
            | (with_reducible refine wpList_load_rel hR rfl _ rfl rfl ?_)
            | (with_reducible refine wpList_load_rel hS rfl _ rfl rfl ?_)
            | (with_reducible refine wpList_load_rel_g hR _ rfl (by kernel_rfl) rfl ?_)
            | (with_reducible refine wpList_load_rel_g hS _ rfl (by kernel_rfl) rfl ?_))
          refine (pclo_any _ m _ (HB.out _ hb8).1.2.2.1 (by omega)).mono ?_
          rintro e q9 ⟨vC, c, rfl, hpC, hiC, hdC, hbn⟩
          have HRC := Lib.hid (rep_clo HR.out hiC hdC.out)
          clear hiC hdC
          have hb9 := hb8.trans (hbn.mono hb8.size)
          have hR := (HB.out _ hb9).1.1
          have hS := (HB.out _ hb9).1.2.1
          clear hbn
          go_wp2_with (first
            | (with_reducible refine wpList_load_rel hR rfl _ rfl rfl ?_)
            | (with_reducible refine wpList_load_rel hS rfl _ rfl rfl ?_)
            | (with_reducible refine wpList_load_rel_g hR _ rfl (by kernel_rfl) rfl ?_)
            | (with_reducible refine wpList_load_rel_g hS _ rfl (by kernel_rfl) rfl ?_))
          refine (CSM.out _ _ _ _ HRC.out hpC).mono ?_
          rintro e q10 ⟨rfl, hbn⟩
          have hb10 := hb9.trans (hbn.mono hb9.size)
          have hR := (HB.out _ hb10).1.1
          have hS := (HB.out _ hb10).1.2.1
          clear hbn
          go_wp2_with (first
            | (with_reducible refine wpList_load_rel hR rfl _ rfl rfl ?_)
            | (with_reducible refine wpList_load_rel hS rfl _ rfl rfl ?_)
            | (with_reducible refine wpList_load_rel_g hR _ rfl (by kernel_rfl) rfl ?_)
            | (with_reducible refine wpList_load_rel_g hS _ rfl (by kernel_rfl) rfl ?_))
          refine (withinR_any R S _).mono ?_
          rintro e q11 ⟨rfl, hbn⟩
          have hb11 := hb10.trans (hbn.mono hb10.size)
          have hR := (HB.out _ hb11).1.1
          have hS := (HB.out _ hb11).1.2.1
          clear hbn
          go_wp2_with (first
            | (with_reducible refine wpList_load_rel hR rfl _ rfl rfl ?_)
            | (with_reducible refine wpList_load_rel hS rfl _ rfl rfl ?_)
            | (with_reducible refine wpList_load_rel_g hR _ rfl (by kernel_rfl) rfl ?_)
            | (with_reducible refine wpList_load_rel_g hS _ rfl (by kernel_rfl) rfl ?_))
          refine (acyclic_any R _).mono ?_
          rintro e q12 ⟨rfl, hbn⟩
          have hb12 := hb11.trans (hbn.mono hb11.size)
          have hR := (HB.out _ hb12).1.1
          have hS := (HB.out _ hb12).1.2.1
          clear hbn
          go_wp2_with (first
            | (with_reducible refine wpList_load_rel hR rfl _ rfl rfl ?_)
            | (with_reducible refine wpList_load_rel hS rfl _ rfl rfl ?_)
            | (with_reducible refine wpList_load_rel_g hR _ rfl (by kernel_rfl) rfl ?_)
            | (with_reducible refine wpList_load_rel_g hS _ rfl (by kernel_rfl) rfl ?_))
          refine (pacy_any _ m _ (HB.out _ hb12).1.2.2.1 (by omega)).mono ?_
          rintro e q13 ⟨cA, rfl, hiA, hdA, hbn⟩
          rw [acy_rep HR.out hiA hdA.out]
          clear hiA hdA
          have hb13 := hb12.trans (hbn.mono hb12.size)
          have hR := (HB.out _ hb13).1.1
          have hS := (HB.out _ hb13).1.2.1
          clear hbn
          go_wp2_with (first
            | (with_reducible refine wpList_load_rel hR rfl _ rfl rfl ?_)
            | (with_reducible refine wpList_load_rel hS rfl _ rfl rfl ?_)
            | (with_reducible refine wpList_load_rel_g hR _ rfl (by kernel_rfl) rfl ?_)
            | (with_reducible refine wpList_load_rel_g hS _ rfl (by kernel_rfl) rfl ?_))
          refine (rhasR_any R (-1) 3 _).mono ?_
          rintro e q14 ⟨rfl, hbn⟩
          have hb14 := hb13.trans (hbn.mono hb13.size)
          have hR := (HB.out _ hb14).1.1
          have hS := (HB.out _ hb14).1.2.1
          clear hbn
          go_wp2_with (first
            | (with_reducible refine wpList_load_rel hR rfl _ rfl rfl ?_)
            | (with_reducible refine wpList_load_rel hS rfl _ rfl rfl ?_)
            | (with_reducible refine wpList_load_rel_g hR _ rfl (by kernel_rfl) rfl ?_)
            | (with_reducible refine wpList_load_rel_g hS _ rfl (by kernel_rfl) rfl ?_))
          refine (rhasR_any R 64 0 _).mono ?_
          rintro e q15 ⟨rfl, hbn⟩
          have hb15 := hb14.trans (hbn.mono hb14.size)
          have hR := (HB.out _ hb15).1.1
          have hS := (HB.out _ hb15).1.2.1
          clear hbn
          go_wp2_with fail
          go_ret
          refine ⟨?_, (HB.out _ hb15).1.2.2.2.2⟩
          have h64 : hasR R 64 0 = false := by unfold hasR mayB; simp
          show Ending.returned (.bool (!hasR R 64 0)) = _
          rw [h64]
          rfl
end Go.Proofs.YtjlhclmplmkhaaaDoor
