/- Walks: the reference's Closure and Acyclic of pairs. Conditions: slices' cells are known; at most 100 pairs. -/
import Derived.Test.YtjlhclmplmkhaaaDoorRelH
namespace Go.Proofs.YtjlhclmplmkhaaaDoor
open Go.RowKit

def lenOf : Value → Nat
  | .slice _ n _ => n
  | _ => 0
theorem Prs.lenOf {w : World} {v : Value} {l : List Pr} (h : Prs w v l) : lenOf v = l.length := by
  obtain ⟨ao, cap, rfl, _⟩ := h.form
  rfl
set_option maxHeartbeats 4000000 in
theorem pclo_any (va : Value) (l : List Pr) (w : World) (ha : Prs w va l) (hbig : l.length ≤ 100) :
    Calls Tryd.prog 37 #[va] w fun e w' => ∃ v' c, e = .returned v' ∧ Prs w' v' c ∧ CloInv l c ∧ Hid ((cloNext c l).length = c.length) ∧ Below w.heap.size w w' := by
  obtain ⟨ao, cap, rfl, hal⟩ := ha.form
  have HSQ : Hid (l.length * l.length ≤ 10000) := Lib.hid (by have := Nat.mul_le_mul hbig hbig; omega)
  go_enter Tryd.func37, Tryd.ntmps37
  go_wp2
  go_loopw [3, 4] (fun v i wr => ∃ k : Nat, k ≤ l.length ∧ i = .int .i64 k ∧ Prs wr v (putAll [] (l.take k)) ∧ Below w.heap.size w wr) (fun _ i _ => l.length - (intOf i).toNat)
  case atStart =>
    refine ⟨0, by omega, rfl, ?_, (Below.refl _ _).alloc (Nat.le_refl _) _⟩
    exact Prs.of_owns (l := []) (base := 0) (World.ownsRow_lit (size := 2) _ _ _ (Nat.zero_le _) (by simp) (by simp))
  case round =>
    obtain ⟨k, hk, rfl, hp, hbr⟩ := hrel
    by_cases hlt : k < l.length
    · have hki : (k : Int) < (l.length : Int) := by omega
      obtain ⟨p, off, hao, hc1, hc2⟩ := (ha.below hbr).at hlt
      cases hao
      have HS := Lib.hid (putAll_succ [] l k hlt)
      have hlen := (putAll_len (l.take k) []).1
      have hlen2 : (l.take k).length ≤ l.length := by simp; omega
      have hlen3 : (putAll [] (l.take k)).length ≤ 100 := by simp at hlen; omega
      have HP := Lib.hid hp
      clear hp hlen
      generalize putAll [] (l.take k) = o at *
      generalize l[k] = z at *
      obtain ⟨x, y⟩ := z
      simp only at hc1 hc2
      go_wp2
      go_still_tail 11, (by kernel_rfl)
      go_wp2_with fail
      refine (put_any _ o x y _ ((HP.out).below ((Below.refl _ _).drew)) (by omega)).mono ?_
      rintro e w3 ⟨v3, rfl, hp3, hb3⟩
      have hb4 : Below w.heap.size w w3 := (hbr.drew).trans (hb3.mono (by simpa using hbr.size))
      clear hc1 hc2 hb3
      have HP3 := Lib.hid hp3
      clear hp3
      go_wp2_with fail
      go_roundw
      case rel => exact ⟨k + 1, by omega, by go_num, by rw [HS.out]; exact HP3.out, hb4⟩
      case measure => simp [intOf]; omega
    · have HX : Hid (Prs wr u3 (putAll [] l)) := Lib.hid (by rwa [List.take_of_length_le (by omega)] at hp)
      clear hp
      go_wp2_with fail
      go_loopw [3] (fun v wx => ∃ o : List Pr, CloInv l o ∧ Prs wx v o ∧ Below w.heap.size w wx) (fun v _ => 10001 - lenOf v)
      case atStart => exact ⟨_, cloInv_start l, HX.out, hbr⟩
      case round =>
        obtain ⟨o, hinv, hpo, hbo⟩ := hrel
        have HO := Lib.hid hinv
        have holen : o.length ≤ 10000 := by have := hinv.len; have := HSQ.out; omega
        have HMUL : Hid (o.length * l.length ≤ 1000000) := Lib.hid (by have := Nat.mul_le_mul holen hbig; omega)
        have HTL : Hid ((thenP o l).length ≤ 1000000) := Lib.hid (by have := thenP_len o l; have := HMUL.out; omega)
        clear hinv
        obtain ⟨so, scap, rfl, _⟩ := hpo.form
        have hPL := ha.below hbo
        go_wp2_with fail
        refine (pthen_any _ _ o l _ hpo hPL HMUL.out).mono ?_
        rintro e w2 ⟨v2, rfl, hp2, hb2⟩
        have hbo2 := hbo.trans (hb2.mono hbo.size)
        have hpo2 := hpo.below hb2
        have HNX : Hid (cloNext o l = putAll o (thenP o l)) := Lib.hid rfl
        have htl := HTL.out
        clear hpo hbo hb2 hPL
        generalize thenP o l = m at *
        obtain ⟨mo, mcap, rfl, _⟩ := hp2.form
        have HPO := Lib.hid hpo2
        have hbb := hbo2
        go_wp2_with fail
        go_loopw [5, 7] (fun v i wx => ∃ j : Nat, j ≤ m.length ∧ i = .int .i64 j ∧ Prs wx v (putAll o (m.take j)) ∧ Prs wx (.slice mo m.length mcap) m ∧ Below w.heap.size w wx ∧ Prs wx (.slice so o.length scap) o) (fun _ i _ => m.length - (intOf i).toNat)
        case atStart => exact ⟨0, by omega, rfl, HPO.out, hp2, hbb, HPO.out⟩
        case round =>
          obtain ⟨j, hj, rfl, hpx, hpm, hbx, hpox⟩ := hrel
          by_cases hlj : j < m.length
          · have hji : (j : Int) < (m.length : Int) := by omega
            obtain ⟨p, off, hmo, hc1, hc2⟩ := hpm.at hlj
            cases hmo
            have HS := Lib.hid (putAll_succ o m j hlj)
            have hlen := (putAll_len (m.take j) o).1
            have hlen2 : (m.take j).length ≤ m.length := by simp; omega
            have hlen3 : (putAll o (m.take j)).length ≤ 100000000 := by omega
            have HP := Lib.hid hpx
            have HPM := Lib.hid hpm
            have HPX := Lib.hid hpox
            clear hpx hpm hlen hlen2 hpox
            generalize putAll o (m.take j) = q at *
            generalize m[j] = z at *
            obtain ⟨x, y⟩ := z
            simp only at hc1 hc2
            go_wp2
            go_still_tail 11, (by kernel_rfl)
            go_wp2_with fail
            refine (put_any _ q x y _ ((HP.out).below ((Below.refl _ _).drew)) (by omega)).mono ?_
            rintro e w3 ⟨v3, rfl, hp3, hb3⟩
            have hb4 : Below w.heap.size w w3 := (hbx.drew).trans (hb3.mono (by simpa using hbx.size))
            have HPM3 := Lib.hid (((HPM.out).below ((Below.refl _ _).drew)).below hb3)
            have HPX3 := Lib.hid (((HPX.out).below ((Below.refl _ _).drew)).below hb3)
            clear hc1 hc2 hb3
            have HP3 := Lib.hid hp3
            clear hp3
            go_wp2_with fail
            go_roundw
            case rel => exact ⟨j + 1, by omega, by go_num, by rw [HS.out]; exact HP3.out, HPM3.out, hb4, HPX3.out⟩
            case measure => simp [intOf]; omega
          · have HX : Hid (Prs wr u5 (cloNext o l)) := Lib.hid (by rw [HNX.out]; rwa [List.take_of_length_le (by omega)] at hpx)
            have hN : Hid (CloInv l (cloNext o l)) := Lib.hid (HO.out).next
            have hge : o.length ≤ (cloNext o l).length := by rw [HNX.out]; exact (putAll_len m o).2
            clear hpx hpm
            obtain ⟨nx, hnx⟩ : ∃ nx, nx = cloNext o l := ⟨_, rfl⟩
            have HNE := Lib.hid hnx
            rw [← hnx] at HX hN hge
            clear hnx HNX
            have hform := (HX.out).form
            obtain ⟨no, ncap, rfl, _⟩ := hform
            by_cases he : nx.length = o.length
            · have he' : ((nx.length : Int) == (o.length : Int)) = true := by rw [beq_iff_eq]; omega
              have HE := Lib.hid he
              have HPX := Lib.hid hpox
              clear he hpox
              go_wp2_with fail
              go_ret
              exact ⟨_, o, rfl, HPX.out, HO.out, Lib.hid (by rw [← HNE.out]; exact HE.out), hbx⟩
            · have he' : ((nx.length : Int) == (o.length : Int)) = false := by rw [beq_eq_false_iff_ne]; omega
              have hgt : o.length < nx.length := by omega
              have hle : nx.length ≤ 10000 := by have := (hN.out).len; have := HSQ.out; omega
              clear he hpox
              go_wp2_with fail
              go_roundw
              case rel => exact ⟨nx, hN.out, HX.out, hbx⟩
              case measure => simp [lenOf]; omega

/-- Does no pair of a list stand to itself? -/
def irrP (c : List Pr) : Bool := c.all fun p => !(p.1 == p.2)
theorem irrP_succ (c : List Pr) (k : Nat) (hk : k < c.length) : irrP (c.take (k + 1)) = (irrP (c.take k) && !(c[k].1 == c[k].2)) := by
  unfold irrP
  rw [List.take_succ_eq_append_getElem hk, List.all_append]; simp
theorem irrP_no (c : List Pr) (k : Nat) (hk : k < c.length) (h : (c[k].1 == c[k].2) = true) : false = irrP c := by
  symm
  unfold irrP
  rw [List.all_eq_false]
  exact ⟨c[k], List.getElem_mem hk, by simp [h]⟩
set_option maxHeartbeats 2000000 in
theorem pacy_any (va : Value) (l : List Pr) (w : World) (ha : Prs w va l) (hbig : l.length ≤ 100) :
    Calls Tryd.prog 40 #[va] w fun e w' => ∃ c, e = .returned (.bool (irrP c)) ∧ CloInv l c ∧ Hid ((cloNext c l).length = c.length) ∧ Below w.heap.size w w' := by
  obtain ⟨ao, cap, rfl, hal⟩ := ha.form
  go_enter Tryd.func40, Tryd.ntmps40
  go_wp2_with fail
  refine (pclo_any _ l w ha hbig).mono ?_
  rintro e w1 ⟨v1, c, rfl, hp1, hinv, hd, hb1⟩
  have HI := Lib.hid hinv
  clear hinv
  obtain ⟨co, ccap, rfl, _⟩ := hp1.form
  go_wp2_with fail
  go_loopw [4] (fun i wr => ∃ k : Nat, k ≤ c.length ∧ i = .int .i64 k ∧ irrP (c.take k) = true ∧ Prs wr (.slice co c.length ccap) c ∧ Below w.heap.size w wr) (fun i _ => c.length - (intOf i).toNat)
  case atStart => exact ⟨0, by omega, rfl, rfl, hp1, hb1⟩
  case round =>
    obtain ⟨k, hk, rfl, hirr, hp, hb⟩ := hrel
    have HR := Lib.hid hirr
    clear hirr
    by_cases hlt : k < c.length
    · have hki : (k : Int) < (c.length : Int) := by omega
      obtain ⟨p, off, hao, hc1, hc2⟩ := hp.at hlt
      cases hao
      have HS := Lib.hid (irrP_succ c k hlt)
      have HN := Lib.hid (irrP_no c k hlt)
      have HP : Hid (∀ n, Prs (wr.drewN n) (.slice (some ⟨p, off, none⟩) c.length ccap) c) := Lib.hid (fun n => hp.below (below_drewN (Below.refl _ _) n))
      clear hp hp1
      generalize c[k] = z at *
      obtain ⟨x, y⟩ := z
      simp only at hc1 hc2
      cases hxy : x == y
      · have HX := Lib.hid hxy
        go_wp2
        go_quiet (fail)
        go_wp2
        go_roundw
        case rel => exact ⟨k + 1, by omega, by go_num, by rw [HS.out, HR.out, HX.out]; rfl, HP.out _, below_drewN hb _⟩
        case measure => simp [intOf]; omega
      · have HX := Lib.hid hxy
        go_wp2
        go_quiet (fail)
        go_wp2
        go_ret
        exact ⟨c, ret_b (HN.out HX.out), HI.out, hd, below_drewN hb _⟩
    · have HX : Hid (true = irrP c) := Lib.hid (by rw [← HR.out, List.take_of_length_le (by omega)])
      go_wp2
      go_ret
      exact ⟨c, ret_b HX.out, HI.out, hd, hb⟩
theorem irrP_iff {l c : List Pr} (hi : CloInv l c) (hd : (cloNext c l).length = c.length) : irrP c = true ↔ ∀ a, ¬ PathP l a a := by
  unfold irrP
  rw [List.all_eq_true]
  constructor
  · intro h a hp
    have := h (a, a) ((hi.done hd a a).2 hp)
    simp at this
  · rintro h ⟨a, b⟩ hp
    have := (hi.done hd a b).1 hp
    by_cases e : a = b
    · subst e; exact absurd this (h a)
    · simp [e]
end Go.Proofs.YtjlhclmplmkhaaaDoor
