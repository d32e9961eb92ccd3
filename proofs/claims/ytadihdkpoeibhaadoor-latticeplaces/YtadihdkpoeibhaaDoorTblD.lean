/- Walks of the reference's table functions: Implies, has, Closed, Strongest. Conditions: a slice's cells are known. -/
import Derived.Test.YtadihdkpoeibhaaDoorTblC
import Derived.Test.YtadihdkpoeibhaaDoorLevD
namespace Go.Proofs.YtadihdkpoeibhaaDoor
set_option maxRecDepth 100000
open Go.RowKit

/-- Is each thing, of the first k, that the second level asks among what follows of what the first one does? -/
def chkB (a b : Int) (k : Nat) : Bool := (List.range k).all fun i => !(hasT (askN b) (2 ^ i) && !hasT (clN (askN a)) (2 ^ i))
theorem chkB_succ (a b : Int) (k : Nat) : chkB a b (k + 1) = (chkB a b k && !(hasT (askN b) (2 ^ k) && !hasT (clN (askN a)) (2 ^ k))) := by
  unfold chkB; rw [List.range_succ, List.all_append]; simp
theorem impB_chk : ∀ a b : Fin 12, impB (a.val : Int) (b.val : Int) = chkB (a.val : Int) (b.val : Int) 6 := by decide +kernel
theorem impB_chk' {a b : Int} (ha : isLv a = true) (hb : isLv b = true) : impB a b = chkB a b 6 := by
  have h1 : 0 ≤ a ∧ a < 12 := by simpa [isLv] using ha
  have h2 : 0 ≤ b ∧ b < 12 := by simpa [isLv] using hb
  have := impB_chk ⟨a.toNat, by omega⟩ ⟨b.toNat, by omega⟩
  simp only at this
  rwa [Int.toNat_of_nonneg h1.1, Int.toNat_of_nonneg h2.1] at this
theorem chkB_no {a b : Int} {k : Nat} (hk : k < 6) (h : (!(hasT (askN b) (2 ^ k) && !hasT (clN (askN a)) (2 ^ k))) = false) : chkB a b 6 = false := by
  unfold chkB
  rw [List.all_eq_false]
  exact ⟨k, List.mem_range.2 hk, by rw [h]; simp⟩
theorem pow_six : ∀ i : Fin 6, 0 < 2 ^ i.val ∧ 2 ^ i.val ≤ 32 := by decide
set_option maxHeartbeats 1000000 in
theorem rimp_any (a b : Int) (w : World) : Calls Tryd.prog 8 #[.int .i64 a, .int .i64 b] w fun e w' => e = .returned (.bool (impB a b)) ∧ w = w' := by
  by_cases hin : (0 ≤ a ∧ a < 12) ∧ 0 ≤ b ∧ b < 12
  · obtain ⟨⟨a0, a1⟩, b0, b1⟩ := hin
    have ha : isLv a = true := by simpa [isLv] using ⟨a0, a1⟩
    have hb : isLv b = true := by simpa [isLv] using ⟨b0, b1⟩
    have HI := Lib.hid (impB_chk' ha hb)
    have hal := askN_lt a
    have hbl := askN_lt b
    have hcl := clN_lt ⟨askN a, hal⟩
    simp only at hcl
    have CA := Lib.hid (fun wx => rl_asks a wx)
    have CB := Lib.hid (fun wx => rl_asks b wx)
    have CC := Lib.hid (fun wx => rl_closed (askN a) hal wx)
    have HS := Lib.hid (chkB_succ a b)
    have HN := Lib.hid (fun k => chkB_no (a := a) (b := b) (k := k))
    have CW := Lib.hid (fun t wx h1 h2 => rl_has (askN b) t hbl h1 h2 wx)
    have CH := Lib.hid (fun t wx h1 h2 => rl_has (clN (askN a)) t hcl h1 h2 wx)
    clear ha hb hal hbl hcl
    rw [HI.out]
    clear HI
    generalize clN (askN a) = hv at *
    generalize askN a = aa at *
    generalize askN b = wt at *
    have a2 : a ≤ 11 := by omega
    have b2 : b ≤ 11 := by omega
    go_enter Tryd.func8, Tryd.ntmps8
    go_wp2_with fail
    refine (CA.out _).mono ?_
    rintro e w' ⟨rfl, rfl⟩
    go_wp2_with fail
    refine (CC.out _).mono ?_
    rintro e w' ⟨rfl, rfl⟩
    go_wp2_with fail
    refine (CB.out _).mono ?_
    rintro e w' ⟨rfl, rfl⟩
    go_wp2_with fail
    go_loopw [7] (fun v wr => ∃ k t : Nat, k ≤ 6 ∧ Hid (2 ^ k = t) ∧ v = .int .i64 (t : Int) ∧ chkB a b k = true ∧ w = wr) (fun v _ => 64 - (intOf v).toNat)
    case atStart => exact ⟨0, 1, by omega, Lib.hid rfl, rfl, rfl, rfl⟩
    case round =>
      obtain ⟨k, t, hk, HT, rfl, hno, rfl⟩ := hrel
      have HNO := Lib.hid hno
      clear hno
      by_cases hlt : k < 6
      · obtain ⟨p0, p1⟩ := pow_six ⟨k, hlt⟩
        simp only at p0 p1
        have HSk := Lib.hid (HS.out k)
        rw [HNO.out] at HSk
        have HNk := Lib.hid (HN.out k hlt)
        have HP : Hid (2 ^ (k + 1) = t * 2) := Lib.hid (by rw [Nat.pow_succ, HT.out])
        rw [HT.out] at p0 p1
        have CWk := Lib.hid (fun wx => CW.out t wx p0 p1)
        have CHk := Lib.hid (fun wx => CH.out t wx p0 p1)
        have hti : (t : Int) ≤ 32 := by omega
        rw [HT.out] at HSk HNk
        generalize hasT wt t = h1 at *
        generalize hasT hv t = h2 at *
        cases h1
        · have HM : Hid (chkB a b (k + 1) = true) := Lib.hid (by rw [HSk.out]; rfl)
          go_wp2_with (go_at_call 17; refine (CWk.out _).mono ?_; rintro e w' ⟨rfl, rfl⟩)
          go_roundw
          case rel => exact ⟨k + 1, t * 2, by omega, HP, by go_num, HM.out, by trivial⟩
          case measure => simp [intOf]; omega
        · cases h2
          · have HM : Hid (false = chkB a b 6) := Lib.hid (HNk.out rfl).symm
            go_wp2_with fail
            refine (CWk.out _).mono ?_
            rintro e w' ⟨rfl, rfl⟩
            go_wp2_with fail
            refine (CHk.out _).mono ?_
            rintro e w' ⟨rfl, rfl⟩
            go_wp2_with fail
            go_ret
            exact ⟨lret_b HM.out, rfl⟩
          · have HM : Hid (chkB a b (k + 1) = true) := Lib.hid (by rw [HSk.out]; rfl)
            go_wp2_with fail
            refine (CWk.out _).mono ?_
            rintro e w' ⟨rfl, rfl⟩
            go_wp2_with fail
            refine (CHk.out _).mono ?_
            rintro e w' ⟨rfl, rfl⟩
            go_wp2_with fail
            go_roundw
            case rel => exact ⟨k + 1, t * 2, by omega, HP, by go_num, HM.out, by trivial⟩
            case measure => simp [intOf]; omega
      · have hk6 : k = 6 := by omega
        subst hk6
        have ht6 : t = 64 := by have h := HT.out; omega
        subst ht6
        have HM : Hid (true = chkB a b 6) := Lib.hid HNO.out.symm
        go_wp2_with fail
        go_ret
        exact ⟨lret_b HM.out, rfl⟩
  · have HI : Hid (false = impB a b) := Lib.hid (by
      unfold impB isLv
      by_cases h1 : 0 ≤ a ∧ a < 12
      · have h2 : ¬ (0 ≤ b ∧ b < 12) := fun h => hin ⟨h1, h⟩
        rw [decide_eq_false h2]; simp
      · rw [decide_eq_false h1]; rfl)
    by_cases c0 : a < 0
    · go_enter Tryd.func8, Tryd.ntmps8
      go_wp2_with fail
      go_ret
      exact ⟨lret_b HI.out, rfl⟩
    by_cases c1 : 11 < a
    · go_enter Tryd.func8, Tryd.ntmps8
      go_wp2_with fail
      go_ret
      exact ⟨lret_b HI.out, rfl⟩
    by_cases c2 : b < 0
    · go_enter Tryd.func8, Tryd.ntmps8
      go_wp2_with fail
      go_ret
      exact ⟨lret_b HI.out, rfl⟩
    have c3 : 11 < b := by omega
    go_enter Tryd.func8, Tryd.ntmps8
    go_wp2_with fail
    go_ret
    exact ⟨lret_b HI.out, rfl⟩
def hasZ (l : List Int) (n : Int) : Bool := l.any fun x => x == n
theorem hasZ_take {l : List Int} {n : Int} {k : Nat} (hk : k < l.length) (h : (l.take k).any (fun x => x == n) = false) : (l.take (k + 1)).any (fun x => x == n) = (l[k] == n) := by
  rw [List.take_succ_eq_append_getElem hk, List.any_append, h]; simp
theorem hasZ_hit {l : List Int} {n : Int} {k : Nat} (hk : k < l.length) (h : (l[k] == n) = true) : hasZ l n = true := List.any_eq_true.2 ⟨_, List.getElem_mem hk, h⟩
set_option maxHeartbeats 1000000 in
theorem rhas_lv (v : Value) (l : List Int) (n : Int) (w : World) (hI : Ints w v l) : Calls Tryd.prog 21 #[v, .int .i64 n] w fun e w' => e = .returned (.bool (hasZ l n)) ∧ w = w' := by
  obtain ⟨ao, cap, rfl, hlen⟩ := hI.form
  go_enter Tryd.func21, Tryd.ntmps21
  go_wp2_with fail
  go_loopw [5] (fun i wr => ∃ k : Nat, k ≤ l.length ∧ i = .int .i64 k ∧ (l.take k).any (fun x => x == n) = false ∧ w = wr) (fun i _ => l.length - (intOf i).toNat)
  case atStart => exact ⟨0, by omega, rfl, rfl, rfl⟩
  case round =>
    obtain ⟨k, hk, rfl, hno, rfl⟩ := hrel
    have HNO := Lib.hid hno
    clear hno
    by_cases hlt : k < l.length
    · have hki : (k : Int) < (l.length : Int) := by omega
      obtain ⟨g, o, hao, hc⟩ := hI.at hlt
      cases hao
      have HT := Lib.hid (hasZ_take hlt HNO.out)
      have HH := Lib.hid (fun h => hasZ_hit (n := n) hlt h)
      generalize l[k] = x at *
      cases hx : x == n
      · have HM : Hid ((l.take (k + 1)).any (fun x => x == n) = false) := Lib.hid (by rw [HT.out, hx])
        clear HT HH
        go_wp2_with fail
        go_roundw
        case rel => exact ⟨k + 1, by omega, by go_num, HM.out, by trivial⟩
        case measure => simp [intOf]; omega
      · have HM : Hid (true = hasZ l n) := Lib.hid (HH.out hx).symm
        clear HT HH
        go_wp2_with fail
        go_ret
        exact ⟨lret_b HM.out, rfl⟩
    · have hkl : k = l.length := by omega
      subst hkl
      have HM : Hid (false = hasZ l n) := Lib.hid (by have h := HNO.out; rw [List.take_length] at h; exact h.symm)
      go_wp2_with fail
      go_ret
      exact ⟨lret_b HM.out, rfl⟩
/-- Is whatever one of some implies among them? -/
def clsRow (l : List Int) (x : Int) (j : Nat) : Bool := (List.range j).all fun b => !(impB x (b : Int) && !hasZ l (b : Int))
def clsR (l : List Int) : Bool := l.all fun x => clsRow l x 12
theorem clsRow_succ (l : List Int) (x : Int) (j : Nat) : clsRow l x (j + 1) = (clsRow l x j && !(impB x (j : Int) && !hasZ l (j : Int))) := by
  unfold clsRow; rw [List.range_succ, List.all_append]; simp
theorem clsRow_no {l : List Int} {x : Int} {j : Nat} (hj : j < 12) (h : (!(impB x (j : Int) && !hasZ l (j : Int))) = false) : clsRow l x 12 = false := by
  unfold clsRow
  rw [List.all_eq_false]
  exact ⟨j, List.mem_range.2 hj, by rw [h]; simp⟩
theorem clsR_take {l : List Int} {k : Nat} (hk : k < l.length) (h : (l.take k).all (fun x => clsRow l x 12) = true) (h2 : clsRow l l[k] 12 = true) : (l.take (k + 1)).all (fun x => clsRow l x 12) = true := by
  rw [List.take_succ_eq_append_getElem hk, List.all_append, h]; simp [h2]
theorem clsR_no {l : List Int} {k : Nat} (hk : k < l.length) (h : clsRow l l[k] 12 = false) : clsR l = false := by
  unfold clsR
  rw [List.all_eq_false]
  exact ⟨_, List.getElem_mem hk, by rw [h]; simp⟩
set_option maxHeartbeats 2000000 in
theorem rclosed_lv (v : Value) (l : List Int) (w : World) (hI : Ints w v l) : Calls Tryd.prog 13 #[v] w fun e w' => e = .returned (.bool (clsR l)) ∧ w = w' := by
  have CH := Lib.hid (fun n => rhas_lv v l n w hI)
  obtain ⟨ao, cap, rfl, hlen⟩ := hI.form
  go_enter Tryd.func13, Tryd.ntmps13
  go_wp2_with fail
  go_loopw [3] (fun i wr => ∃ k : Nat, k ≤ l.length ∧ i = .int .i64 k ∧ (l.take k).all (fun x => clsRow l x 12) = true ∧ w = wr) (fun i _ => l.length - (intOf i).toNat)
  case atStart => exact ⟨0, by omega, rfl, rfl, rfl⟩
  case round =>
    obtain ⟨k, hk, rfl, hno, rfl⟩ := hrel
    have HNO := Lib.hid hno
    clear hno
    by_cases hlt : k < l.length
    · have hki : (k : Int) < (l.length : Int) := by omega
      obtain ⟨g, o, hao, hc⟩ := hI.at hlt
      cases hao
      have HT := Lib.hid (clsR_take hlt HNO.out)
      have HH := Lib.hid (fun h => clsR_no hlt h)
      generalize l[k] = x at *
      have HS := Lib.hid (clsRow_succ l x)
      have HN := Lib.hid (fun j => clsRow_no (l := l) (x := x) (j := j))
      go_wp2_with fail
      go_loopw [4] (fun i wr => ∃ j : Nat, j ≤ 12 ∧ i = .int .i64 j ∧ clsRow l x j = true ∧ w = wr) (fun i _ => 12 - (intOf i).toNat)
      case atStart => exact ⟨0, by omega, rfl, rfl, rfl⟩
      case round =>
        obtain ⟨j, hj, rfl, hnj, rfl⟩ := hrel
        have HSj := Lib.hid (HS.out j)
        rw [hnj] at HSj
        have HNJ := Lib.hid hnj
        clear hnj
        by_cases hlj : j < 12
        · have hji : (j : Int) < 12 := by omega
          have HNj := Lib.hid (HN.out j hlj)
          have CI := Lib.hid (rimp_any x (j : Int) w)
          have CHj := Lib.hid (CH.out (j : Int))
          cases hm : impB x (j : Int)
          · rw [hm] at CI HSj
            have HM : Hid (clsRow l x (j + 1) = true) := Lib.hid (by rw [HSj.out]; rfl)
            clear hm HSj HNj
            go_wp2_with (go_at_call 8; refine (CI.out).mono ?_; rintro e w' ⟨rfl, rfl⟩)
            go_roundw
            case rel => exact ⟨j + 1, by omega, by go_num, HM.out, by trivial⟩
            case measure => simp [intOf]; omega
          · rw [hm] at CI HSj HNj
            cases hz : hasZ l (j : Int)
            · rw [hz] at CHj HNj
              have HM : Hid (false = clsR l) := Lib.hid (HH.out (HNj.out rfl)).symm
              clear hm hz HSj HNj
              go_wp2_with (first | (go_at_call 8; refine (CI.out).mono ?_; rintro e w' ⟨rfl, rfl⟩) | (go_at_call 21; refine (CHj.out).mono ?_; rintro e w' ⟨rfl, rfl⟩))
              go_ret
              exact ⟨lret_b HM.out, rfl⟩
            · rw [hz] at CHj HSj
              have HM : Hid (clsRow l x (j + 1) = true) := Lib.hid (by rw [HSj.out]; rfl)
              clear hm hz HSj HNj
              go_wp2_with (first | (go_at_call 8; refine (CI.out).mono ?_; rintro e w' ⟨rfl, rfl⟩) | (go_at_call 21; refine (CHj.out).mono ?_; rintro e w' ⟨rfl, rfl⟩))
              go_roundw
              case rel => exact ⟨j + 1, by omega, by go_num, HM.out, by trivial⟩
              case measure => simp [intOf]; omega
        · have hj12 : j = 12 := by omega
          subst hj12
          have HM := Lib.hid (HT.out HNJ.out)
          clear HSj
          go_wp2_with fail
          go_roundw
          case rel => exact ⟨k + 1, by omega, by go_num, HM.out, by trivial⟩
          case measure => simp [intOf]; omega
    · have hkl : k = l.length := by omega
      subst hkl
      have HM : Hid (true = clsR l) := Lib.hid (by have h := HNO.out; rw [List.take_length] at h; exact h.symm)
      go_wp2_with fail
      go_ret
      exact ⟨lret_b HM.out, rfl⟩
end Go.Proofs.YtadihdkpoeibhaaDoor
