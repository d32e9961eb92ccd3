/- The walk of Check of a history. Conditions: a slice's cells are known, and hold numbers that are ints; a transaction has fewer operations than memory holds. -/
import Derived.Test.YtlkdojcimlfmdaaHisF
namespace Go.Proofs.Ytlkdojcimlfmdaa
set_option maxRecDepth 100000
open Go.RowKit

def rightB (h : List TxnV) : Bool := partsB h && (valuesB h && (stampsB h && sesB h))
def checkI (h : List TxnV) : Int := if 64 < h.length ∨ 1024 < opsN h then 3 else if rightB h then 0 else 2
theorem opsN_short : ∀ (h : List TxnV), Short h → opsN h ≤ h.length * 6000000000000
  | [], _ => by simp [opsN]
  | t :: h, hs => by
    have h1 := opsN_short h (fun u hu => hs u (List.mem_cons_of_mem _ hu))
    have h2 := hs t List.mem_cons_self
    unfold opsN at *
    simp only [List.map_cons, List.sum_cons, List.length_cons]
    omega
theorem parts_keys {h : List TxnV} (hp : partsB h = true) : ∀ t ∈ h, keysIn t.l := by
  intro t ht
  have := List.all_eq_true.1 hp t ht
  unfold mayT at this
  simp only [Bool.and_eq_true] at this
  exact allM_keys this.2
set_option maxHeartbeats 8000000 in
theorem hcheck_any (va : Value) (h : List TxnV) (w : World) (hT : Txns w va h) (hok : ∀ t ∈ h, t.ok) (hsh : Short h) :
    Calls Try.prog 31 #[va] w fun e w' => e = .returned (.int .i64 (checkI h)) ∧ Below w.heap.size w w' := by
  obtain ⟨ao, cap, rfl, hal⟩ := hT.form
  by_cases hbig : 64 < h.length
  · have hbig' : (64 : Int) < (h.length : Int) := by omega
    have H : Hid ((3 : Int) = checkI h) := Lib.hid (by unfold checkI; rw [if_pos (.inl hbig)])
    go_enter Try.func31, Try.ntmps31
    go_wp2_with fail
    go_ret
    exact ⟨ret_int H.out, Below.refl _ _⟩
  have hbf : decide ((64 : Int) < (h.length : Int)) = false := by simp; omega
  have hle := opsN_short h hsh
  have CO := Lib.hid (hops_any _ h w hT (by omega))
  have HT := Lib.hid (fun wx (hx : Below w.heap.size w wx) => hT.below hx)
  have HOK := Lib.hid hok
  clear hT hok hsh
  go_enter Try.func31, Try.ntmps31
  go_wp2_with fail
  refine (CO.out).mono ?_
  rintro e w1 ⟨rfl, hb1⟩
  clear CO
  by_cases hov : 1024 < opsN h
  · have hov' : (1024 : Int) < (opsN h : Int) := by omega
    have H : Hid ((3 : Int) = checkI h) := Lib.hid (by unfold checkI; rw [if_pos (.inr hov)])
    go_wp2_with fail
    go_ret
    exact ⟨ret_int H.out, hb1⟩
  have hov' : decide ((1024 : Int) < (opsN h : Int)) = false := by simp; omega
  have HCK : Hid (checkI h = if rightB h then 0 else 2) := Lib.hid (by unfold checkI; rw [if_neg (by omega)])
  have CP := Lib.hid (parts_any _ h w1 (HT.out _ hb1))
  cases hp : partsB h
  · have H : Hid ((2 : Int) = checkI h) := Lib.hid (by rw [HCK.out]; unfold rightB; rw [hp]; rfl)
    rw [hp] at CP
    clear hp
    go_wp2_with fail
    refine (CP.out).mono ?_
    rintro e w2 ⟨rfl, hb2⟩
    have hb3 := below_then hb1 hb2
    go_wp2_with fail
    go_ret
    exact ⟨ret_int H.out, hb3⟩
  rw [hp] at CP
  have HKS := Lib.hid (parts_keys hp)
  have HR1 : Hid (rightB h = (valuesB h && (stampsB h && sesB h))) := Lib.hid (by unfold rightB; rw [hp]; rfl)
  clear hp
  go_wp2_with fail
  refine (CP.out).mono ?_
  rintro e w2 ⟨rfl, hb2⟩
  have hb3 := below_then hb1 hb2
  have CV := Lib.hid (values_any _ h w2 (HT.out _ hb3) HOK.out HKS.out (by omega) (by omega))
  clear CP hb1 hb2
  cases hv : valuesB h
  · have H : Hid ((2 : Int) = checkI h) := Lib.hid (by rw [HCK.out, HR1.out, hv]; rfl)
    rw [hv] at CV
    clear hv
    go_wp2_with fail
    refine (CV.out).mono ?_
    rintro e w4 ⟨rfl, hb4⟩
    have hb5 := below_then hb3 hb4
    go_wp2_with fail
    go_ret
    exact ⟨ret_int H.out, hb5⟩
  rw [hv] at CV
  have HR2 : Hid (rightB h = (stampsB h && sesB h)) := Lib.hid (by rw [HR1.out, hv]; rfl)
  clear hv HR1
  go_wp2_with fail
  refine (CV.out).mono ?_
  rintro e w4 ⟨rfl, hb4⟩
  have hb5 := below_then hb3 hb4
  have CS := Lib.hid (stamps_any _ h w4 (HT.out _ hb5) HOK.out (by omega))
  clear CV hb3 hb4
  cases hs : stampsB h
  · have H : Hid ((2 : Int) = checkI h) := Lib.hid (by rw [HCK.out, HR2.out, hs]; rfl)
    rw [hs] at CS
    clear hs
    go_wp2_with fail
    refine (CS.out).mono ?_
    rintro e w6 ⟨rfl, hb6⟩
    have hb7 := below_then hb5 hb6
    go_wp2_with fail
    go_ret
    exact ⟨ret_int H.out, hb7⟩
  rw [hs] at CS
  have HR3 : Hid (rightB h = sesB h) := Lib.hid (by rw [HR2.out, hs]; rfl)
  clear hs HR2
  go_wp2_with fail
  refine (CS.out).mono ?_
  rintro e w6 ⟨rfl, hb6⟩
  have hb7 := below_then hb5 hb6
  have CE := Lib.hid (sessions_any _ h w6 (HT.out _ hb7) HOK.out (by omega))
  clear CS hb5 hb6
  cases hse : sesB h
  · have H : Hid ((2 : Int) = checkI h) := Lib.hid (by rw [HCK.out, HR3.out, hse]; rfl)
    rw [hse] at CE
    clear hse
    go_wp2_with fail
    refine (CE.out).mono ?_
    rintro e w8 ⟨rfl, hb8⟩
    have hb9 := below_then hb7 hb8
    go_wp2_with fail
    go_ret
    exact ⟨ret_int H.out, hb9⟩
  · have H : Hid ((0 : Int) = checkI h) := Lib.hid (by rw [HCK.out, HR3.out, hse]; rfl)
    rw [hse] at CE
    clear hse
    go_wp2_with fail
    refine (CE.out).mono ?_
    rintro e w8 ⟨rfl, hb8⟩
    have hb9 := below_then hb7 hb8
    go_wp2_with fail
    go_ret
    exact ⟨ret_int H.out, hb9⟩
end Go.Proofs.Ytlkdojcimlfmdaa
