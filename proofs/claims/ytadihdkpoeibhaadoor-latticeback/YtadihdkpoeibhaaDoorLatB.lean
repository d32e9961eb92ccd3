/- The walks of strings.Join at a space and of lattice.line. Conditions: the texts are known, and few and short. -/
import Derived.Test.YtadihdkpoeibhaaDoorLatA
import Derived.Test.YtadihdkpoeibhaaDoorTokD
import Derived.Test.YtadihdkpoeibhaaDoorBld
import Derived.Deep.CutRange
namespace Go.Proofs.YtadihdkpoeibhaaDoor
set_option maxRecDepth 100000
open Go.RowKit

/-- A space ahead of each text. -/
def spW (xs : List ByteArray) : List UInt8 := xs.flatMap fun x => 32 :: x.data.toList
theorem spW_succ (xs : List ByteArray) (k : Nat) (hk : k < xs.length) : spW (xs.take (k + 1)) = (spW (xs.take k) ++ [32]) ++ xs[k].data.toList := by
  unfold spW
  rw [List.take_succ_eq_append_getElem hk, List.flatMap_append]
  simp
theorem spW_len (xs : List ByteArray) (hz : ∀ y ∈ xs, y.size ≤ 1000) : (spW xs).length ≤ 1001 * xs.length := by
  unfold spW
  induction xs with
  | nil => simp
  | cons a xs ih =>
    have h1 := ih fun y hy => hz y (List.mem_cons_of_mem _ hy)
    have h2 := hz a (List.mem_cons_self ..)
    rw [Lib.size_eq] at h2
    rw [List.flatMap_cons, List.length_append, List.length_cons, List.length_cons]
    omega
theorem lret_s {a b : ByteArray} (h : a = b) : Ending.returned (.string a) = .returned (.string b) := by rw [h]
theorem quo_big {n : Int} (h1 : 1 ≤ n) (h2 : n ≤ 20) : ¬ (9223372036854775807 : Int) / n ≤ 1 := by
  have : (2 : Int) ≤ 9223372036854775807 / n := by
    rw [Int.le_ediv_iff_mul_le (by omega)]; omega
  omega
set_option maxRecDepth 100000 in
set_option maxHeartbeats 4000000 in
theorem join_any (ao : Option Addr) (cap : Nat) (x : ByteArray) (xs : List ByteArray) (w : World) (hS : Strs w (.slice ao (xs.length + 1) cap) (x :: xs)) (h1 : 1 ≤ xs.length) (hn : xs.length ≤ 20) (hz : ∀ y ∈ x :: xs, y.size ≤ 1000) :
    Calls Tryd.prog 26 #[.slice ao (xs.length + 1) cap, .string ⟨#[32]⟩] w fun e w' => e = .returned (.string ⟨(x.data.toList ++ spW xs).toArray⟩) ∧ Below w.heap.size w w' := by
  have HS := Lib.hid (fun wx (hx : Below w.heap.size w wx) => hS.below hx)
  have HZ : Hid (∀ k (hk : k < (x :: xs).length), (x :: xs)[k].size ≤ 1000) := Lib.hid (fun k hk => hz _ (List.getElem_mem hk))
  have HZ1 := Lib.hid (hz x (List.mem_cons_self ..))
  have HZ2 : Hid (∀ k (hk : k < xs.length), xs[k].size ≤ 1000) := Lib.hid (fun k hk => hz _ (List.mem_cons_of_mem _ (List.getElem_mem hk)))
  have HSP := Lib.hid (fun k => spW_len (xs.take k) fun y hy => hz y (List.mem_cons_of_mem _ (List.mem_of_mem_take hy)))
  have HSU := Lib.hid (fun k (hk : k < xs.length) => spW_succ xs k hk)
  obtain ⟨g0, o0, rfl, hc0⟩ := hS.at (k := 0) (by simp)
  have HC0 : Hid (w.cell? ⟨g0, o0, none⟩ = some (.string x)) := Lib.hid hc0
  have hg0 : g0 < w.heap.size := block_lt hc0
  have hcap : xs.length + 1 ≤ cap ∧ cap ≤ 9223372036854775807 := by
    obtain ⟨a, c, e, h, _⟩ := hS.form
    cases e
    simpa using h
  clear hS hz hc0
  obtain ⟨n, hxn⟩ : ∃ n, n = xs.length := ⟨_, rfl⟩
  have HXN := Lib.hid hxn
  have hd0 : ((n : Int) + 1 == 0) = false := by rw [beq_eq_false_iff_ne]; omega
  have hd1 : ((n : Int) + 1 == 1) = false := by rw [beq_eq_false_iff_ne]; omega
  have hq0 := quo_big (n := (n : Int)) (by omega) (by omega)
  have hq : decide ((9223372036854775807 : Int) / (n : Int) ≤ 1) = false := decide_eq_false hq0
  rw [← hxn] at hcap hn h1 ⊢
  rw [← hxn] at HS
  clear hxn
  go_enter Tryd.func26, Tryd.ntmps26
  go_upto_region 11 with fail
  go_wp2_with fail
  go_loopw [5, 41] (fun v i wr => ∃ k m : Nat, k ≤ n + 1 ∧ i = .int .i64 k ∧ v = .int .i64 m ∧ m ≤ 20 + 1000 * k ∧ w = wr) (fun _ i _ => n + 1 - (intOf i).toNat)
  case atStart => exact ⟨0, n, by omega, rfl, by go_num, by omega, rfl⟩
  case round =>
    obtain ⟨k, m, hk, rfl, rfl, hm, rfl⟩ := hrel
    by_cases hlt : k < n + 1
    · have hki : (k : Int) < ((n + 1 : Nat) : Int) := by omega
      have hkl : k < (x :: xs).length := by rw [List.length_cons, ← HXN.out]; exact hlt
      obtain ⟨g, o, e, hc⟩ := (HS.out _ (Below.refl _ _)).at hkl
      cases e
      have hz := HZ.out k hkl
      generalize (x :: xs)[k] = y at *
      have hov : decide (9223372036854775807 - (m : Int) < (y.size : Int)) = false := decide_eq_false (by omega)
      go_wp2_with fail
      go_roundw
      case rel => exact ⟨k + 1, m + y.size, by omega, by go_num, by go_num, by omega, by first | rfl | trivial⟩
      case measure => simp [intOf]; omega
    · obtain rfl : k = n + 1 := by omega
      have hki : ¬ (n : Int) + 1 < (n : Int) + 1 := by omega
      have hm' : m ≤ 281474976710656 := by omega
      have HG := Lib.hid (fun wx (hb : wx.heap[w.heap.size]? = some (.cells #[.pointer none, .slice none 0 0] 59 (0, 0))) hz => Tryd.Builder_Grow_fresh w.heap.size w.heap.size m wx (Nat.le_refl _) hb hz hm')
      have hx0 : Below w.heap.size w (w.alloc (.cells #[.pointer none, .slice none 0 0] 59)) := (Below.refl _ _).alloc (Nat.le_refl _) _
      have hbk := heap_alloc_new w (.cells #[.pointer none, .slice none 0 0] 59)
      have hzz : w.heap.size ≤ (w.alloc (.cells #[.pointer none, .slice none 0 0] 59)).heap.size := hx0.size
      have HG1 := Lib.hid (HG.out _ hbk hzz)
      clear hm hk hm' HG hbk hzz hq hq0 hd0 hd1
      go_wp2_with fail
      refine HG1.out.mono ?_
      rintro e w2 ⟨rfl, hB2, hb2⟩
      have hb2 := hx0.trans hb2
      have hBl : Bld w.heap.size w.heap.size [] w2 := ⟨.inr hB2, hb2.size⟩
      obtain ⟨g, o, e, hc⟩ := (HS.out _ hb2).at (k := 0) (by simp)
      cases e
      simp only [List.getElem_cons_zero, Nat.add_zero] at hc
      have HZX := HZ1.out
      have CW := Lib.hid (write_any w.heap.size w.heap.size [] x w2 hBl (by simp; omega))
      rw [List.nil_append] at CW
      clear HG1 hx0 hB2 hBl HC0
      go_wp2_with fail
      refine CW.out.mono ?_
      rintro e w3 ⟨rfl, hB3, h3⟩
      have hb3 := hb2.trans h3
      clear CW hc h3 hb2 HZX
      go_wp2_with fail
      go_loopw [65] (fun i wx => ∃ k : Nat, k ≤ n ∧ i = .int .i64 k ∧ Bld w.heap.size w.heap.size (x.data.toList ++ spW (xs.take k)) wx ∧ Below w.heap.size w wx) (fun i _ => n - (intOf i).toNat)
      case atStart => exact ⟨0, by omega, rfl, by unfold spW; simpa using hB3, hb3⟩
      case round =>
        clear hB3 hb3
        obtain ⟨k, hk, rfl, hB, hb⟩ := hrel
        by_cases hlt : k < n
        · have hki : (k : Int) < (n : Int) := by omega
          have hkl : k < xs.length := by rw [← HXN.out]; exact hlt
          obtain ⟨g, o, e, hc⟩ := (HS.out _ hb).at (k := k + 1) (by simp; exact hkl)
          cases e
          have HSK := Lib.hid (HSU.out k hkl)
          have hz := HZ2.out k hkl
          simp only [List.getElem_cons_succ] at hc
          rw [show o0 + (k + 1) = o0 + 1 + k from by omega] at hc
          generalize xs[k] = y at *
          have hsp := HSP.out k
          have hxz := HZ1.out
          rw [List.length_take] at hsp
          have hll : (x.data.toList ++ spW (xs.take k)).length ≤ 100000 := by rw [List.length_append, ← Lib.size_eq]; omega
          have HSE : Hid (x.data.toList ++ spW (xs.take (k + 1)) = (x.data.toList ++ spW (xs.take k) ++ [32]) ++ y.data.toList) := Lib.hid (by rw [HSK.out]; simp)
          generalize x.data.toList ++ spW (xs.take k) = L at *
          have CW1 := Lib.hid (write_any w.heap.size w.heap.size L ⟨#[32]⟩ wr hB (by show L.length + 1 ≤ _; omega))
          clear hB HSK
          go_wp2_with fail
          refine CW1.out.mono ?_
          rintro e w5 ⟨rfl, hB5, h5⟩
          have hc5 := (h5.cell (p := ⟨g0, o0 + 1 + k, none⟩) hg0).trans hc
          have hb5 := hb.trans h5
          have CW2 := Lib.hid (write_any w.heap.size w.heap.size (L ++ [32]) y w5 hB5 (by rw [List.length_append]; show L.length + 1 + _ ≤ _; omega))
          clear CW1 hB5 h5 hb hc hc5
          go_wp2_with fail
          refine CW2.out.mono ?_
          rintro e w6 ⟨rfl, hB6, h6⟩
          have hb6 := hb5.trans h6
          clear CW2 h6 hb5
          go_wp2_with fail
          go_roundw
          case rel => exact ⟨k + 1, by omega, by go_num, by rw [HSE.out]; exact hB6, hb6⟩
          case measure => simp [intOf]; omega
        · obtain rfl : k = n := by omega
          have hki : ¬ (k : Int) < (k : Int) := by omega
          rw [HXN.out, List.take_length] at hB
          have CS := Lib.hid (bld_string w.heap.size w.heap.size _ wr hB)
          clear hB
          go_wp2_with fail
          refine CS.out.mono ?_
          rintro e w7 ⟨rfl, h7⟩
          go_wp2_with fail
          go_ret
          exact ⟨rfl, hb.trans h7⟩
end Go.Proofs.YtadihdkpoeibhaaDoor
