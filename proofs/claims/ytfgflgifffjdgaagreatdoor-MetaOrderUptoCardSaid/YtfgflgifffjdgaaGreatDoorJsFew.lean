/-
  The law's Few: is a row short?
-/
import Derived.Test.YtfgflgifffjdgaaGreatDoorJsMem
import Derived.BigQuiet
namespace Go.Proofs.YtfgflgifffjdgaaGreatDoor
open Go.RowKit Sh Jt Js
/-- What the lengths of a row's Keys and Texts come to. -/
def sumV (L : List V) : Nat := (L.map fun v => v.key.length + v.text.length).sum
theorem sumV_take (L : List V) (k : Nat) (h : k < L.length) : sumV (L.take (k + 1)) = sumV (L.take k) + (L[k].key.length + L[k].text.length) := by
  unfold sumV
  rw [List.take_succ_eq_append_getElem h, List.map_append, List.sum_append]
  simp
theorem sumV_cons (v : V) (L : List V) : sumV (v :: L) = v.key.length + v.text.length + sumV L := by
  unfold sumV
  rw [List.map_cons, List.sum_cons]
theorem sumV_mem : ∀ {L : List V} {v : V}, v ∈ L → v.key.length + v.text.length ≤ sumV L
  | a :: r, v, h => by
    rw [sumV_cons]
    rcases List.mem_cons.1 h with rfl | h
    · omega
    · have := sumV_mem h
      omega
theorem few_wrap {x : Int} (h : -9223372036854775808 ≤ x ∧ x ≤ 9223372036854775807) : wrap64 x = x := by unfold wrap64; omega
theorem few_step (a b c : Nat) (h : a + (b + c) ≤ 22517998136852480) : wrap64 (wrap64 ((a : Int) + (b : Int)) + (c : Int)) = ((a + (b + c) : Nat) : Int) := by
  rw [few_wrap (x := (a : Int) + (b : Int)) (by omega), few_wrap (by omega)]
  omega
def fewF (L : List V) : Bool := decide (L.length ≤ 80) && decide (sumV L ≤ 3000)
/-- Texts of lengths that memory may hold. -/
def Fits (L : List V) : Prop := ∀ v ∈ L, v.key.length ≤ 140737488355328 ∧ v.text.length ≤ 140737488355328
theorem sumV_fits : ∀ (L : List V), Fits L → sumV L ≤ L.length * 281474976710656
  | [], _ => Nat.le_refl _
  | v :: r, h => by
    have h1 := sumV_fits r (fun x hx => h x (List.mem_cons_of_mem _ hx))
    have h2 := h v List.mem_cons_self
    rw [sumV_cons, List.length_cons]
    omega
set_option maxRecDepth 100000 in
set_option maxHeartbeats 4000000 in
theorem js_few (w : World) (A : Option Addr) (n c : Nat) (L : List V) (hL : ValsAt w A n c L) (hn : n ≤ 140737488351232) (hs : Fits L) :
    Calls Tryz.prog 39 #[.slice A n c] w fun e w' => e = .returned (.bool (fewF L)) ∧ ∃ m, w' = w.drewN m := by
  have HL := Lib.hid hL
  have hlen := hL.len
  have HS := Lib.hid hs
  obtain ⟨RV, hRV⟩ : ∃ RV, RV = fewF L := ⟨_, rfl⟩
  rw [← hRV]
  have HRV := Lib.hid hRV
  clear hL hRV hs
  go_enter Tryz.func39, Tryz.ntmps39
  go_wp2_with fail
  go_loopg [3, 4] n (fun g v3 v4 wr => ∃ (k m : Nat) (x : Int), v4 = .int .i64 (k : Int) ∧ v3 = .int .i64 x ∧ k + g = n ∧ wr = w.drewN m ∧ Hid (n ≤ 80 → x = (sumV (L.take k) : Nat)))
  case atStart => exact ⟨0, 0, 0, rfl, rfl, by omega, rfl, Lib.hid (fun _ => rfl)⟩
  case round =>
    obtain ⟨k, m, x, rfl, rfl, hkg, rfl, HX⟩ := hrel
    cases gk with
    | zero =>
      obtain rfl : k = n := by omega
      have hge : ¬ (k : Int) < (k : Int) := by omega
      have hall : L.take k = L := List.take_of_length_le (by omega)
      by_cases h8 : k ≤ 80
      · have h8' : (k : Int) ≤ 80 := by omega
        have hd8 : decide ((k : Int) ≤ 80) = true := decide_eq_true h8'
        have hx := HX.out h8
        rw [hall] at hx
        have HRR := Lib.hid (show decide (x ≤ 3000) = RV from by
          rw [HRV.out, hx]
          unfold fewF
          rw [hlen, decide_eq_true h8, Bool.true_and]
          by_cases h3 : sumV L ≤ 3000
          · rw [decide_eq_true h3, decide_eq_true (by omega)]
          · rw [decide_eq_false h3, decide_eq_false (by omega)])
        clear HX hall hx
        go_wp2_with fail
        go_ret
        exact ⟨by rw [← HRR.out]; rfl, _, rfl⟩
      · have h8' : ¬ (k : Int) ≤ 80 := by omega
        have hd8 : decide ((k : Int) ≤ 80) = false := decide_eq_false h8'
        have HRR := Lib.hid (show RV = false from by
          rw [HRV.out]
          unfold fewF
          rw [hlen, decide_eq_false h8, Bool.false_and])
        clear HX hall
        go_wp2_with fail
        go_ret
        exact ⟨by rw [HRR.out]; rfl, _, rfl⟩
    | succ g =>
      obtain ⟨b, o, rfl, hbl, _⟩ := HL.out.at_ (by omega)
      have hkl : k < L.length := by omega
      obtain ⟨x0, x1, x2, x3⟩ := HL.out.cells hkl
      have hkn : (k : Int) < (n : Int) := by omega
      have HSM := Lib.hid (sumV_take L k hkl)
      have HB := Lib.hid (show n ≤ 80 → sumV (L.take (k + 1)) ≤ 22517998136852480 from fun h80 => by
        have h1 := sumV_fits (L.take (k + 1)) (fun v hv => HS.out v (List.mem_of_mem_take hv))
        have h2 : (L.take (k + 1)).length ≤ 80 := by rw [List.length_take]; omega
        omega)
      have hz1 := sb_size L[k].key
      have hz2 := sb_size L[k].text
      generalize L[k] = p at *
      generalize sb p.key = s1 at *
      generalize sb p.text = s2 at *
      generalize p.kind = s3 at *
      generalize p.count = s4 at *
      go_upto_region 5 with fail
      go_quiet (fail)
      rw [World.drewN_drewN]
      go_wp2_with fail
      go_roundg g
      case measure => omega
      case rel =>
        refine ⟨k + 1, m + nq, _, by go_num, rfl, by omega, rfl, Lib.hid (fun h80 => ?_)⟩
        have h1 := HX.out h80
        have h2 := HB.out h80
        rw [HSM.out] at h2 ⊢
        rw [h1]
        exact few_step _ _ _ h2
end Go.Proofs.YtfgflgifffjdgaaGreatDoor
