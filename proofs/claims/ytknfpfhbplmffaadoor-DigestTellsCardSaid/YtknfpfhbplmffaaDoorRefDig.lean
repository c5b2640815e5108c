/-
  What the reference answers of digests: Less, value, digit, Print.
-/
import Derived.Test.YtknfpfhbplmffaaDoorDigSmall
namespace Go.Proofs.YtknfpfhbplmffaaDoor
open Go.RowKit Sh

set_option maxRecDepth 100000 in
set_option maxHeartbeats 400000 in
theorem refless_any (a b : List UInt8) (ha : a.length = 32) (hb : b.length = 32) (w : World) :
    Calls Tryd.prog 25 #[.agg (a.map v8).toArray, .agg (b.map v8).toArray] w fun e w' => e = .returned (.bool (Dg.less a b)) ∧ Below w.heap.size w w' := by
  have h0 : LessAt w ((w.alloc (.cells (a.map v8).toArray 25)).alloc (.cells (b.map v8).toArray 25)) a b 0 :=
    ⟨(Row.at_ _ _ _ rfl rfl).alloc _, Row.at_ _ _ _ rfl (by simp), ((Below.refl _ _).alloc (Nat.le_refl _) _).alloc (by simp) _, rfl⟩
  have H0 := Lib.hid h0
  have HA := Lib.hid ha
  have HB := Lib.hid hb
  clear h0 ha hb
  generalize hAA : a.map v8 = AA at *
  generalize hBB : b.map v8 = BB at *
  have HAA := Lib.hid hAA
  have HBB := Lib.hid hBB
  clear hAA hBB
  go_enter Tryd.func25, Tryd.ntmps25
  go_wp2_with fail
  go_loopw [5] (fun i wr => ∃ k : Nat, k ≤ 32 ∧ i = .int .i64 k ∧ Hid (LessAt w wr a b k)) (fun i _ => 32 - (intOf i).toNat)
  case atStart => exact ⟨0, Nat.zero_le _, rfl, H0⟩
  case round =>
    obtain ⟨k, hk, rfl, hs⟩ := hrel
    by_cases hlt : k < 32
    · have ca : wr.cell? ⟨w.heap.size, k, none⟩ = some (.int .u8 (n8 (a.getD k 0))) := hs.out.ra.cell (by
        rw [List.getElem?_map, List.getElem?_eq_getElem (by rw [HA.out]; exact hlt)]
        simp [List.getD, v8, HA.out, hlt])
      have cb : wr.cell? ⟨w.heap.size + 1, k, none⟩ = some (.int .u8 (n8 (b.getD k 0))) := hs.out.rb.cell (by
        rw [List.getElem?_map, List.getElem?_eq_getElem (by rw [HB.out]; exact hlt)]
        simp [List.getD, v8, HB.out, hlt])
      have hat := less_at' a b k
      have hmo := more' a b k
      generalize hx : a.getD k 0 = x at *
      generalize hy : b.getD k 0 = y at *
      have HAT := Lib.hid hat
      have HMO := Lib.hid hmo
      have q0 := n8_nonneg x
      have q1 := n8_lt x
      have q2 := n8_nonneg y
      have q3 := n8_lt y
      have l0 : 0 ≤ (k : Int) ∧ (k : Int) < 32 := by omega
      clear hx hy hat hmo
      by_cases he : x = y
      · have e1 : (n8 x != n8 y) = false := by rw [he]; simp
        have e2 : (n8 x == n8 y) = true := by rw [he]; simp
        have HE := Lib.hid he
        clear he
        go_wp2_with fail
        go_quiet (fail)
        go_wp2_with fail
        go_roundw
        case rel => exact ⟨k + 1, by omega, by go_num, ⟨hs.out.ra, hs.out.rb, below_drewN hs.out.below _, HMO.out hs.out.same HA.out HB.out (by omega) HE.out⟩⟩
        case measure => simp [intOf] <;> omega
      · have e1 : (n8 x != n8 y) = true := by rw [bne_iff_ne]; exact fun h => he (n8_inj h)
        have e2 : (n8 x == n8 y) = false := by rw [beq_eq_false_iff_ne]; exact fun h => he (n8_inj h)
        have HE := Lib.hid he
        clear he
        go_wp2_with fail
        go_quiet (fail)
        go_wp2_with fail
        go_quiet (fail)
        go_wp2_with fail
        go_ret
        exact ⟨by rw [HAT.out hs.out.same HA.out HB.out (by omega) HE.out]; rfl, below_drewN (below_drewN hs.out.below _) _⟩
    · have hge : (32 : Int) ≤ (k : Int) := by omega
      go_wp2_with fail
      go_ret
      refine ⟨?_, hs.out.below⟩
      have e : k = 32 := by omega
      have h := hs.out.same
      rw [e, List.take_of_length_le (by rw [HA.out]; omega), List.take_of_length_le (by rw [HB.out]; omega)] at h
      rw [h, Dg.less_irrefl]
      rfl

def Dg.val16 (c : UInt8) : Int := if Dg.val c < 0 then 16 else Dg.val c
theorem Dg.val_num (c : UInt8) : 48 ≤ c.toNat → c.toNat ≤ 57 → Dg.val16 c = n8 c - 48 :=
  Dg.of_lt256 (p := fun c => 48 ≤ c.toNat → c.toNat ≤ 57 → Dg.val16 c = n8 c - 48) (by decide +kernel) c
theorem Dg.val_let (c : UInt8) : 97 ≤ c.toNat → c.toNat ≤ 102 → Dg.val16 c = n8 c - 97 + 10 :=
  Dg.of_lt256 (p := fun c => 97 ≤ c.toNat → c.toNat ≤ 102 → Dg.val16 c = n8 c - 97 + 10) (by decide +kernel) c
theorem Dg.val_non (c : UInt8) : (c.toNat < 48 ∨ (57 < c.toNat ∧ c.toNat < 97) ∨ 102 < c.toNat) → Dg.val16 c = 16 :=
  Dg.of_lt256 (p := fun c => (c.toNat < 48 ∨ (57 < c.toNat ∧ c.toNat < 97) ∨ 102 < c.toNat) → Dg.val16 c = 16) (by decide +kernel) c
set_option maxHeartbeats 400000 in
theorem value_any (c : UInt8) (w : World) : Calls Tryd.prog 34 #[.int .u8 (n8 c)] w fun e w' => e = .returned (.int .i64 (Dg.val16 c)) ∧ w = w' := by
  have q0 := n8_nonneg c
  have q1 := n8_lt c
  have hv1 := Dg.val_num c
  have hv2 := Dg.val_let c
  have hv3 := Dg.val_non c
  have hn : (c.toNat : Int) = n8 c := rfl
  have h1 : 48 ≤ n8 c → n8 c ≤ 57 → Dg.val16 c = n8 c - 48 := fun a b => hv1 (by omega) (by omega)
  have h2 : 97 ≤ n8 c → n8 c ≤ 102 → Dg.val16 c = n8 c - 97 + 10 := fun a b => hv2 (by omega) (by omega)
  have h3 : (n8 c < 48 ∨ (57 < n8 c ∧ n8 c < 97) ∨ 102 < n8 c) → Dg.val16 c = 16 := fun a => hv3 (by omega)
  clear hv1 hv2 hv3 hn
  generalize Dg.val16 c = v at *
  generalize n8 c = n at *
  have hc : (48 ≤ n ∧ n ≤ 57) ∨ (97 ≤ n ∧ n ≤ 102) ∨ n < 48 ∨ (57 < n ∧ n < 97) ∨ 102 < n := by omega
  rcases hc with ⟨a, b⟩ | ⟨a, b⟩ | a | ⟨a, b⟩ | a
  · have e := h1 a b
    subst e
    clear h1 h2 h3
    go_enter Tryd.func34, Tryd.ntmps34
    go_wp2
    go_ret
    exact ⟨rfl, rfl⟩
  · have e := h2 a b
    subst e
    clear h1 h2 h3
    go_enter Tryd.func34, Tryd.ntmps34
    go_wp2
    go_ret
    exact ⟨rfl, rfl⟩
  · have e := h3 (by omega)
    subst e
    clear h1 h2 h3
    go_enter Tryd.func34, Tryd.ntmps34
    go_wp2
    go_ret
    exact ⟨rfl, rfl⟩
  · have e := h3 (by omega)
    subst e
    clear h1 h2 h3
    go_enter Tryd.func34, Tryd.ntmps34
    go_wp2
    go_ret
    exact ⟨rfl, rfl⟩
  · have e := h3 (by omega)
    subst e
    clear h1 h2 h3
    go_enter Tryd.func34, Tryd.ntmps34
    go_wp2
    go_ret
    exact ⟨rfl, rfl⟩

theorem digit_cut (k : Nat) (hk : k < 16) : (⟨#[48, 49, 50, 51, 52, 53, 54, 55, 56, 57, 97, 98, 99, 100, 101, 102]⟩ : ByteArray).extract k (k + 1) = ⟨#[Dg.hx k]⟩ := by
  rw [Lib.extract_eq, show k + 1 - k = 1 by omega]
  apply ByteArray.ext
  revert k
  decide +kernel
set_option maxHeartbeats 400000 in
theorem digit_any (k : Nat) (hk : k < 16) (w : World) : Calls Tryd.prog 35 #[.int .i64 (k : Int)] w fun e w' => e = .returned (.string ⟨#[Dg.hx k]⟩) ∧ w = w' := by
  have hc := digit_cut k hk
  have l0 : 0 ≤ (k : Int) ∧ (k : Int) < 16 := by omega
  have HC := Lib.hid hc
  clear hc
  go_enter Tryd.func35, Tryd.ntmps35
  go_wp2
  go_ret
  exact ⟨by rw [← HC.out]; rfl, rfl⟩
end Go.Proofs.YtknfpfhbplmffaaDoor
