/-
  JsonParses: what is parsed.
-/
import Derived.Test.YtpakfjfkibphjaaGreatDoorJsRE
import Derived.Test.YtpakfjfkibphjaaGreatDoorJsSmallW
import Derived.Test.YtpakfjfkibphjaaGreatDoorJsSame
namespace Go.Proofs.YtpakfjfkibphjaaGreatDoor
open Go.RowKit Sh Jt Js
def lstP : Res → List V
  | .ok _ l _ => l
  | .err _ => []
def codeP : Res → Nat
  | .ok _ _ _ => 0
  | .err c => c
theorem parse_post {w w' : World} {R : Res} {e : Ending} (h : ParsePost w R e w') : ∃ (A : Option Addr) (c : Nat), e = .returned (.tuple #[.slice A (lstP R).length c, .int .i64 (codeP R : Nat)]) ∧ ValsAt w' A (lstP R).length c (lstP R) ∧ Below w.heap.size w w' := by
  cases R with
  | ok n l r =>
    obtain ⟨v, rfl, o, k⟩ := h
    obtain ⟨A, c, rfl, hv, _⟩ := o.vals
    exact ⟨A, c, rfl, hv, k⟩
  | err c =>
    obtain ⟨rfl, _, k⟩ := h
    exact ⟨none, 0, rfl, ValsAt.nil _ _ _, k⟩
theorem parse_few (s : List UInt8) : (lstP (parseF s)).length ≤ 5000 := by
  cases hpp : parseF s with
  | ok a l r =>
    obtain ⟨_, _, t, ht⟩ := parse_right hpp
    exact ht.1
  | err c => exact Nat.zero_le _
set_option maxRecDepth 100000 in
set_option maxHeartbeats 8000000 in
theorem jsonParses_all (w : World) (A : Option Addr) (n c : Nat) (bs : List UInt8) (hB : BytesAt w A n c bs) (hE : LEnv w) :
    Calls Tryz.prog 3 #[.slice A n c] w fun e w' => e = .returned (.bool true) ∧ Below w.heap.size w w' := by
  have HS := Lib.hid (js_small w hE)
  have HE := Lib.hid hE
  have HB := Lib.hid hB
  clear hE hB
  by_cases hn : n ≤ 2000
  · have hni : ¬ 2000 < (n : Int) := by omega
    have hln := parse_few bs
    go_enter Tryz.func3, Tryz.ntmps3
    go_wp2_with fail
    refine HS.out.mono ?_
    rintro e w1 ⟨rfl, HB1⟩
    have HP := Lib.hid (js_parse w1 A n c bs (HB.out.below HB1.out) (by omega) (HE.out.below HB1.out).js)
    clear HS
    go_wp2_with fail
    refine HP.out.mono ?_
    rintro e w2 hp2
    obtain ⟨A2, k2, rfl, V2, K2⟩ := parse_post hp2
    have HV2 := Lib.hid V2
    have HB2 := Lib.hid (HB1.out.trans (K2.mono HB1.out.size))
    have HQ := Lib.hid (js_rparse w2 A n c bs (HB.out.below HB2.out) (by omega))
    clear hp2 V2 K2 HP HB1
    go_wp2_with fail
    refine HQ.out.mono ?_
    rintro e w3 hp3
    obtain ⟨A3, k3, rfl, V3, K3⟩ := parse_post hp3
    have HB3 := Lib.hid (HB2.out.trans (K3.mono HB2.out.size))
    have HSM := Lib.hid (js_same w3 A2 A3 (lstP (parseF bs)).length k2 (lstP (parseF bs)).length k3 _ _ (HV2.out.below K3) V3 (by have := hln; omega) (by have := hln; omega))
    rw [decide_eq_true (rfl : lstP (parseF bs) = lstP (parseF bs))] at HSM
    clear hp3 V3 K3 HQ HB2 HV2
    generalize (lstP (parseF bs)).length = ln at *
    generalize codeP (parseF bs) = cd at *
    go_wp2_with fail
    refine HSM.out.mono ?_
    rintro e w4 ⟨rfl, m4, rfl⟩
    go_wp2_with fail
    go_ret
    exact ⟨rfl, below_drewN HB3.out _⟩
  · have hni : 2000 < (n : Int) := by omega
    go_enter Tryz.func3, Tryz.ntmps3
    go_wp2_with fail
    refine HS.out.mono ?_
    rintro e w1 ⟨rfl, HB1⟩
    clear HS
    go_wp2_with fail
    go_ret
    exact ⟨rfl, HB1.out⟩
end Go.Proofs.YtpakfjfkibphjaaGreatDoor
