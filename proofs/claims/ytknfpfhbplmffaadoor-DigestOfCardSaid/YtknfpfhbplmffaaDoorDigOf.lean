/-
  The law DigestOf: its walk.
-/
import Derived.Test.YtknfpfhbplmffaaDoorDigSmall
import Derived.Test.YtknfpfhbplmffaaDoorRefSum
namespace Go.Proofs.YtknfpfhbplmffaaDoor
open Go.RowKit Sh

set_option maxRecDepth 100000 in
set_option maxHeartbeats 1000000 in
theorem of_many (w : World) (A : Option Addr) (n c : Nat) (hn : 1000 < n) (hm : n ≤ maxLen) (hK : KT w) : Calls Tryd.prog 11 #[.slice A n c] w fun e w' => e = .returned (.bool true) ∧ Below w.heap.size w w' := by
  have HK := Lib.hid hK
  clear hK
  unfold maxLen at hm
  have hn' : (1000 : Int) < (n : Int) := by omega
  go_enter Tryd.func11, Tryd.ntmps11
  go_wp2_with fail
  refine (dsmall_any w HK.out).mono ?_
  rintro e w1 ⟨rfl, hb1⟩
  have HB1 := Lib.hid hb1
  clear hb1
  go_wp2_with fail
  go_ret
  exact ⟨rfl, HB1.out⟩

set_option maxRecDepth 100000 in
set_option maxHeartbeats 1000000 in
theorem of_few (w : World) (A : Option Addr) (c : Nat) (bs : List UInt8) (hn : bs.length ≤ 1000) (hK : KT w) (S : BytesAt w A bs.length c bs) (hA : A = none → c = 0) : Calls Tryd.prog 11 #[.slice A bs.length c] w fun e w' => e = .returned (.bool true) ∧ Below w.heap.size w w' := by
  have HK := Lib.hid hK
  have HS := Lib.hid S
  have HA := Lib.hid hA
  clear hK S hA
  have hn' : (bs.length : Int) ≤ 1000 := by omega
  go_enter Tryd.func11, Tryd.ntmps11
  go_wp2_with fail
  refine (dsmall_any w HK.out).mono ?_
  rintro e w1 ⟨rfl, hb1⟩
  have C1 := Lib.hid (kept_below hb1)
  clear hb1
  go_wp2_with fail
  refine (of_any w1 A bs.length c bs (HK.out.kept C1.out (fun h => h)) (HS.out.kept C1.out (fun _ _ _ _ h => h)) (by omega)).mono ?_
  rintro e w2 ⟨rfl, hb2⟩
  have C2 := Lib.hid (kept_trans C1.out (kept_below hb2))
  clear hb2
  go_wp2_with fail
  refine (refsum_any w2 A c bs (HS.out.kept C2.out (fun _ _ _ _ h => h)) HA.out (by omega)).mono ?_
  rintro e w3 ⟨rfl, hb3⟩
  have C3 := Lib.hid (kept_trans C2.out (kept_below hb3))
  clear hb3
  have q0 := eq_digest bs
  generalize (digest bs).map v8 = G at *
  go_wp2_with fail
  go_ret
  exact ⟨rfl, C3.out.below (Nat.le_refl _) (fun _ _ h => h)⟩
theorem of_all (w : World) (A : Option Addr) (c : Nat) (bs : List UInt8) (hm : bs.length ≤ maxLen) (hK : KT w) (S : BytesAt w A bs.length c bs) (hA : A = none → c = 0) : Calls Tryd.prog 11 #[.slice A bs.length c] w fun e w' => e = .returned (.bool true) ∧ Below w.heap.size w w' := by
  by_cases h : bs.length ≤ 1000
  · exact of_few w A c bs h hK S hA
  · exact of_many w A bs.length c (by omega) hm hK
end Go.Proofs.YtknfpfhbplmffaaDoor
