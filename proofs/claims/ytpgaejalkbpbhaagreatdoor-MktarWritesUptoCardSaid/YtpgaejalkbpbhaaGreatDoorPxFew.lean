/-
  The law's Few.
-/
import Derived.Test.YtpgaejalkbpbhaaGreatDoorPxB
namespace Go.Proofs.YtpgaejalkbpbhaaGreatDoor
open Go.RowKit Sh Px

/-- How many bytes pairs have. -/
def Px.tot (L : List Pr) : Nat := (L.map fun p => p.1.length + p.2.length).sum
theorem Px.tot_nil : tot [] = 0 := rfl
theorem Px.tot_app (a b : List Pr) : tot (a ++ b) = tot a + tot b := by simp [tot]
theorem Px.tot_one (p : Pr) : tot [p] = p.1.length + p.2.length := by simp [tot]
theorem Px.tot_take (L : List Pr) (k : Nat) : tot (L.take k) ≤ tot L := by
  conv => rhs; rw [← List.take_append_drop k L, tot_app]
  omega
theorem Px.tot_succ (L : List Pr) (k : Nat) (hk : k < L.length) : tot (L.take (k + 1)) = tot (L.take k) + L[k].1.length + L[k].2.length := by
  rw [List.take_succ_eq_append_getElem hk, tot_app, tot_one, Nat.add_assoc]
def fewF (L : List Pr) : Bool := decide (L.length ≤ 40) && decide (tot L ≤ 5000)

end Go.Proofs.YtpgaejalkbpbhaaGreatDoor
