/-
  The law UntarAttrs: its walk.
-/
import Derived.Test.YtpgaejalkbpbhaaGreatDoorUnSmall
import Derived.Test.YtpgaejalkbpbhaaGreatDoorUnRef
import Derived.Test.YtpgaejalkbpbhaaGreatDoorPxFew
namespace Go.Proofs.YtpgaejalkbpbhaaGreatDoor
open Go.RowKit Sh Px

theorem flat_tot (L : List Pr) : (flat L).length ≤ 2 * tot L + 30 * L.length := by
  induction L with
  | nil => exact Nat.zero_le _
  | cons p r ih =>
    have h1 : tot (p :: r) = p.1.length + p.2.length + tot r := by simp [tot]
    have h2 := len_bound (rest p).length
    have h3 := rest_length p
    rw [flat_cons, List.length_append, record_length, h1, List.length_cons]
    omega

end Go.Proofs.YtpgaejalkbpbhaaGreatDoor
