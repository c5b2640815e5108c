/-
  The small case of layer 8.
-/
import Derived.Test.YtpgaejalkbpbhaaGreatDoorUnGot
import Derived.Test.YtpgaejalkbpbhaaGreatDoorUnA
namespace Go.Proofs.YtpgaejalkbpbhaaGreatDoor
open Go.RowKit Sh Px Hd

theorem lay_xy : lay 0 (([120, 121] : List UInt8).take 512) (List.replicate 512 0) = [120, 121] ++ List.replicate 510 0 := by
  unfold lay
  rw [List.take_zero, List.nil_append, show (0 + (([120, 121] : List UInt8).take 512).length) = 2 from rfl, List.drop_replicate]
  rfl
theorem smallL_flat : (flat Un.smallL).length ≤ 100000000 := by
  unfold Un.smallL
  rw [flat_cons, flat_cons, flat_cons, flat_nil, List.append_nil, List.length_append, List.length_append, record_length, record_length, record_length]
  have h (p : Pr) : len (rest p).length ≤ 2 * (rest p).length + 10 := by
    have := len_bound (rest p).length
    omega
  have h1 := h (Un.attrKey ++ [98], [49])
  have h2 := h (Un.kPath, [113])
  have h3 := h (Un.attrKey ++ [97], [50])
  rw [rest_length] at h1 h2 h3 ⊢
  rw [rest_length, rest_length]
  simp only [Un.attrKey, Un.kPath, List.length_append, List.length_cons, List.length_nil] at *
  omega

/-- The small case's attributes. -/
theorem small_attrs_call (W : World) (g : Nat) (hR : Row W g 63 (cellsOf Un.smallL)) (hE : UnEnv W) :
    Calls Tryz.prog 40 #[.slice (some ⟨g, 0, none⟩) 3 3] W fun e w' => e = .returned (.string (sb Un.smallT)) ∧ Hid (Below W.heap.size W w') := by
  refine (un_attrs W (some ⟨g, 0, none⟩) 3 3 Un.smallL (PairsAt.lay hR 3 rfl) (by decide) smallL_flat hE.tab).mono ?_
  rintro e w' ⟨rfl, h⟩
  rw [Un.small_attrs]
  exact ⟨rfl, h⟩
theorem own_lt {w : World} {B : Nat} {v : Value} {bs : List UInt8} (h : OwnBytes w B v bs) : ∀ b, v.ownBlock = some b → b < w.heap.size := by
  intro b e
  obtain ⟨hl, ⟨e2, _⟩ | ⟨gg, cap, cur, e2, hg, hh, _⟩⟩ := h
  · rw [e2] at e; cases e
  · rw [e2] at e
    have e' : gg = b := by simpa [Value.ownBlock] using e
    have := (Array.getElem?_eq_some_iff.1 hh).1
    omega

end Go.Proofs.YtpgaejalkbpbhaaGreatDoor
