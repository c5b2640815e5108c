/-
  The law's whole: bytes, and bytes 0 behind them up to whole blocks.
-/
import Derived.Test.YtpgaejalkbpbhaaGreatDoorUnFns
import Derived.Test.YtpgaejalkbpbhaaGreatDoorUnParts
namespace Go.Proofs.YtpgaejalkbpbhaaGreatDoor
open Go.RowKit Sh Px

def Un.padF (b : List UInt8) : List UInt8 := b ++ List.replicate (Un.whole b.length - b.length) 0
theorem Un.pad_len (b : List UInt8) : (padF b).length = whole b.length := by
  unfold padF
  have := whole_le b.length
  rw [List.length_append, List.length_replicate]
  omega
theorem pad_mod {n j : Nat} (h : j < Un.whole n - n) : (n + j) % 512 ≠ 0 := by unfold Un.whole at h; omega
theorem pad_end {n j : Nat} (h : j = Un.whole n - n) : (n + j) % 512 = 0 := by unfold Un.whole at h; omega
def slLen (v : Value) : Nat := match v with | .slice _ n _ => n | _ => 0
structure WhAt (w wr : World) (bs : List UInt8) (j : Nat) (v : Value) : Prop where
  own : OwnBytes wr w.heap.size v (bs ++ List.replicate j 0)
  low : Below w.heap.size w wr
theorem WhAt.shape {w wr : World} {bs : List UInt8} {j : Nat} {v : Value} (h : WhAt w wr bs j v) : ∃ A c, v = .slice A (bs.length + j) c := by
  obtain ⟨A, c, e, _⟩ := h.own.bytes
  rw [List.length_append, List.length_replicate] at e
  exact ⟨A, c, e⟩
theorem rep_snoc (bs : List UInt8) (j : Nat) : bs ++ List.replicate j 0 ++ [0] = bs ++ List.replicate (j + 1) 0 := by
  rw [List.append_assoc, List.replicate_succ']
set_option maxRecDepth 100000 in
set_option maxHeartbeats 4000000 in
theorem un_whole (w : World) (A : Option Addr) (n c : Nat) (bs : List UInt8) (S : BytesAt w A n c bs) (hA : A = none → c = 0) (hn : n ≤ 100000000) :
    Calls Tryz.prog 34 #[.slice A n c] w fun e w' => ∃ v, e = .returned v ∧ Hid (OwnBytes w' w.heap.size v (Un.padF bs)) ∧ Hid (Below w.heap.size w w') := by
  have HS := Lib.hid S
  have HA := Lib.hid hA
  have hlen := S.len
  clear S hA
  have HR := Lib.hid (show ∀ wr v, WhAt w wr bs (Un.whole n - n) v → OwnBytes wr w.heap.size v (Un.padF bs) from fun wr v h => by unfold Un.padF; rw [hlen]; exact h.own)
  have HQ := Lib.hid (show Un.whole n - n ≤ 511 by have := Un.whole_le n; omega)
  have HM := Lib.hid (fun j => @pad_mod n j)
  have HE := Lib.hid (fun j => @pad_end n j)
  generalize Un.whole n - n = P at *
  go_enter Tryz.func34, Tryz.ntmps34
  go_wp2_with (at_builtin; (with_reducible refine append_bytes ?_ (.tmp 4) (.tmp 5) ?_ w.heap.size _ [] ?_ (bytes_none w _ (Nat.le_refl _)) A n c bs ?_ (HS.out.kept (kept_alloc _ _) (fun _ _ _ _ h => h)) HA.out ?_ ?_ ?_); rfl; rfl; go_must (rfl; rfl; (rw [List.length_nil]; omega); (simp); (intro v1 w1 O1 M1)))
  have W1 : Hid (WhAt w w1 bs 0 v1) := Lib.hid ⟨by have := O1.out; rw [List.nil_append] at this; simpa using this, (kept_own (kept_alloc w _) M1.out (Nat.le_refl _)).below (Nat.le_refl _) (fun _ _ h => h)⟩
  clear O1 M1
  go_loopw [3] (fun v wr => ∃ j, j ≤ P ∧ Hid (WhAt w wr bs j v)) (fun v _ => n + P - slLen v)
  case atStart => exact ⟨0, Nat.zero_le _, W1⟩
  case round =>
    clear W1
    obtain ⟨j, hj, HP⟩ := hrel
    obtain ⟨A2, c2, hu⟩ := HP.out.shape
    by_cases hlt : j < P
    · have hm : (((n : Int) + (j : Int)) % 512 != 0) = true := bne_iff_ne.2 (by have := HM.out j hlt; omega)
      rw [hlen] at hu
      subst hu
      go_wp2_with (at_builtin; (with_reducible refine append_bytes ?_ (.tmp 11) (.tmp 12) ?_ w.heap.size (.slice A2 (n + j) c2) (bs ++ List.replicate j 0) ?_ (HP.out.own.on ((Below.refl _ _).alloc (Nat.le_refl _) _)) (some ⟨wr.heap.size, 0, none⟩) 1 1 [0] ?_ (BytesAt.row (bs := [0]) (Row.at_ _ _ _ rfl rfl)) ?_ ?_ ?_ ?_); rfl; rfl; go_must (rfl; rfl; (intro e; cases e); (rw [List.length_append, List.length_replicate]; have := HQ.out; omega); (have := HP.out.low.size; simp; omega); (intro v3 w3 O3 M3)))
      have hq := HQ.out
      have KB := Lib.hid ((kept_own ((kept_below HP.out.low).alloc _) M3.out (Nat.le_refl _)).below (Nat.le_refl _) (fun _ _ h => h))
      have W3 : Hid (WhAt w w3 bs (j + 1) v3) := Lib.hid ⟨by have := O3.out; rwa [rep_snoc] at this, KB.out⟩
      go_roundw
      case rel => exact ⟨j + 1, by omega, W3⟩
      case measure => obtain ⟨A3, c3, rfl⟩ := W3.out.shape; simp only [slLen]; omega
    · obtain rfl : j = P := by omega
      have hm : (((n : Int) + (j : Int)) % 512 != 0) = false := by have := HE.out j rfl; rw [bne_eq_false_iff_eq]; omega
      rw [hlen] at hu
      have HR2 := Lib.hid (HR.out _ _ HP.out)
      have HB2 := Lib.hid HP.out.low
      subst hu
      go_wp2_with fail
      go_ret
      exact ⟨_, rfl, HR2, HB2⟩
end Go.Proofs.YtpgaejalkbpbhaaGreatDoor
