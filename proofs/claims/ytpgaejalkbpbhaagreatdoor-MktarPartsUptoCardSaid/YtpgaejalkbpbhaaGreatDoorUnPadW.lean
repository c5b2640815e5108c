/-
  The law UntarPad: its walk.
-/
import Derived.Test.YtpgaejalkbpbhaaGreatDoorUnSmall
import Derived.Test.YtpgaejalkbpbhaaGreatDoorUnWhole
namespace Go.Proofs.YtpgaejalkbpbhaaGreatDoor
open Go.RowKit Sh Px Hd

/-- A header that fits, with another size. -/
theorem fit_size (h : H) (n : Nat) (hn : n < 8589934592) (h0 : fitAll { h with size := 0 } = true) : fitAll { h with size := (n : Int) } = true := by
  rw [fitAll_iff] at h0 ⊢
  intro k hk
  have hs : fitOf (tellTx { h with size := (n : Int) }) (tellNm { h with size := (n : Int) }) 4 = (writeZ (n : Int) 12).isSome := rfl
  have hf := Un.write_fit n 12 (by decide) (by unfold Oc.big; omega) (by omega)
  have h1 := h0 k hk
  obtain rfl | rfl | rfl | rfl | rfl | rfl | rfl | rfl | rfl | rfl | rfl | rfl | rfl : k = 0 ∨ k = 1 ∨ k = 2 ∨ k = 3 ∨ k = 4 ∨ k = 5 ∨ k = 6 ∨ k = 7 ∨ k = 8 ∨ k = 9 ∨ k = 10 ∨ k = 11 ∨ k = 12 := by omega
  case inr.inr.inr.inr.inl => rw [hs]; exact hf
  all_goals exact h1
theorem print_size (h : H) (n : Nat) (hn : n < 8589934592) (h0 : fitAll { h with size := 0 } = true) : ∃ b, printF { h with size := (n : Int) } = some b := by
  unfold Hd.printF
  rw [if_pos (fit_size h n hn h0)]
  exact ⟨_, rfl⟩
def padH (n : Nat) : H := ⟨[102], 0, 0, 0, n, 0, 48, [], 0, 0⟩
theorem padH_print (n : Nat) (hn : n < 8589934592) : ∃ b, printF (padH n) = some b := print_size (padH 0) n hn (by decide +kernel)
def padE (d : List UInt8) : Un.E := ⟨[102], 0, 0, 0, 0, 0, [], d, 0, 0, []⟩
theorem padE_is (d : List UInt8) : Un.entryOf (padH d.length) 0 d [] = padE d := by
  unfold Un.entryOf
  rw [Un.attrs_nil]
  rfl
theorem pad_read (d p b : List UInt8) (hb : printF (padH d.length) = some b) (hl : p.length = Un.whole d.length - d.length) : Un.untarF (b ++ d ++ p ++ List.replicate 1024 0) = (0, [padE d]) := by
  have hw := Un.whole_le d.length
  rw [List.append_assoc b, Un.untar_one d p hb (show (48 : UInt8) ≠ 120 by decide) (k := 0) rfl (show ([102] : List UInt8) ≠ [] by decide) (show Un.textOk [102] = true by decide) (show Un.textOk [] = true by decide) rfl (.inl rfl) (by rw [List.length_append, hl]; omega), padE_is]
theorem padE_built (d : List UInt8) : Tryz.prog.built 28 [(6, .string (sb d))] = some (nodeL (padE d)).toArray ∧ Tryz.prog.built 30 [(0, .string ⟨#[102]⟩), (1, .agg (nodeL (padE d)).toArray)] = some (entL (padE d)).toArray := by
  constructor
  · show Tryz.prog.built 28 [(6, .string (sb d))] = some #[.int .i64 0, .int .i64 0, .int .i64 0, .int .i64 0, .int .i64 0, .string (sb []), .string (sb d), .int .i64 0, .int .i64 0, .string (sb [])]
    generalize sb d = S
    kernel_rfl
  · show Tryz.prog.built 30 [(0, .string ⟨#[102]⟩), (1, .agg #[.int .i64 0, .int .i64 0, .int .i64 0, .int .i64 0, .int .i64 0, .string (sb []), .string (sb d), .int .i64 0, .int .i64 0, .string (sb [])])] = some #[.string (sb [102]), .int .i64 0, .int .i64 0, .int .i64 0, .int .i64 0, .int .i64 0, .string (sb []), .string (sb d), .int .i64 0, .int .i64 0, .string (sb [])]
    generalize sb d = S
    kernel_rfl
theorem padH_built (n : Int) : Tryz.prog.built 57 [(0, .string ⟨#[102]⟩), (4, .int .i64 n), (6, .int .u8 48)] = some #[.string ⟨#[102]⟩, .int .i64 0, .int .i64 0, .int .i64 0, .int .i64 n, .int .i64 0, .int .u8 48, .string ⟨#[]⟩, .int .i64 0, .int .i64 0] := by kernel_rfl
structure PdAt (w wr : World) (x : List UInt8) (j : Nat) (v : Value) : Prop where
  own : ∃ P : List UInt8, P.length = j ∧ OwnBytes wr w.heap.size v (x ++ P)
  low : Below w.heap.size w wr
theorem PdAt.shape {w wr : World} {x : List UInt8} {j : Nat} {v : Value} (h : PdAt w wr x j v) : ∃ (P : List UInt8) (A : Option Addr) (m c : Nat), P.length = j ∧ m = x.length + j ∧ v = .slice A m c ∧ OwnBytes wr w.heap.size v (x ++ P) := by
  obtain ⟨P, hl, ho⟩ := h.own
  obtain ⟨A, c, hv, _⟩ := ho.bytes
  exact ⟨P, A, (x ++ P).length, c, hl, by rw [List.length_append, hl], hv, ho⟩
theorem PdAt.more {w wr w' : World} {x P : List UInt8} {v v' : Value} {y : UInt8} (h : PdAt w wr x P.length v) (ho : OwnBytes w' w.heap.size v' (x ++ P ++ [y])) (hb : Below wr.heap.size wr w' ∨ Below w.heap.size w w') : PdAt w w' x (P.length + 1) v' :=
  ⟨⟨P ++ [y], by rw [List.length_append]; rfl, by rw [← List.append_assoc]; exact ho⟩, hb.elim (fun hb => h.low.trans (hb.mono h.low.size)) id⟩

end Go.Proofs.YtpgaejalkbpbhaaGreatDoor
