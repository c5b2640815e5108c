/-
  bytes.Clone.
-/
import Derived.Test.YtjejldfpehaacaaDoorOwn
import Derived.Test.YtjejldfpehaacaaDoorKept
namespace Go.Proofs.YtjejldfpehaacaaDoor
open Go Go.RowKit Sh

theorem nil_eq_nil (w : World) : (binOp .eql 29 (.slice none 0 0) (.slice none 0 0)).run Tryd.prog w = .ok (.bool true) w := by kernel_rfl
theorem some_eq_nil (a : Addr) (n c : Nat) (w : World) : (binOp .eql 29 (.slice (some a) n c) (.slice none 0 0)).run Tryd.prog w = .ok (.bool false) w := by kernel_rfl

/-- A copy of bs, in memory of its own. -/
def CloneIs (w : World) (bs : List UInt8) (e : Ending) (w' : World) : Prop := ∃ v, e = .returned v ∧ Hid (OwnBytes w' w.heap.size v bs) ∧ Hid (Kept w w' (fun _ => False))

set_option maxRecDepth 100000 in
set_option maxHeartbeats 1000000 in
theorem clone_any (w : World) (A : Option Addr) (n c : Nat) (bs : List UInt8) (S : BytesAt w A n c bs) (hA : A = none → c = 0) (hn : n ≤ 1099511627776) :
    Calls Tryd.prog 29 #[.slice A n c] w (CloneIs w bs) := by
  have HS := Lib.hid S
  have hcap := S.cap
  have hlen := S.len
  clear S
  cases A with
  | none =>
    have hc := hA rfl
    subst hc
    obtain rfl : n = 0 := by omega
    obtain rfl : bs = [] := List.eq_nil_of_length_eq_zero hlen
    clear hA
    have q := nil_eq_nil w
    go_enter Tryd.func29, Tryd.ntmps29
    go_wp2_with fail
    go_ret
    exact ⟨_, rfl, OwnBytes.nil _ _, Kept.refl _ _⟩
  | some a =>
    clear hA
    have HL := Lib.hid hlen
    clear hlen
    have q := some_eq_nil a n c w
    go_enter Tryd.func29, Tryd.ntmps29
    go_wp2_with ((at_builtin; with_reducible refine append_bytes ?_ (.tmp 5) (.tmp 6) ?_ w.heap.size _ [] ?_ (OwnBytes.row (b := w.heap.size) (Row.at_ _ _ [] rfl rfl) (Nat.le_refl _) (Nat.zero_le _)) (some a) n c bs ?_ (HS.out.kept (kept_alloc _ _) (fun _ _ _ _ h => h)) ?_ ?_ ?_ ?_); rfl; rfl; go_must (rfl; rfl; (intro e; cases e); (rw [List.length_nil]; omega); simp; intro v1 w1 O1 K1))
    go_ret
    exact ⟨_, rfl, O1.out, kept_own (kept_alloc w _) K1.out (Nat.le_refl _)⟩
end Go.Proofs.YtjejldfpehaacaaDoor
