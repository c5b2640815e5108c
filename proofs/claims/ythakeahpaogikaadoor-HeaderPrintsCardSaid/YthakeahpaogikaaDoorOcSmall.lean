/-
  The small case of layer 5.
-/
import Derived.Test.YthakeahpaogikaaDoorOcRead
import Derived.Test.YthakeahpaogikaaDoorOcWrite
import Derived.Test.YthakeahpaogikaaDoorOcCheck
import Derived.Lib.SlBytesConst
namespace Go.Proofs.YthakeahpaogikaaDoor
open Go.RowKit Sh Oc

theorem OwnBytes.at2 {w : World} {B : Nat} {v : Value} {bs : List UInt8} (h : OwnBytes w B v bs) : ∃ (A : Option Addr) (c : Nat), v = .slice A bs.length c ∧ BytesAt w A bs.length c bs ∧ c ≤ maxLen ∧ (A = none → c = 0) := by
  obtain ⟨A, c, rfl, hb, hn, _⟩ := h.bytes
  refine ⟨A, c, rfl, hb, ?_, hn⟩
  obtain ⟨_, ⟨e, _⟩ | ⟨g, cap, cur, e, hg, hh, hx, hc, _⟩⟩ := h
  · simp only [Value.slice.injEq] at e; rw [e.2.2]; exact Nat.zero_le _
  · simp only [Value.slice.injEq] at e; rw [e.2.2]; exact hc
theorem write_is (w : World) (n s : Int) (o : Option (List UInt8)) (h : writeZ n s = o) :
    Calls Tryd.prog 25 #[.int .i64 n, .int .i64 s] w fun e w' => (∃ A c, e = .returned (.tuple #[.slice A (o.getD []).length c, .bool o.isSome]) ∧ Hid (BytesAt w' A (o.getD []).length c (o.getD [])) ∧ c ≤ maxLen ∧ Hid (A = none → c = 0)) ∧ Hid (Below w.heap.size w w') := by
  subst h
  refine (write_any w n s).mono fun e w' ⟨⟨v, he, ho⟩, hb⟩ => ⟨?_, hb⟩
  obtain ⟨A, c, rfl, hy, hc, hn⟩ := ho.out.at2
  exact ⟨A, c, he, Lib.hid hy, hc, Lib.hid hn⟩
theorem read_is (w : World) (A : Option Addr) (n c : Nat) (bs : List UInt8) (o : Option Nat) (h : readF bs = o) (S : BytesAt w A n c bs) (hc : c ≤ maxLen) (hn : n ≤ 1099511627776) :
    Calls Tryd.prog 16 #[.slice A n c] w fun e w' => e = .returned (.tuple #[.int .i64 ((o.getD 0 : Nat) : Int), .bool o.isSome]) ∧ Hid (Below w.heap.size w w') := by
  subst h
  exact (read_any w A n c bs S hc hn).mono fun e w' ⟨he, hb⟩ => ⟨he, Lib.hid hb⟩
theorem check_is (w : World) (A : Option Addr) (n c : Nat) (bs : List UInt8) (k : Int) (h : checkF bs = k) (S : BytesAt w A n c bs) (hn : n ≤ maxLen) :
    Calls Tryd.prog 18 #[.slice A n c] w fun e w' => e = .returned (.int .i64 k) ∧ w' = w := by
  subst h
  exact check_any w A n c bs S hn
theorem make_512 (W : World) : (Instr.makeSlice 22 (.int .i64 512) (.int .i64 512)).run Tryd.prog W = .ok (.slice (some ⟨W.heap.size, 0, none⟩) 512 512) (W.alloc (.cells ((List.replicate 512 0).map v8).toArray 5)) := make_bytes 511 (by decide) W
theorem zeros_at (W : World) (Z : List Value) (h : Z = (List.replicate 512 0).map v8) : BytesAt (W.alloc (.cells Z.toArray 5)) (some ⟨W.heap.size, 0, none⟩) 512 512 (List.replicate 512 0) := by
  have hr := BytesAt.row (Row.at_ W 5 ((List.replicate 512 0).map v8) (show Z.toArray = _ by rw [h]) rfl)
  rwa [List.length_replicate] at hr

end Go.Proofs.YthakeahpaogikaaDoor
