/-
  The small case of layer 12.
-/
import Derived.Test.YtfgflgifffjdgaaGreatDoorJoObjW
import Derived.Test.YtfgflgifffjdgaaGreatDoorJoSmallF
import Derived.Test.YtfgflgifffjdgaaGreatDoorJsSame
namespace Go.Proofs.YtfgflgifffjdgaaGreatDoor
open Go.RowKit Sh Jt Js Jo
/-- An answer that is a row of the call's own, of so many values. -/
theorem own_form {f : FuncId} {args : Array Value} {W : World} {L : List V} {n : Nat} (hn : L.length = n) (h0 : 0 < n) (h : Calls Tryz.prog f args W fun e w' => ∃ v', e = .returned v' ∧ Hid (OwnVals w' W.heap.size v' L ∧ Below W.heap.size W w')) :
    Calls Tryz.prog f args W fun e w' => ∃ g k, e = .returned (.slice (some ⟨g, 0, none⟩) n k) ∧ Hid (OwnVals w' W.heap.size (.slice (some ⟨g, 0, none⟩) n k) L ∧ ValsAt w' (some ⟨g, 0, none⟩) n k L ∧ Below W.heap.size W w') := by
  subst hn
  refine h.mono ?_
  rintro e w' ⟨v', rfl, H⟩
  obtain ⟨g, k, rfl, -⟩ := H.out.1.got h0
  exact ⟨g, k, rfl, Lib.hid ⟨H.out.1, H.out.1.at_.1, H.out.2⟩⟩
theorem own_empty {f : FuncId} {args : Array Value} {W : World} (h : Calls Tryz.prog f args W fun e w' => ∃ v', e = .returned v' ∧ Hid (OwnVals w' W.heap.size v' [] ∧ Below W.heap.size W w')) :
    Calls Tryz.prog f args W fun e w' => ∃ A c, e = .returned (.slice A 0 c) ∧ Hid (Below W.heap.size W w') := by
  refine h.mono ?_
  rintro e w' ⟨v', rfl, H⟩
  obtain ⟨A, c, rfl, -⟩ := H.out.1.vals
  exact ⟨A, c, rfl, Lib.hid H.out.2⟩
theorem jo_infoStr : ∃ i, Tryz.prog.info? 9 = some i ∧ i.zero = some (.string ⟨#[]⟩) ∧ i.size = 1 ∧ i.bytes = 16 := by
  have h : (Tryz.prog.info? 9).map (fun i => (i.zero, i.size, i.bytes)) = some (some (.string ⟨#[]⟩), 1, 16) := by kernel_rfl
  obtain ⟨i, hi, hz⟩ := Option.map_eq_some_iff.1 h
  simp only [Prod.mk.injEq] at hz
  exact ⟨i, hi, hz.1, hz.2.1, hz.2.2⟩
theorem run_build_str2 (W : World) (a b : ByteArray) : (Instr.buildSlice 50 2 #[(0, .string a), (1, .string b)]).run Tryz.prog W = .ok (.slice (some ⟨W.heap.size, 0, none⟩) 2 2) (W.alloc (.cells #[.string a, .string b] 9)) := by
  obtain ⟨i, hi, hz, hsz, _⟩ := jo_infoStr
  refine run_buildSlice (P := Tryz.prog) W 50 9 2 #[(0, .string a), (1, .string b)] #[.string a, .string b] i _ Tryz.underlying50 hi hz (by rw [hsz]; decide) (by rw [hsz]; decide) ?_
  rw [hsz]
  rw [show Array.range (2 * 1) = #[0, 1] from by decide]
  simp [Instr.fill, Value.cells]
theorem StrsAt.new2 (w : World) (a b : List UInt8) : StrsAt (w.alloc (.cells #[.string (sb a), .string (sb b)] 9)) (some ⟨w.heap.size, 0, none⟩) 2 2 [a, b] := by
  have r := Row.new w 9 [.string (sb a), .string (sb b)]
  exact ⟨rfl, Nat.le_refl _, fun _ => ⟨_, 0, rfl, r.lt, r.range 0 _ (fun j v hj => by rw [Nat.zero_add]; exact hj)⟩⟩
theorem SlsAt.new2 (w : World) {a b : Addr} {n m c d : Nat} {L M : List V} (hL : ValsAt w (some a) n c L) (hM : ValsAt w (some b) m d M) : SlsAt (w.alloc (.cells #[.slice (some a) n c, .slice (some b) m d] 29)) (some ⟨w.heap.size, 0, none⟩) 2 2 [⟨some a, c, L⟩, ⟨some b, d, M⟩] := by
  have h1 := hL.len
  have h2 := hM.len
  refine SlsAt.new w [⟨some a, c, L⟩, ⟨some b, d, M⟩] (fun p hp => ?_) _ (by rw [List.map_cons, List.map_cons, List.map_nil]; unfold Pc.enc; dsimp only; rw [h1, h2]) 2 rfl
  simp only [List.mem_cons, List.not_mem_nil, or_false] at hp
  rcases hp with rfl | rfl
  · dsimp only; rw [h1]; exact hL
  · dsimp only; rw [h2]; exact hM
theorem js_self (W : World) (k n : Int) (a b : ByteArray) : (Op.equalIn 10000 61 (.agg #[.int .i64 k, .string a, .string b, .int .i64 n]) (.agg #[.int .i64 k, .string a, .string b, .int .i64 n])).run Tryz.prog W = .ok true W := by
  cases h : (a.toList == a.toList) with
  | false => simp at h
  | true =>
    cases h2 : (b.toList == b.toList) with
    | false => simp at h2
    | true => go_simp
theorem short_small {L : List V} (h : ∀ v ∈ L, v.key.length ≤ 5 ∧ v.text.length ≤ 5) : Short 1000000000 L := fun v hv => ⟨by have := (h v hv).1; omega, by have := (h v hv).2; omega⟩
theorem sh_m5 : Short 1000000000 m5 := short_small (by decide)
theorem sh_i1 : Short 1000000000 i1 := short_small (by decide)
theorem sh_sx : Short 1000000000 sx := short_small (by decide)
theorem sh_sy : Short 1000000000 sy := short_small (by decide)
theorem sh_L2 : Short 1000000000 L2 := short_small (by decide)
theorem sh_E0 : Short 1000000000 E0 := short_small (by decide)
theorem sh_O : Short 1000000000 O := short_small (by decide)
theorem short_two {a b : Pc} (ha : Short 1000000000 a.row) (hb : Short 1000000000 b.row) : ∀ p ∈ [a, b], Short 1000000000 p.row := fun p hp => by
  simp only [List.mem_cons, List.not_mem_nil, or_false] at hp
  rcases hp with rfl | rfl
  · exact ha
  · exact hb
theorem keys_two {a b : List UInt8} (ha : a.length ≤ 5) (hb : b.length ≤ 5) : ∀ k ∈ [a, b], k.length ≤ 1000000000 := fun p hp => by
  simp only [List.mem_cons, List.not_mem_nil, or_false] at hp
  rcases hp with rfl | rfl <;> omega
end Go.Proofs.YtfgflgifffjdgaaGreatDoor
