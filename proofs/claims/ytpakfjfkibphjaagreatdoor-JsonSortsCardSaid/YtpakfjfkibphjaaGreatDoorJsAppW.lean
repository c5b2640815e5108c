/-
  Bytes of the call's own, to which texts are appended: what is left as it was.
-/
import Derived.Test.YtpakfjfkibphjaaGreatDoorJsPrintF
import Derived.Test.YtpakfjfkibphjaaGreatDoorJsParse
import Derived.Test.YtpakfjfkibphjaaGreatDoorJtQuote
import Derived.Lib.AppendStr
namespace Go.Proofs.YtpakfjfkibphjaaGreatDoor
open Go.RowKit Sh Jt Js
/-- What a step leaves as it was: all but what v owned; v' owns that, or what is new. -/
structure Stq (w w' : World) (v v' : Value) : Prop where
  kept : Kept w w' (fun k => v.ownBlock = some k)
  fresh : ∀ k, v'.ownBlock = some k → v.ownBlock = some k ∨ w.heap.size ≤ k
theorem Stq.refl (w : World) (v : Value) : Stq w w v v := ⟨Kept.refl _ _, fun _ h => .inl h⟩
theorem Stq.trans {w w1 w2 : World} {v v1 v2 : Value} (h : Stq w w1 v v1) (k : Stq w1 w2 v1 v2) : Stq w w2 v v2 := by
  refine ⟨⟨k.kept.os.trans h.kept.os, k.kept.tape.trans h.kept.tape, k.kept.output.trans h.kept.output, Nat.le_trans h.kept.size k.kept.size, fun i hi hn => ?_⟩, fun i hi => ?_⟩
  · refine (k.kept.block i (Nat.lt_of_lt_of_le hi h.kept.size) (fun hh => ?_)).trans (h.kept.block i hi hn)
    rcases h.fresh i hh with h2 | h2
    · exact hn h2
    · omega
  · rcases k.fresh i hi with h2 | h2
    · exact h.fresh i h2
    · exact .inr (Nat.le_trans h.kept.size h2)
theorem Stq.of_below {w w' : World} (h : Below w.heap.size w w') (v : Value) : Stq w w' v v := ⟨Kept.of_below h (fun _ hk _ => hk), fun _ h => .inl h⟩
theorem Stq.below {w w' : World} {v v' : Value} (h : Stq w w' v v') {B : Nat} (hB : B ≤ w.heap.size) (ho : ∀ k, v.ownBlock = some k → B ≤ k) : Below B w w' := h.kept.below hB fun k hk hh => by
  have := ho k hh
  omega
theorem OwnBytes.block {w : World} {B : Nat} {v : Value} {bs : List UInt8} (h : OwnBytes w B v bs) {k : Nat} (hk : v.ownBlock = some k) : B ≤ k ∧ k < w.heap.size := by
  obtain ⟨_, ⟨rfl, _⟩ | ⟨g, cap, cur, rfl, hg, hh, _⟩⟩ := h
  · cases hk
  · obtain rfl : g = k := Option.some.inj hk
    exact ⟨hg, (Array.getElem?_eq_some_iff.1 hh).1⟩
theorem OwnBytes.below {w w' : World} {B : Nat} {v : Value} {bs : List UInt8} (h : OwnBytes w B v bs) (k : Below w.heap.size w w') : OwnBytes w' B v bs := h.kept (kept_below k) (fun _ _ h => h)
/-- Where a text appended to own bytes lies. -/
theorem app_fresh {w w' : World} {B : Nat} {v v' : Value} {bs cs : List UInt8} {ty : TypeId} (hown : OwnBytes w B v bs) (hb : bs.length + cs.length ≤ 1099511627776)
    (hr : (Builtin.append_ #[22, 9] ty #[v, .string (sb cs)]).run Tryz.prog w = .ok v' w') (h4 : v' = .slice none 0 0 ↔ v = .slice none 0 0 ∧ (sb cs).size = 0) : ∀ k, v'.ownBlock = some k → v.ownBlock = some k ∨ w.heap.size ≤ k := by
  obtain ⟨i, hi, hz, hsz, hby⟩ := infoByte
  intro k hk
  have hown2 := hown
  have hss := sb_size cs
  obtain ⟨hl, ⟨rfl, h0⟩ | ⟨g, cap, cur, rfl, hg, hh, hn, hc, hs, ht⟩⟩ := hown
  · by_cases hm : (sb cs).size = 0
    · rw [h4.2 ⟨rfl, hm⟩] at hk
      cases hk
    · have h1 := run_append_nil_string (P := Tryz.prog) w 22 9 ty 5 i _ Tryz.underlying22 Tryz.underlying9 hi hz (sb cs) (by omega) (by rw [sb_size]; omega) (by rw [hby, sb_size]; omega)
      rw [h1] at hr
      injection hr with e1 e2
      rw [← e1] at hk
      exact .inr (Nat.le_of_eq (Option.some.inj hk))
  · by_cases hroom : bs.length + (sb cs).size ≤ cap
    · have h1 := Lib.run_append_room_string (P := Tryz.prog) w 22 9 ty 5 i Tryz.underlying22 Tryz.underlying9 hi hsz g bs.length cap cur hh (sb cs) hroom (by rw [hs, Nat.mul_one]; exact hroom)
      rw [h1] at hr
      injection hr with e1 e2
      rw [← e1] at hk
      exact .inl hk
    · have h1 := Lib.run_append_grow_string (P := Tryz.prog) w 22 9 ty 5 i _ Tryz.underlying22 Tryz.underlying9 hi hz ⟨g, 0, none⟩ bs.length cap (bs.map v8) (by rw [hsz, List.length_map, Nat.mul_one]) (fun j u hj => hown2.cells (g := g) rfl j u hj) (sb cs) (by omega) (by rw [sb_size]; omega) (by rw [hby]; exact growslice_fits (by rw [sb_size]; omega) (by rw [sb_size]; omega))
      rw [h1] at hr
      injection hr with e1 e2
      rw [← e1] at hk
      exact .inr (Nat.le_of_eq (Option.some.inj hk))
theorem append_sb {w : World} {ops : Array Oper} {rest : List Oper} {o : Oper} {a : Act} {Q : Exit → Act → World → Prop} (hgd : o.guard = none) (s x : Operand)
    (ho : o.op = .call { callee := .builtin .append, args := #[s, x], argTypes := #[22, 9] }) (B : Nat) (v : Value) (bs : List UInt8) (hs : a.eval s = v) (hown : OwnBytes w B v bs)
    (cs : List UInt8) (hx : a.eval x = .string (sb cs)) (hb : bs.length + cs.length ≤ 1099511627776) (hB : B ≤ w.heap.size)
    (h : ∀ v' w', Hid (OwnBytes w' B v' (bs ++ cs)) → Hid (Stq w w' v v') → wpList Tryz.prog ops Q rest (a.put o.dst v') w') : wpList Tryz.prog ops Q (o :: rest) a w := by
  obtain ⟨i, hi, hz, hsz, hby⟩ := infoByte
  obtain ⟨v', w', hr, h2, h3, h4⟩ := Lib.run_append_own_string (P := Tryz.prog) w B 22 9 o.type 5 i Tryz.underlying22 Tryz.underlying9 hi hz hsz hby v bs.length (bs.map v8) hown (sb cs) (by rw [sb_size]; unfold maxLen; omega) (by rw [sb_size]; omega) hB
  refine wpList_wanted (by simp [Region.wanted, hgd]) fun K hK => ?_
  unfold Oper.wp execOp
  simp only [ho, resolve, invoke, builtin, Sem.run_bind, Sem.run_pure, Result.andThen_ok, List.map_toArray, List.map_cons, List.map_nil, hs, hx, hr]
  refine hK _ _ (h v' w' ?_ ?_)
  · show w'.ownsRow B _ 1 v' (bs ++ cs).length ((bs ++ cs).map v8)
    rw [List.length_append, List.map_append]
    exact h2
  · exact ⟨⟨h3.os, h3.tape, h3.output, h3.size, fun k hk hn => h3.block k hk (fun e => hn e.symm)⟩, app_fresh hown hb hr h4⟩
theorem OwnBytes.slice {w : World} {B : Nat} {v : Value} {bs : List UInt8} (h : OwnBytes w B v bs) : ∃ A c, v = .slice A bs.length c := by
  obtain ⟨A, c, rfl, _⟩ := h.bytes
  exact ⟨A, c, rfl⟩
end Go.Proofs.YtpakfjfkibphjaaGreatDoor
