/-
  append of so many bytes 0 to a slice of bytes of the call's own.
-/
import Derived.Test.YtpgaejalkbpbhaaGreatDoorOcBase
import Derived.Deep.AppendSrc
import Derived.Lib.AppendZeros
namespace Go.Proofs.YtpgaejalkbpbhaaGreatDoor
open Go Go.RowKit Sh

theorem zero_cells (n : Nat) : Builtin.zeroCells (Value.cells (.int .u8 0)) n = (List.replicate n (Value.int .u8 0)).toArray := by
  apply Array.ext
  · simp [Builtin.zeroCells, Value.cells]
  · intro i h1 h2
    simp [Builtin.zeroCells, Value.cells, Nat.mod_one]
theorem map_zeros (n : Nat) : (List.replicate n (0 : UInt8)).map v8 = List.replicate n (Value.int .u8 0) := by
  rw [List.map_replicate]
  rfl
theorem own_grown {w : World} {B : Nat} (hB : B ≤ w.heap.size) (bs : List UInt8) (cap : Nat) (hc : bs.length ≤ cap) (hm : cap ≤ maxLen) (Z : List Value) (hz : Z.length = cap - bs.length) :
    OwnBytes (w.drew.alloc (.cells ((bs.map v8) ++ Z).toArray 5)) B (.slice (some ⟨w.heap.size, 0, none⟩) bs.length cap) bs := by
  refine ⟨by simp, .inr ⟨w.heap.size, cap, _, rfl, hB, heap_alloc_new w.drew _, hc, hm, ?_, ?_⟩⟩
  · simp [hz]; omega
  · rw [Nat.mul_one]
    have : bs.length = (bs.map v8).length := by simp
    rw [this]
    simp
theorem kept_grown (w : World) (S : Nat → Prop) (o : Obj) : Kept w (w.drew.alloc o) S := ((Kept.refl w S).drewN 1).alloc o
/-- The run of it. -/
theorem run_zeros (w : World) (ty : TypeId) (B : Nat) (v : Value) (bs : List UInt8) (hown : OwnBytes w B v bs) (n : Nat) (hb : bs.length + n ≤ 1099511627776) (hB : B ≤ w.heap.size) :
    ∃ v' w', (Builtin.append_ #[31, 3] ty #[v, .int .i64 n]).run Tryz.prog w = .ok v' w' ∧ OwnBytes w' B v' (bs ++ List.replicate n 0) ∧ Kept w w' (fun k => B ≤ k ∧ v.ownBlock = some k) := by
  obtain ⟨i, hi, hz, hsz, hby⟩ := infoByte
  have hw : IntKind.i64.wrap (n : Int) = n := by rw [IntKind.wrap_i64]; omega
  have hneg : ¬ ((n : Int) < 0) := by omega
  have hown2 := hown
  obtain ⟨hl, ⟨rfl, h0⟩ | ⟨g, cap, cur, rfl, hg, hh, hn, hc, hs, ht⟩⟩ := hown
  · have hbs : bs = [] := List.eq_nil_of_length_eq_zero h0
    subst hbs
    by_cases hn0 : n = 0
    · subst hn0
      refine ⟨.slice none 0 0, w, ?_, OwnBytes.nil w B, Kept.refl _ _⟩
      have hw0 : IntKind.i64.wrap 0 = 0 := by decide
      simp [Builtin.append_, run_underlying Tryz.underlying31, run_underlying Tryz.underlying3, sizeOf, typeInfo, hi, asInt, asIntOf, hw0]
    · have hr := Lib.run_append_nil_zeros (P := Tryz.prog) w 31 3 ty 5 i (.int .u8 0) .i64 .i64 Tryz.underlying31 Tryz.underlying3 hi hz n (by omega) (by omega) (by omega) (by rw [hby]; omega)
      refine ⟨_, _, hr, ?_, kept_grown _ _ _⟩
      have hge := grownCap_ge w n 0 5
      have hcm : grownCap w n 0 5 ≤ maxLen := grownCap_le_maxLen w n 0 5 (by unfold maxLen; omega)
      have h := own_grown hB (List.replicate n 0) (grownCap w n 0 5) (by simpa using hge) hcm (List.replicate (grownCap w n 0 5 - n) (.int .u8 0)) (by simp)
      rw [zero_cells, zero_cells, List.nil_append]
      rw [map_zeros, List.length_replicate] at h
      simpa using h
  · by_cases hroom : bs.length + n ≤ cap
    · have hcl : cur.toList.length = cur.size := Array.length_toList
      have hst := run_storeCells_cells (P := Tryz.prog) g bs.length (List.replicate n (Value.int .u8 0)) 0 w (fun j hj => by
        rw [List.length_replicate] at hj
        rw [cell_of_row _ _ _ _ _ _ hh]
        simp
        omega) (fun j _ => by
        simp [World.frozen?, hh]) (fun u hu => by rw [List.eq_of_mem_replicate hu]; rfl)
      simp only [Nat.add_zero] at hst
      have hrow : Row w g 5 cur.toList := by unfold Row; rw [hh]
      have hrow2 := hrow.setCells (List.replicate n (Value.int .u8 0)) bs.length (by rw [List.length_replicate]; omega)
      refine ⟨.slice (some ⟨g, 0, none⟩) (bs.length + n) cap, w.setCells g bs.length (List.replicate n (.int .u8 0)), ?_, ?_, ?_⟩
      · have hadd : (⟨g, 0, none⟩ : Addr).add (bs.length * i.size) = ⟨g, bs.length, none⟩ := by rw [hsz, Nat.mul_one, Addr.add_mid, Nat.zero_add]
        by_cases hn0 : n = 0
        · subst hn0
          have hw0 : IntKind.i64.wrap 0 = 0 := by decide
          simp only [List.replicate_zero, World.setCells] at hst ⊢
          simp [Builtin.append_, run_underlying Tryz.underlying31, run_underlying Tryz.underlying3, sizeOf, typeInfo, hi, asInt, asIntOf, hw0, hn, hadd, hst]
        · have hns : ¬ (n * i.size = 0) := by rw [hsz, Nat.mul_one]; exact hn0
          have h48 : ¬ (281474976710656 < (n : Int) * (i.bytes : Int)) := by rw [hby]; omega
          simp [Builtin.append_, run_underlying Tryz.underlying31, run_underlying Tryz.underlying3, sizeOf, typeInfo, zeroValue, hi, hz, asInt, asIntOf, hw, hneg, h48, hroom, hns, hadd, zero_cells, hst]
      · refine ⟨by simp, .inr ⟨g, cap, _, by simp, hg, hrow2, by simpa using hroom, hc, ?_, ?_⟩⟩
        · simp only [List.size_toArray, List.length_append, List.length_take, List.length_drop, Array.length_toList, List.length_replicate]
          omega
        · have ht2 : List.take bs.length cur.toList = bs.map v8 := by rw [← ht, Nat.mul_one]
          rw [ht2, List.map_append, map_zeros, ← List.append_assoc, Nat.mul_one]
          exact List.take_left' (by simp)
      · exact (Kept.refl w _).setCells (.inr ⟨hg, rfl⟩) _ _
    · have hfo := run_firstCells_some (P := Tryz.prog) w.drew i.size bs.length ⟨g, 0, none⟩ bs.length cap (bs.map v8) (by rw [hsz]; simp) (fun j u hj => by
        have h := (hown2.bytes)
        obtain ⟨A, c, e, hB2, _⟩ := h
        simp only [Value.slice.injEq] at e
        obtain ⟨rfl, _, rfl⟩ := e
        have hjl := (List.getElem?_eq_some_iff.1 hj).1
        rw [List.length_map] at hjl
        obtain ⟨b, o, e2, _, hr⟩ := hB2.at_ (by omega)
        cases e2
        rw [Addr.add_mid]
        exact hr j u hj)
      have hn0 : n ≠ 0 := by omega
      have hgr : ¬ (bs.length + n ≤ cap) := hroom
      have h63 : ¬ (9223372036854775807 < ((bs.length : Int) + (n : Int))) := by omega
      have hfit : ¬ (281474976710656 < Builtin.nextslicecap (bs.length + n) cap * i.bytes) := by
        have := growslice_fits (need := bs.length + n) (old := cap) (bytes := i.bytes) (by omega) (by rw [hby]; omega)
        omega
      have hns : ¬ (n * i.size = 0) := by rw [hsz, Nat.mul_one]; exact hn0
      have h48 : ¬ (281474976710656 < (n : Int) * (i.bytes : Int)) := by rw [hby]; omega
      refine ⟨.slice (some ⟨w.heap.size, 0, none⟩) (bs.length + n) (grownCap w (bs.length + n) cap 5), w.drew.alloc (.cells (((bs ++ List.replicate n 0).map v8) ++ List.replicate (grownCap w (bs.length + n) cap 5 - (bs.length + n)) (.int .u8 0)).toArray 5), ?_, ?_, kept_grown _ _ _⟩
      · simp [Builtin.append_, run_underlying Tryz.underlying31, run_underlying Tryz.underlying3, sizeOf, typeInfo, zeroValue, hi, hz, asInt, asIntOf, hw, hneg, h48, hgr, h63, hfit, hns, Question.forced, hfo, newRow, grownCap, zero_cells]
        refine congrArg (fun c => w.drew.alloc (Obj.cells c 5)) ?_
        generalize Question.cut _ _ - (bs.length + n) = m
        apply Array.ext'
        rw [Array.toList_append, Array.toList_replicate, ← List.replicate_append_replicate]
        rfl
      · have hge := grownCap_ge w (bs.length + n) cap 5
        have hcm : grownCap w (bs.length + n) cap 5 ≤ maxLen := grownCap_le_maxLen w (bs.length + n) cap 5 (by unfold maxLen; omega)
        have h := own_grown hB (bs ++ List.replicate n 0) (grownCap w (bs.length + n) cap 5) (by simpa using hge) hcm (List.replicate (grownCap w (bs.length + n) cap 5 - (bs.length + n)) (.int .u8 0)) (by simp)
        simpa using h
/-- Bytes 0 behind bytes. -/
theorem append_zeros {w : World} {ops : Array Oper} {rest : List Oper} {o : Oper} {a : Act} {Q : Exit → Act → World → Prop} (hgd : o.guard = none) (s x : Operand)
    (ho : o.op = .call { callee := .builtin .append, args := #[s, x], argTypes := #[31, 3] }) (B : Nat) (v : Value) (bs : List UInt8) (hs : a.eval s = v) (hown : OwnBytes w B v bs)
    (n : Nat) (hx : a.eval x = .int .i64 n) (hb : bs.length + n ≤ 1099511627776) (hB : B ≤ w.heap.size)
    (h : ∀ v' w', Hid (OwnBytes w' B v' (bs ++ List.replicate n 0)) → Hid (Kept w w' (fun k => B ≤ k ∧ v.ownBlock = some k)) → wpList Tryz.prog ops Q rest (a.put o.dst v') w') : wpList Tryz.prog ops Q (o :: rest) a w := by
  refine wpList_plain hgd fun K hK => ?_
  obtain ⟨v', w', hr, h2, h3⟩ := run_zeros w o.type B v bs hown n hb hB
  unfold Oper.wp execOp
  simp only [ho, resolve, invoke, builtin, Sem.run_bind, Sem.run_pure, Result.andThen_ok, List.map_toArray, List.map_cons, List.map_nil, hs, hx, hr]
  exact hK _ _ (h v' w' (Lib.hid h2) (Lib.hid h3))
end Go.Proofs.YtpgaejalkbpbhaaGreatDoor
