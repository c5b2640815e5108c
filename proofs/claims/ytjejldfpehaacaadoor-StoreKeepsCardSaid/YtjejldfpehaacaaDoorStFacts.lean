/-
  Digests of a few short texts differ.
-/
import Derived.Test.YtjejldfpehaacaaDoorStD
namespace Go.Proofs.YtjejldfpehaacaaDoor
open Go Go.RowKit Go.Maps Go.Sort Sh

def zero32 : D32 := ⟨List.replicate 32 0, rfl⟩
set_option maxRecDepth 1000000 in
theorem ab_cd : decide (digest [97, 98] = digest [99, 100]) = false := by decide +kernel
set_option maxRecDepth 1000000 in
theorem ab_x : decide (digest [97, 98] = digest [120]) = false := by decide +kernel
set_option maxRecDepth 1000000 in
theorem ab_zero : decide (digest [97, 98] = List.replicate 32 0) = false := by decide +kernel
theorem dg_ne {a b : List UInt8} (h : decide (digest a = digest b) = false) : dg a ≠ dg b := fun e => of_decide_eq_false h (congrArg Subtype.val e)
theorem has_ab_cd (v : Value) : hasE (entries [(v, [97, 98])]) (dg [99, 100]) = false := by
  cases e : hasE (entries [(v, [97, 98])]) (dg [99, 100]) with
  | false => rfl
  | true =>
    obtain ⟨t, ht, h⟩ := dg_mem.1 e
    simp only [List.mem_singleton] at ht
    subst ht
    exact absurd h (dg_ne ab_cd)
theorem has_ab_x (v : Value) : hasE (entries [(v, [97, 98])]) (dg [120]) = false := by
  cases e : hasE (entries [(v, [97, 98])]) (dg [120]) with
  | false => rfl
  | true =>
    obtain ⟨t, ht, h⟩ := dg_mem.1 e
    simp only [List.mem_singleton] at ht
    subst ht
    exact absurd h (dg_ne ab_x)
theorem has_ab_zero (v : Value) : hasE (entries [(v, [97, 98])]) zero32 = false := by
  cases e : hasE (entries [(v, [97, 98])]) zero32 with
  | false => rfl
  | true =>
    obtain ⟨t, ht, h⟩ := dg_mem.1 e
    simp only [List.mem_singleton] at ht
    subst ht
    exact absurd (congrArg Subtype.val h) (of_decide_eq_false ab_zero)
theorem has_ab (v : Value) (bs : List UInt8) : hasE (entries [(v, bs)]) (dg bs) = true := dg_mem.2 ⟨_, List.mem_singleton.2 rfl, rfl⟩
theorem has_none (x : D32) : hasE (entries []) x = false := by
  cases e : hasE (entries []) x with
  | false => rfl
  | true => obtain ⟨t, ht, _⟩ := dg_mem.1 e; cases ht
theorem bsE_one (v : Value) (bs : List UInt8) : bsE [(v, bs)] (dg bs) = bs := by simp [bsE]
theorem keysOf_one (v : Value) (bs : List UInt8) : keysOf [(v, bs)] = [dg bs] := by simp [keysOf]
theorem perm_one {T' : List (Value × List UInt8)} {bs : List UInt8} (h : (T'.map (·.2)).Perm ([((default : Value), bs)].map (·.2))) : ∃ v, T' = [(v, bs)] := by
  have h1 := h.length_eq
  match T', h1 with
  | [t], _ =>
    have h2 : t.2 ∈ [t].map (·.2) := by simp
    have := h.subset h2
    simp at this
    exact ⟨t.1, by rw [← this]⟩
theorem bytes_const (w : World) (bs : List UInt8) (e : TypeId) (fr : Nat × Nat) {C : Array Value} (hC : C = (bs.map v8).toArray) {n : Nat} (hn : bs.length = n) : BytesAt (w.alloc (.cells C e fr)) (some ⟨w.heap.size, 0, none⟩) bs.length n bs := by
  subst hC
  subst hn
  refine ⟨rfl, Nat.le_refl _, fun _ => ⟨_, _, rfl, by simp, fun j v hj => ?_⟩⟩
  rw [cell_of_row _ _ _ _ _ _ (heap_alloc_new w _), Nat.zero_add]
  simpa using hj
theorem fold_push' (bs : List UInt8) : ∀ r : ByteArray, (bs.map n8).foldl (fun r n => r.push (UInt8.ofNat n.toNat)) r = ⟨r.data ++ bs.toArray⟩ := by
  induction bs with
  | nil => intro r; simp
  | cons x l ih =>
    intro r
    rw [List.map_cons, List.foldl_cons, ih]
    congr 1
    rw [show UInt8.ofNat (n8 x).toNat = x from by rw [n8, Int.toNat_natCast, UInt8.ofNat_toNat]]
    simp [ByteArray.push]
/-- string(b) of a slice that is known, nil let in. -/
theorem conv_bytes (w : World) (A : Option Addr) (n c : Nat) (bs : List UInt8) (S : BytesAt w A n c bs) :
    (convert 29 9 (.slice A n c)).run Tryd.prog w = .ok (.string ⟨bs.toArray⟩) w := by
  rw [run_convert_bytes_string w _ _ _ _ _ _ Tryd.underlying29 Tryd.underlying5 Tryd.underlying9]
  have hlen := S.len
  cases A with
  | none =>
    have hn : n = 0 := by
      rcases Nat.eq_zero_or_pos n with h | h
      · exact h
      · obtain ⟨b, o, e, _⟩ := S.at_ h
        cases e
    subst hn
    have hb : bs = [] := List.eq_nil_of_length_eq_zero hlen
    subst hb
    rfl
  | some ad =>
    subst hlen
    have hl := run_loadCells_list (P := Tryd.prog) w ad (bs.map v8) (fun j v hj => by
      have hjl : j < bs.length := by simpa using (List.getElem?_eq_some_iff.1 hj).1
      obtain ⟨b, o, e, _, hr⟩ := S.at_ (by omega)
      cases e
      rw [Addr.add_mid]
      exact hr j v hj)
    rw [List.length_map] at hl
    have e : bs.map v8 = (bs.map n8).map (Value.int .u8) := by rw [List.map_map]; rfl
    rw [e] at hl
    rw [run_bytesToString w ad bs.length c (bs.map n8) hl, fold_push']
    simp
theorem load_mid_g {w : World} {ops : Array Oper} {rest : List Oper} {o : Oper} {a : Act} {Q : Exit → Act → World → Prop} (hw : Region.wanted o (yielded ops a.tmps) = true) (x : Operand) (ho : o.op = .load 31 x)
    (b off : Nat) (D : List Value) (hD : D.length = 32) (hx : a.eval x = .pointer (some ⟨b, off, none⟩)) (hr : w.rangeAt b off D)
    (h : wpList Tryd.prog ops Q rest (a.put o.dst (.agg D.toArray)) w) : wpList Tryd.prog ops Q (o :: rest) a w :=
  wpList_wanted hw fun _ hK => wp_load_mid 31 x ho b off hx D _ hr Tryd.underlying31 rfl (by rw [hD]; kernel_rfl) (hK _ _ h)
section
variable {w : World} {s mb : Nat} {T : List (Value × List UInt8)} {room : Nat} {Z : Nat → Prop}
theorem used_D (h : StAt w s mb T room Z) (n : Int) (hn : (usedN T : Int) = n) : Calls Tryd.prog 21 #[.pointer (some ⟨s, 0, none⟩)] w fun e w' => e = .returned (.int .i64 n) ∧ w = w' := by
  subst hn
  exact sused_any h
theorem room_D (h : StAt w s mb T room Z) (n : Int) (hn : (room : Int) = n) : Calls Tryd.prog 23 #[.pointer (some ⟨s, 0, none⟩)] w fun e w' => e = .returned (.int .i64 n) ∧ w = w' := by
  subst hn
  exact sroom_any h
end
theorem dig_len (bs : List UInt8) : ((digest bs).map v8).length = 32 := by rw [List.length_map]; exact (dg bs).2
theorem dig_cell (bs : List UInt8) : (((digest bs).map v8).toArray.all (·.oneCell')) = true := oneCell_map v8 (fun _ => rfl) _
theorem kept_new {a b c : World} {S : Nat → Prop} (h : Kept a b (fun _ => False)) (k : Kept b c S) (hS : ∀ x, x < a.heap.size → ¬ S x) : Kept a c (fun _ => False) :=
  ⟨k.os.trans h.os, k.tape.trans h.tape, k.output.trans h.output, Nat.le_trans h.size k.size, fun i hi _ => (k.block i (Nat.lt_of_lt_of_le hi h.size) (hS i hi)).trans (h.block i hi (fun h => h))⟩
end Go.Proofs.YtjejldfpehaacaaDoor
