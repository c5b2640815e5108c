/-
  Texts as the machine holds them; slices of texts of the call's own.
-/
import Derived.Test.YtjbcagciaccbeaaOcBase
import Derived.Test.YtjbcagciaccbeaaPaRefF
import Derived.Test.YtjbcagciaccbeaaStructs
import Derived.Great.BuildSlice
import Derived.Maps.AppendAt
import Derived.Deep.CutBlock
import Derived.Deep.LoopGhost
import Derived.BigCall
import Derived.BigGuard
namespace Go.Proofs.Ytjbcagciaccbeaa
open Go.RowKit Sh
namespace Pth
/-- A text as the machine holds it. -/
def sb (l : List UInt8) : ByteArray := ⟨l.toArray⟩
theorem sb_data (l : List UInt8) : (sb l).data.toList = l := rfl
theorem sb_size (l : List UInt8) : (sb l).size = l.length := rfl
theorem sb_list (l : List UInt8) : (sb l).toList = l := ByteArray.toList_eq _
theorem sb_inj {a b : List UInt8} (h : sb a = sb b) : a = b := by rw [← sb_data a, h, sb_data]
theorem sb_app (a b : List UInt8) : sb a ++ sb b = sb (a ++ b) := by
  apply ByteArray.ext
  simp [sb]
theorem sb_cut (l : List UInt8) (a b : Nat) : (sb l).extract a b = sb ((l.take b).drop a) := by
  apply ByteArray.ext
  rw [ByteArray.data_extract]
  simp [sb, List.drop_take]
theorem sb_one (l : List UInt8) {i : Nat} (h : i < l.length) : (sb l).extract i (i + 1) = sb [l[i]] := by
  rw [sb_cut, List.drop_take, Nat.add_sub_cancel_left, List.drop_eq_getElem_cons h]
  rfl
theorem sb_index (l : List UInt8) (j : Nat) (hj : j < l.length) (W : World) : (Instr.index 9 (.string (sb l)) (.int .i64 (j : Int))).run Try.prog W = .ok (.int .u8 (n8 l[j])) W := by
  have hs : (sb l)[j]? = some l[j] := by
    rw [getElem?_pos (sb l) j (by exact hj)]
    rfl
  simp [Instr.index, run_underlying Try.underlying9, asIntOf, hs, n8]
theorem n8_is {x c : UInt8} (h : n8 x = n8 c) : x = c := UInt8.toNat_inj.1 (by unfold n8 at h; omega)
theorem n8_eq (x c : UInt8) : (n8 x == n8 c) = decide (x = c) := by
  by_cases h : x = c
  · rw [h, decide_eq_true rfl]
    exact beq_self_eq_true _
  · rw [decide_eq_false h]
    exact beq_eq_false_iff_ne.2 fun e => h (n8_is e)
theorem sb_beq (a b : List UInt8) : ((sb a).toList == (sb b).toList) = decide (a = b) := by
  rw [sb_list, sb_list]
  by_cases h : a = b
  · rw [h, decide_eq_true rfl]
    exact beq_self_eq_true _
  · rw [decide_eq_false h]
    exact beq_eq_false_iff_ne.2 h
theorem less_ltB : ∀ a b : List UInt8, Op.bytesLess a b = ltB a b
  | [], [] => rfl
  | _ :: _, [] => rfl
  | [], _ :: _ => rfl
  | a :: x, b :: y => by
    have ih := less_ltB x y
    have h1 : Op.bytesLess (a :: x) (b :: y) = (decide (a < b) || (a == b && Op.bytesLess x y)) := rfl
    rw [h1, ltB, ih]
    by_cases e : a = b
    · subst e
      rw [if_pos rfl, decide_eq_false (UInt8.lt_irrefl a)]
      simp
    · rw [if_neg e, beq_eq_false_iff_ne.2 e, Bool.false_and, Bool.or_false]
      exact decide_eq_decide.2 UInt8.lt_iff_toNat_lt
end Pth
open Pth
theorem pa_infoStr : ∃ i, Try.prog.info? 9 = some i ∧ i.zero = some (.string ⟨#[]⟩) ∧ i.size = 1 ∧ i.bytes = 16 := by
  have h : (Try.prog.info? 9).map (fun i => (i.zero, i.size, i.bytes)) = some (some (.string ⟨#[]⟩), 1, 16) := by kernel_rfl
  obtain ⟨i, hi, hz⟩ := Option.map_eq_some_iff.1 h
  simp only [Prod.mk.injEq] at hz
  exact ⟨i, hi, hz.1, hz.2.1, hz.2.2⟩
/-- A slice of texts. -/
structure TxtsAt (w : World) (A : Option Addr) (n c : Nat) (ks : List (List UInt8)) : Prop where
  len : ks.length = n
  cap : n ≤ c
  at_ : 0 < n → ∃ b o, A = some ⟨b, o, none⟩ ∧ b < w.heap.size ∧ w.rangeAt b o (ks.map fun k => Value.string (sb k))
theorem TxtsAt.below {w w' : World} {A : Option Addr} {n c : Nat} {ks : List (List UInt8)} (h : TxtsAt w A n c ks) (hb : Below w.heap.size w w') : TxtsAt w' A n c ks :=
  ⟨h.len, h.cap, fun h0 => by
    obtain ⟨b, o, e, hlt, hr⟩ := h.at_ h0
    exact ⟨b, o, e, Nat.lt_of_lt_of_le hlt hb.size, rangeAt_kept hr (kept_below hb) (fun h => h)⟩⟩
theorem TxtsAt.cell {w : World} {A : Option Addr} {n c : Nat} {ks : List (List UInt8)} (h : TxtsAt w A n c ks) {j : Nat} (hj : j < ks.length) : ∃ b o, A = some ⟨b, o, none⟩ ∧ w.cell? ⟨b, o + j, none⟩ = some (.string (sb ks[j])) := by
  obtain ⟨b, o, e, hlt, hr⟩ := h.at_ (by have := h.len; omega)
  exact ⟨b, o, e, hr j _ (by rw [List.getElem?_map, List.getElem?_eq_getElem hj]; rfl)⟩
def txtL (ks : List (List UInt8)) : List Value := ks.map fun k => Value.string (sb k)
theorem txtL_len (ks : List (List UInt8)) : (txtL ks).length = ks.length := List.length_map _
theorem txtL_one (ks : List (List UInt8)) : ∀ v ∈ txtL ks, v.oneCell' = true := by
  intro v hv
  obtain ⟨k, _, rfl⟩ := List.mem_map.1 hv
  rfl
/-- v is a slice of the call's own (its block from B on) that holds these texts. -/
def OwnTxts (w : World) (B : Nat) (v : Value) (ks : List (List UInt8)) : Prop := w.ownsRow B 9 1 v ks.length (txtL ks)
theorem OwnTxts.nil (w : World) (B : Nat) : OwnTxts w B (.slice none 0 0) [] := ⟨rfl, .inl ⟨rfl, rfl⟩⟩
theorem OwnTxts.below {w w' : World} {B : Nat} {v : Value} {ks : List (List UInt8)} (h : OwnTxts w B v ks) (hb : Below w.heap.size w w') : OwnTxts w' B v ks := by
  obtain ⟨hl, h1 | ⟨g, cap, cur, rfl, hg, hh, hn, hc, hs, ht⟩⟩ := h
  · exact ⟨hl, .inl h1⟩
  · exact ⟨hl, .inr ⟨g, cap, cur, rfl, hg, (hb.block g (Array.getElem?_eq_some_iff.1 hh).1).trans hh, hn, hc, hs, ht⟩⟩
theorem OwnTxts.mono {w : World} {B B' : Nat} {v : Value} {ks : List (List UInt8)} (h : OwnTxts w B v ks) (hB : B' ≤ B) : OwnTxts w B' v ks := by
  obtain ⟨hl, h1 | ⟨g, cap, cur, rfl, hg, rest⟩⟩ := h
  · exact ⟨hl, .inl h1⟩
  · exact ⟨hl, .inr ⟨g, cap, cur, rfl, Nat.le_trans hB hg, rest⟩⟩
theorem OwnTxts.txts {w : World} {B : Nat} {v : Value} {ks : List (List UInt8)} (h : OwnTxts w B v ks) : ∃ (A : Option Addr) (c : Nat), v = .slice A ks.length c ∧ TxtsAt w A ks.length c ks := by
  obtain ⟨hl, ⟨rfl, h0⟩ | ⟨g, cap, cur, rfl, hg, hh, hn, hc, hs, ht⟩⟩ := h
  · have : ks = [] := List.eq_nil_of_length_eq_zero h0
    subst this
    exact ⟨none, 0, rfl, rfl, Nat.le_refl _, fun h => absurd h (by decide)⟩
  · have hlt := (Array.getElem?_eq_some_iff.1 hh).1
    refine ⟨some ⟨g, 0, none⟩, cap, rfl, rfl, hn, fun _ => ⟨g, 0, rfl, hlt, fun j u hj => ?_⟩⟩
    have hjl := (List.getElem?_eq_some_iff.1 hj).1
    rw [List.length_map] at hjl
    have ht2 : List.take (ks.length * 1) cur.toList = ks.map fun k => Value.string (sb k) := ht
    rw [cell_of_row _ _ _ _ _ _ hh, Nat.zero_add, ← hj, ← ht2, List.getElem?_take, if_pos (by omega)]
    simp
/-- What is not empty has a block of its own. -/
theorem OwnTxts.got {w : World} {B : Nat} {v : Value} {ks : List (List UInt8)} (h : OwnTxts w B v ks) (h0 : 0 < ks.length) : ∃ g c, v = .slice (some ⟨g, 0, none⟩) ks.length c ∧ B ≤ g ∧ g < w.heap.size ∧ ks.length ≤ c ∧ (∀ j (hj : j < ks.length), w.cell? ⟨g, j, none⟩ = some (.string (sb ks[j]))) ∧ ∀ j, w.frozen? ⟨g, j, none⟩ = false := by
  have h' := h
  obtain ⟨hl, ⟨rfl, h1⟩ | ⟨g, cap, cur, rfl, hg, hh, hn, hc, hs, ht⟩⟩ := h
  · omega
  · refine ⟨g, cap, rfl, hg, (Array.getElem?_eq_some_iff.1 hh).1, hn, fun j hj => ?_, fun j => ?_⟩
    · obtain ⟨A, c, e, hT⟩ := h'.txts
      obtain ⟨b, o, e2, hc⟩ := hT.cell hj
      injection e with e3 _ _
      rw [e2] at e3
      simp only [Option.some.injEq, Addr.mk.injEq] at e3
      obtain ⟨e4, e5, _⟩ := e3
      subst e4
      subst e5
      rw [Nat.zero_add] at hc
      exact hc
    · simp [World.frozen?, hh]
/-- A text stored in place of another. -/
theorem OwnTxts.set {w : World} {B g c : Nat} {ks : List (List UInt8)} (h : OwnTxts w B (.slice (some ⟨g, 0, none⟩) ks.length c) ks) (j : Nat) (x : List UInt8) : OwnTxts (w.setCell ⟨g, j, none⟩ (.string (sb x))) B (.slice (some ⟨g, 0, none⟩) ks.length c) (ks.set j x) := by
  obtain ⟨hl, ⟨e, _⟩ | ⟨g', cap, cur, e, hg, hh, hn, hc, hs, ht⟩⟩ := h
  · cases e
  · injection e with e1 _ e2
    simp only [Option.some.injEq, Addr.mk.injEq, and_true] at e1
    subst e1
    subst e2
    unfold OwnTxts
    rw [show (ks.set j x).length = ks.length from List.length_set]
    refine ⟨by rw [txtL_len, List.length_set, Nat.mul_one], .inr ⟨g, c, _, rfl, hg, heap_setCell_same w g j cur _ _ hh, hn, hc, by rw [Array.size_setIfInBounds]; exact hs, ?_⟩⟩
    have ht2 : List.take (ks.length * 1) cur.toList = ks.map fun k => Value.string (sb k) := ht
    rw [Array.toList_setIfInBounds, List.take_set, ht2]
    unfold txtL
    rw [List.map_set]
theorem OwnTxts.stored {w : World} {B g c : Nat} {ks : List (List UInt8)} (h : OwnTxts w B (.slice (some ⟨g, 0, none⟩) ks.length c) ks) (_h0 : 0 < ks.length) : B ≤ g := by
  obtain ⟨_, ⟨e, _⟩ | ⟨g', cap, cur, e, hg, _⟩⟩ := h
  · cases e
  · injection e with e1 _ e2
    simp only [Option.some.injEq, Addr.mk.injEq, and_true] at e1
    omega
/-- Texts behind texts. -/
theorem append_txts {w : World} {ops : Array Oper} {rest : List Oper} {o : Oper} {a : Act} {Q : Exit → Act → World → Prop} (hg : o.guard = none) (s x : Operand)
    (ho : o.op = .call { callee := .builtin .append, args := #[s, x], argTypes := #[46, 46] }) (B : Nat) (v : Value) (ks : List (List UInt8)) (hs : a.eval s = v) (hown : OwnTxts w B v ks)
    (ad : Addr) (n c : Nat) (ms : List (List UInt8)) (hx : a.eval x = .slice (some ad) n c) (hsrc : TxtsAt w (some ad) n c ms) (hb : ks.length + n ≤ 1000000000000) (hB : B ≤ w.heap.size)
    (h : ∀ v' w', Hid (OwnTxts w' B v' (ks ++ ms)) → Hid (Kept w w' (fun k => B ≤ k ∧ v.ownBlock = some k)) → wpList Try.prog ops Q rest (a.put o.dst v') w') : wpList Try.prog ops Q (o :: rest) a w := by
  obtain ⟨i, hi, hz, hsz, hby⟩ := pa_infoStr
  have hlen := hsrc.len
  have hnews : ∀ j u, (txtL ms)[j]? = some u → w.cell? (ad.add j) = some u := by
    intro j u hj
    have hjl := (List.getElem?_eq_some_iff.1 hj).1
    rw [txtL_len] at hjl
    obtain ⟨b, off, e, _, hr⟩ := hsrc.at_ (by omega)
    simp only [Option.some.injEq] at e
    subst e
    rw [Addr.add_mid]
    exact hr j u hj
  obtain ⟨v', w', hr, h2, h3, h4, h5⟩ := run_append_own_at (P := Try.prog) w B 46 o.type 9 i (.string ⟨#[]⟩) 1 16 Try.underlying46 hi hz hsz hby rfl (by decide) v ks.length (txtL ks) hown ad n c (txtL ms)
    (by rw [txtL_len, hlen, Nat.mul_one]) hnews (txtL_one ms) (by unfold maxLen; omega) (by omega) hB
  refine wpList_wanted (by simp [Region.wanted, hg]) fun K hK => ?_
  unfold Oper.wp execOp
  simp only [ho, resolve, invoke, builtin, Sem.run_bind, Sem.run_pure, Result.andThen_ok, List.map_toArray, List.map_cons, List.map_nil, hs, hx, hr]
  refine hK _ _ (h v' w' ?_ ?_)
  · show w'.ownsRow B _ 1 v' (ks ++ ms).length (txtL (ks ++ ms))
    rw [List.length_append, hlen, show txtL (ks ++ ms) = txtL ks ++ txtL ms from List.map_append]
    exact h2
  · refine ⟨h3.os, h3.tape, h3.output, h3.size, fun k hk hn => h3.block k hk (fun e => hn ?_)⟩
    obtain ⟨_, ⟨rfl, _⟩ | ⟨g, cap, cur, rfl, hg, _⟩⟩ := hown
    · cases e
    · have e' : g = k := by simpa [Value.ownBlock] using e.symm
      subst e'
      exact ⟨hg, rfl⟩
theorem run_build_txt1 (W : World) (a : ByteArray) : (Instr.buildSlice 46 1 #[(0, .string a)]).run Try.prog W = .ok (.slice (some ⟨W.heap.size, 0, none⟩) 1 1) (W.alloc (.cells #[.string a] 9)) := by
  obtain ⟨i, hi, hz, hsz, _⟩ := pa_infoStr
  refine run_buildSlice (P := Try.prog) W 46 9 1 #[(0, .string a)] #[.string a] i _ Try.underlying46 hi hz (by rw [hsz]; decide) (by rw [hsz]; decide) ?_
  rw [hsz]
  rw [show Array.range (1 * 1) = #[0] from by decide]
  simp [Instr.fill, Value.cells]
theorem TxtsAt.new1 (w : World) (a : List UInt8) : TxtsAt (w.alloc (.cells #[.string (sb a)] 9)) (some ⟨w.heap.size, 0, none⟩) 1 1 [a] := by
  have r := Row.new w 9 [.string (sb a)]
  exact ⟨rfl, Nat.le_refl _, fun _ => ⟨_, 0, rfl, r.lt, r.range 0 _ (fun j v hj => by rw [Nat.zero_add]; exact hj)⟩⟩
theorem OwnTxts.new1 (w : World) (a : List UInt8) : OwnTxts (w.alloc (.cells #[.string (sb a)] 9)) w.heap.size (.slice (some ⟨w.heap.size, 0, none⟩) 1 1) [a] :=
  ⟨rfl, .inr ⟨w.heap.size, 1, _, rfl, Nat.le_refl _, heap_alloc_new _ _, Nat.le_refl _, by unfold maxLen; omega, rfl, rfl⟩⟩
end Go.Proofs.Ytjbcagciaccbeaa
