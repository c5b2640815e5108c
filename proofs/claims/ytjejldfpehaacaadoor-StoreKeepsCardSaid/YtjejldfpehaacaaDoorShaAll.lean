/-
  The digest of bytes at once.
-/
import Derived.Test.YtjejldfpehaacaaDoorShaSum
namespace Go.Proofs.YtjejldfpehaacaaDoor
open Go.RowKit Sh

/-- A slice of n bytes bs, nil let in. -/
structure BytesAt (w : World) (A : Option Addr) (n c : Nat) (bs : List UInt8) : Prop where
  len : bs.length = n
  cap : n ≤ c
  at_ : 0 < n → ∃ b o, A = some ⟨b, o, none⟩ ∧ b < w.heap.size ∧ w.rangeAt b o (bs.map v8)
theorem BytesAt.nil (w : World) : BytesAt w none 0 0 [] := ⟨rfl, Nat.le_refl _, fun h => absurd h (by decide)⟩
theorem BytesAt.row {w : World} {b : Nat} {t : TypeId} {bs : List UInt8} (h : Row w b t (bs.map v8)) : BytesAt w (some ⟨b, 0, none⟩) bs.length bs.length bs :=
  ⟨rfl, Nat.le_refl _, fun _ => ⟨b, 0, rfl, h.lt, h.range 0 _ (fun j v hj => by rw [Nat.zero_add]; exact hj)⟩⟩
theorem BytesAt.kept {w w' : World} {S : Nat → Prop} {A : Option Addr} {n c : Nat} {bs : List UInt8} (h : BytesAt w A n c bs) (k : Kept w w' S) (hS : ∀ b o, A = some ⟨b, o, none⟩ → b < w.heap.size → ¬ S b) : BytesAt w' A n c bs :=
  ⟨h.len, h.cap, fun hn => by
    obtain ⟨b, o, e, hlt, hr⟩ := h.at_ hn
    exact ⟨b, o, e, Nat.lt_of_lt_of_le hlt k.size, rangeAt_kept hr k (hS b o e hlt)⟩⟩
theorem BytesAt.below {w w' : World} {A : Option Addr} {n c : Nat} {bs : List UInt8} (h : BytesAt w A n c bs) (hb : Below w.heap.size w w') : BytesAt w' A n c bs :=
  h.kept (Kept.of_below hb (fun _ hk _ => hk) : Kept w w' (fun _ => False)) (fun _ _ _ _ h => h)
theorem BytesAt.src {w w' : World} {g : Nat} {A : Option Addr} {n c : Nat} {bs : List UInt8} (h : BytesAt w A n c bs) (k : Kept w w' (fun _ => False)) (hg : w.heap.size ≤ g) : SrcIs w' g A n c bs :=
  ⟨h.len, h.cap, fun hn => by
    obtain ⟨b, o, e, hlt, hr⟩ := h.at_ hn
    exact ⟨b, o, e, by omega, Nat.lt_of_lt_of_le hlt k.size, rangeAt_kept hr k (fun h => h)⟩⟩

set_option maxRecDepth 100000 in
set_option maxHeartbeats 400000 in
theorem sum_any (w : World) (A : Option Addr) (n c : Nat) (bs : List UInt8) (hK : KT w) (S : BytesAt w A n c bs) (hlen : n ≤ 549755813888) :
    Calls Tryd.prog 35 #[.slice A n c] w fun e w' => e = .returned (.agg ((digest bs).map v8).toArray) ∧ Below w.heap.size w w' := by
  have HK := Lib.hid hK
  have HS := Lib.hid S
  clear hK S
  go_enter Tryd.func35, Tryd.ntmps35
  go_wp2_with fail
  have hr : Row (w.alloc (.cells (List.replicate 32 (v8 0)).toArray 31)) w.heap.size 31 (List.replicate 32 (v8 0)) := Row.new _ _ _
  have hk : Kept w (w.alloc (.cells (List.replicate 32 (v8 0)).toArray 31)) (fun _ => False) := (Kept.refl _ _).alloc _
  have hz : (w.alloc (.cells (List.replicate 32 (v8 0)).toArray 31)).heap.size = w.heap.size + 1 := by simp
  generalize hW : World.alloc _ _ = W at hr hk hz
  generalize hW' : World.alloc _ _ = W'
  obtain rfl : W = W' := hW.symm.trans hW'
  have HR := Lib.hid hr
  have HKW := Lib.hid hk
  have HZ := Lib.hid hz
  clear hr hk hz hW hW'
  refine (new_any W).mono ?_
  rintro e w1 ⟨rfl, H1, E1⟩
  have hk1 : Kept W w1 (fun _ => False) := by rw [E1.out]; exact (Kept.refl _ _).alloc _
  have HK1 := Lib.hid hk1
  clear hk1 E1
  go_wp2_with fail
  have hW1 : W.heap.size = w.heap.size + 1 := HZ.out
  have hkt : KT w1 := (HK.out.kept HKW.out (fun h => h)).kept HK1.out (fun h => h)
  have hkw : Kept w w1 (fun _ => False) := HKW.out.trans HK1.out
  have hk0 := HK.out.lt
  refine (write_any w1 W.heap.size [] _ A n c bs hkt (by omega) H1.out (HS.out.src hkw (by omega)) (by rw [List.length_nil]; omega)).mono ?_
  rintro e w2 ⟨rfl, H2, K2⟩
  rw [List.nil_append] at H2
  obtain ⟨blk2, h2⟩ := H2.out
  rw [hW1] at h2
  have H3 := Lib.hid h2
  have HKT2 := Lib.hid (hkt.kept K2.out (by omega))
  have hbl := HS.out.len
  clear h2 H2 hkt
  go_wp2_with fail
  refine (hsum_any _ (w.heap.size + 1) bs blk2 HKT2.out (by omega) H3.out (by omega)).mono ?_
  rintro e w3 ⟨rfl, hb3⟩
  have hr3 : Row w3 w.heap.size 31 (List.replicate 32 (v8 0)) := (K2.out.row (HK1.out.row HR.out (fun h => h)) (by omega)).below hb3 (by have := K2.out.size; have := HK1.out.size; omega)
  have HR3 := Lib.hid hr3
  have HB3 := Lib.hid hb3
  clear hb3 hr3
  go_wp2_with ((with_reducible refine wpList_store_row ?_ 31 (.tmp 2) (.tmp 9) ?_ w.heap.size ((digest bs).map v8).toArray ?_ ?_ 31 (List.replicate 32 (v8 0)).toArray ?_ ?_ ?_ ?_ ?_); rfl; rfl; go_must (rfl; rfl; exact HR3.out; kernel_rfl; rfl; exact oneCell_map v8 (fun _ => rfl) _))
  refine bodyPost_ret (v := .agg ((digest bs).map v8).toArray) (results_cell_row rfl _ _ w.heap.size _ ((digest bs).map v8).toArray _ _ rfl (setRow_heap _ w.heap.size _ _ _ _ HR3.out) Tryd.underlying31 rfl (by kernel_rfl)) rfl ⟨rfl, ?_⟩
  have hk2 : Kept w w2 (fun _ => False) := ⟨(K2.out.os.trans hkw.os), (K2.out.tape.trans hkw.tape), (K2.out.output.trans hkw.output), Nat.le_trans hkw.size K2.out.size, fun k hk hn => (K2.out.block k (by have := hkw.size; omega) (by omega)).trans (hkw.block k hk hn)⟩
  exact below_setRow ((hk2.below (Nat.le_refl _) (fun _ _ h => h)).trans (HB3.out.mono hk2.size)) (Nat.le_refl _) _
end Go.Proofs.YtjejldfpehaacaaDoor
