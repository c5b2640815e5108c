/-
  The small case that each law begins with comes out right.
-/
import Derived.Test.YtknfpfhbplmffaaDoorShaEq
import Derived.Lib.QuietBelow
import Derived.Lib.SlBytesConst
namespace Go.Proofs.YtknfpfhbplmffaaDoor
open Go.RowKit Sh

theorem d_none : digest [] = [0xe3, 0xb0, 0xc4, 0x42, 0x98, 0xfc, 0x1c, 0x14, 0x9a, 0xfb, 0xf4, 0xc8, 0x99, 0x6f, 0xb9, 0x24, 0x27, 0xae, 0x41, 0xe4, 0x64, 0x9b, 0x93, 0x4c, 0xa4, 0x95, 0x99, 0x1b, 0x78, 0x52, 0xb8, 0x55] := by decide +kernel
theorem d_abc : digest [97, 98, 99] = [0xba, 0x78, 0x16, 0xbf, 0x8f, 0x01, 0xcf, 0xea, 0x41, 0x41, 0x40, 0xde, 0x5d, 0xae, 0x22, 0x23, 0xb0, 0x03, 0x61, 0xa3, 0x96, 0x17, 0x7a, 0x9c, 0xb4, 0x10, 0xff, 0x61, 0xf2, 0x00, 0x15, 0xad] := by decide +kernel

/-- A block of the call's own that holds a digest. -/
def DigAt (w : World) (b : Nat) (m : List UInt8) : Prop := Row w b 25 ((digest m).map v8)

theorem store_digest {w : World} {ops : Array Oper} {rest : List Oper} {o : Oper} {a : Act} {Q : Exit → Act → World → Prop} (hgd : o.guard = none) (x y : Operand) (ho : o.op = .store 25 x y)
    (b : Nat) (m : List UInt8) (hx : a.eval x = .pointer (some ⟨b, 0, none⟩)) (hy : a.eval y = .agg ((digest m).map v8).toArray) (hr : Row w b 25 (List.replicate 32 (v8 0)))
    (h : ∀ w', Hid (DigAt w' b m) → Hid (Kept w w' (· = b)) → Hid (w'.heap.size = w.heap.size) → wpList Tryd.prog ops Q rest (a.put o.dst undef) w') : wpList Tryd.prog ops Q (o :: rest) a w := by
  refine wpList_store_row hgd 25 x y ho b ((digest m).map v8).toArray hx hy 25 (List.replicate 32 (v8 0)).toArray hr (by kernel_rfl) rfl (oneCell_map v8 (fun _ => rfl) _) ?_
  exact h _ (hr.setRow _) (show Kept _ _ (· = b) from (Kept.refl w (· = b)).setRow (b := b) (.inr rfl) _) (setRow_size _ _ _)

theorem BytesAt.const (w : World) (bs : List UInt8) (e : TypeId) (fr : Nat × Nat) {C : Array Value} (hC : C = (bs.map v8).toArray) {n : Nat} (hn : bs.length = n) : BytesAt (w.alloc (.cells C e fr)) (some ⟨w.heap.size, 0, none⟩) n n bs := by
  subst hC
  subst hn
  refine ⟨rfl, Nat.le_refl _, fun _ => ⟨_, _, rfl, by simp, fun j v hj => ?_⟩⟩
  rw [cell_of_row _ _ _ _ _ _ (heap_alloc_new w _), Nat.zero_add]
  simpa using hj
/-- Behind an alloc of a digest's place and a store into it. -/
theorem kept_stored {w1 w2 : World} {o : Obj} (K2 : Kept (w1.alloc o) w2 (· = w1.heap.size)) : Kept w1 w2 (fun _ => False) :=
  ⟨K2.os, K2.tape, K2.output, by have := K2.size; simp at this; omega, fun i hi _ => (K2.block i (by simp; omega) (by omega)).trans (Below.heap_alloc _ _ _ hi)⟩
theorem kept_trans {a b c : World} (h : Kept a b (fun _ => False)) (k : Kept b c (fun _ => False)) : Kept a c (fun _ => False) := h.trans k
theorem kept_below {a b : World} (h : Below a.heap.size a b) : Kept a b (fun _ => False) := Kept.of_below h (fun _ hk _ => hk)
theorem kept_alloc (a : World) (o : Obj) : Kept a (a.alloc o) (fun _ => False) := (Kept.refl a _).alloc o
theorem kept_fresh {a b c : World} {g : Nat} (h : Kept a b (fun _ => False)) (k : Kept b c (· = g)) (hg : a.heap.size ≤ g) : Kept a c (fun _ => False) :=
  ⟨k.os.trans h.os, k.tape.trans h.tape, k.output.trans h.output, Nat.le_trans h.size k.size, fun i hi hn => (k.block i (Nat.lt_of_lt_of_le hi h.size) (by omega)).trans (h.block i hi hn)⟩
theorem BytesAt.srcOf {w : World} {g b : Nat} {n c : Nat} {bs : List UInt8} (h : BytesAt w (some ⟨b, 0, none⟩) n c bs) (hb : b ≠ g) : SrcIs w g (some ⟨b, 0, none⟩) n c bs :=
  ⟨h.len, h.cap, fun hn => by
    obtain ⟨b', o, e, hlt, hr⟩ := h.at_ hn
    refine ⟨b', o, e, ?_, hlt, hr⟩
    simp only [Option.some.injEq, Addr.mk.injEq] at e
    omega⟩
theorem DigAt.kept {w w' : World} {S : Nat → Prop} {b : Nat} {m : List UInt8} (h : DigAt w b m) (k : Kept w w' S) (hS : ¬ S b) : DigAt w' b m := k.row h hS

set_option maxRecDepth 100000 in
set_option maxHeartbeats 1000000 in
theorem small_any (w : World) (hK : KT w) : Calls Tryd.prog 12 #[] w fun e w' => e = .returned (.bool true) ∧ Below w.heap.size w w' := by
  have HK := Lib.hid hK
  clear hK
  have kc := fun (W : World) (C : Array Value) (n c : Nat) => Lib.run_convert_bytes_const (P := Tryd.prog) W 22 5 C n c Tryd.underlying22 Tryd.underlying5
  go_enter Tryd.func12, Tryd.ntmps12
  go_wp2_with fail
  refine (sum_any w none 0 0 [] HK.out (BytesAt.nil w) (by decide)).mono ?_
  rintro e w1 ⟨rfl, hb1⟩
  have C1 := Lib.hid (kept_below hb1)
  clear hb1
  go_upto_region 2 with ((with_reducible refine store_digest ?_ (.tmp 1) (.tmp 5) ?_ w1.heap.size [] ?_ ?_ ?_ ?_); rfl; rfl; go_must (rfl; rfl; exact Row.at_ _ _ _ rfl rfl); intro w2 HD2 K2 Z2)
  have C2 := Lib.hid (kept_trans C1.out (kept_stored K2.out))
  clear K2 Z2
  go_wp2_with fail
  refine (sum_any _ _ 3 3 [97, 98, 99] (HK.out.kept (kept_trans C2.out (kept_alloc _ _)) (fun h => h)) (BytesAt.const w2 [97, 98, 99] _ _ rfl rfl) (by decide)).mono ?_
  rintro e w4 ⟨rfl, hb4⟩
  have C4 := Lib.hid (kept_trans (kept_alloc _ _) (kept_below hb4))
  clear hb4
  go_upto_region 3 with ((with_reducible refine store_digest ?_ (.tmp 2) (.tmp 8) ?_ w4.heap.size [97, 98, 99] ?_ ?_ ?_ ?_); rfl; rfl; go_must (rfl; rfl; exact Row.at_ _ _ _ rfl rfl); intro w5 HD5 K5 Z5)
  have C5 := Lib.hid (kept_trans C4.out (kept_stored K5.out))
  have E5 := Lib.hid (HD2.out.kept C5.out (fun h => h))
  have D5 := Lib.hid (kept_trans C2.out C5.out)
  clear K5 Z5
  go_wp2_with fail
  refine (new_any w5).mono ?_
  rintro e w6 ⟨rfl, H6, E6⟩
  have C6 := Lib.hid (show Kept w5 w6 (fun _ => False) by rw [E6.out]; exact kept_alloc _ _)
  clear E6
  go_wp2_with fail
  have hg0 : 0 < w.heap.size := HK.out.lt
  have s5 : w.heap.size ≤ w5.heap.size := D5.out.size
  have l6 : w5.heap.size < w6.heap.size := H6.out.row.lt
  have l1 : w1.heap.size < w5.heap.size := E5.out.lt
  have l4 : w4.heap.size < w5.heap.size := HD5.out.lt
  have hk6 : Kept w (w6.alloc (.cells (([97] : List UInt8).map v8).toArray 5 (1, 2))) (fun _ => False) := kept_trans (kept_trans D5.out C6.out) (kept_alloc _ _)
  have C7 := Lib.hid (kept_trans C6.out (kept_alloc w6 (.cells (([97] : List UInt8).map v8).toArray 5 (1, 2))))
  refine (write_any (w6.alloc (.cells (([97] : List UInt8).map v8).toArray 5 (1, 2))) w5.heap.size [] _ _ 1 1 [97] (HK.out.kept hk6 (fun h => h)) (by omega) (H6.out.alloc _) ((BytesAt.const w6 [97] _ _ rfl rfl).srcOf (by omega)) (by decide)).mono ?_
  rintro e w8 ⟨rfl, H8, K8⟩
  rw [List.nil_append] at H8
  obtain ⟨blk8, h8⟩ := H8.out
  have G8 := Lib.hid h8
  have KW8 := Lib.hid (kept_fresh hk6 K8.out (by omega))
  have A8 := Lib.hid ((E5.out.kept C7.out (fun h => h)).kept K8.out (by omega))
  have B8 := Lib.hid ((HD5.out.kept C7.out (fun h => h)).kept K8.out (by omega))
  clear h8 H8 K8 hk6 C7 H6
  go_wp2_with fail
  refine (hsum_any w8 w5.heap.size [97] blk8 (HK.out.kept KW8.out (fun h => h)) (by omega) G8.out (by decide)).mono ?_
  rintro e w9 ⟨rfl, hb9⟩
  have C9 := Lib.hid (kept_below hb9)
  clear hb9
  go_upto_region 8 with ((with_reducible refine store_digest ?_ (.tmp 4) (.tmp 17) ?_ w9.heap.size [97] ?_ ?_ ?_ ?_); rfl; rfl; go_must (rfl; rfl; exact Row.at_ _ _ _ rfl rfl); intro w10 HD10 K10 Z10)
  have C10 := Lib.hid (kept_trans C9.out (kept_stored K10.out))
  have l9 : w9.heap.size < w10.heap.size := HD10.out.lt
  have l8 : w5.heap.size < w8.heap.size := G8.out.row.lt
  have s9 : w8.heap.size ≤ w9.heap.size := C9.out.size
  clear K10 Z10
  go_wp2_with fail
  have hk11 : Kept w8 (w10.alloc (.cells (([98, 99] : List UInt8).map v8).toArray 5 (2, 3))) (fun _ => False) := kept_trans C10.out (kept_alloc _ _)
  have hw11 : Kept w (w10.alloc (.cells (([98, 99] : List UInt8).map v8).toArray 5 (2, 3))) (fun _ => False) := kept_trans KW8.out hk11
  refine (write_any (w10.alloc (.cells (([98, 99] : List UInt8).map v8).toArray 5 (2, 3))) w5.heap.size [97] blk8 _ 2 2 [98, 99] (HK.out.kept hw11 (fun h => h)) (by omega) (G8.out.kept hk11 (fun h => h)) ((BytesAt.const w10 [98, 99] _ _ rfl rfl).srcOf (by omega)) (by decide)).mono ?_
  rintro e w12 ⟨rfl, H12, K12⟩
  obtain ⟨blk12, h12⟩ := H12.out
  have G12 := Lib.hid h12
  have KW12 := Lib.hid (kept_fresh hw11 K12.out (by omega))
  have A12 := Lib.hid ((A8.out.kept hk11 (fun h => h)).kept K12.out (by omega))
  have B12 := Lib.hid ((B8.out.kept hk11 (fun h => h)).kept K12.out (by omega))
  have D12 := Lib.hid ((HD10.out.kept (kept_alloc _ _) (fun h => h)).kept K12.out (by omega))
  clear h12 H12 K12 hw11 hk11
  go_upto_region 9 with (fail)
  have hS : ∀ v, Below w12.heap.size w12 v → (v.cell? ⟨w1.heap.size, 0, none⟩ = some (.int .u8 227) ∧ v.cell? ⟨w1.heap.size, 1, none⟩ = some (.int .u8 176) ∧ v.cell? ⟨w1.heap.size, 31, none⟩ = some (.int .u8 85) ∧ v.cell? ⟨w4.heap.size, 0, none⟩ = some (.int .u8 186) ∧ v.cell? ⟨w4.heap.size, 1, none⟩ = some (.int .u8 120) ∧ v.cell? ⟨w4.heap.size, 30, none⟩ = some (.int .u8 21) ∧ v.cell? ⟨w4.heap.size, 31, none⟩ = some (.int .u8 173) ∧ v.rangeAt w9.heap.size 0 ((digest [97]).map v8) ∧ v.rangeAt w4.heap.size 0 ((digest [97, 98, 99]).map v8) ∧ Below w12.heap.size w12 v) := by
    intro v hv
    have ha := Row.below A12.out hv A12.out.lt
    have hb := Row.below B12.out hv B12.out.lt
    have hr9 : v.rangeAt w9.heap.size 0 ((digest [97]).map v8) := (Row.below D12.out hv D12.out.lt).range 0 _ (fun j u hu => by rw [Nat.zero_add]; exact hu)
    have hr4 : v.rangeAt w4.heap.size 0 ((digest [97, 98, 99]).map v8) := hb.range 0 _ (fun j u hu => by rw [Nat.zero_add]; exact hu)
    rw [d_none] at ha
    rw [d_abc] at hb
    exact ⟨ha.cell rfl, ha.cell rfl, ha.cell rfl, hb.cell rfl, hb.cell rfl, hb.cell rfl, hb.cell rfl, hr9, hr4, hv⟩
  have hu25 : Tryd.prog.underlying 25 = some (.array 32 5) := Tryd.underlying25
  have hi1 : (Tryd.prog.info? 25).map (·.size) = some ((digest [97]).map v8).length := by kernel_rfl
  have hi3 : (Tryd.prog.info? 25).map (·.size) = some ((digest [97, 98, 99]).map v8).length := by kernel_rfl
  have q1 := eq_digest [97]
  have q3 := eq_digest [97, 98, 99]
  have HS := Lib.hid hS
  have hkt := HK.out.kept KW12.out (fun h => h)
  have HKT := Lib.hid hkt
  have l12 : w5.heap.size < w12.heap.size := G12.out.row.lt
  have hsum : ∀ (W : World) (A : Option Addr), KT W → BytesAt W A 1 1 [97] → Calls Tryd.prog 13 #[.slice A 1 1] W fun e w' => e = .returned (.agg ((digest [97]).map v8).toArray) ∧ Below W.heap.size W w' := fun W A hk hb => sum_any W A 1 1 [97] hk hb (by decide)
  have hhs : ∀ (W : World), KT W → HashAt W w5.heap.size [97, 98, 99] blk12 → Calls Tryd.prog 17 #[.pointer (some ⟨w5.heap.size, 0, none⟩)] W fun e w' => e = .returned (.agg ((digest [97, 98, 99]).map v8).toArray) ∧ Below W.heap.size W w' := fun W hk hh => hsum_any W w5.heap.size [97, 98, 99] blk12 hk (by omega) hh (by decide)
  have HSUM := Lib.hid hsum
  have HHS := Lib.hid hhs
  have HSS := Lib.hid hS
  have HQ1 := Lib.hid q1
  have HQ3 := Lib.hid q3
  clear hkt hS l1 l4 l6 l8 l9 s9 s5 E5 HD5 D5 C6 C9 C10 A8 B8 G8 KW8 C5 C4 C2 C1 HD2 HD10 hsum hhs HS q1 q3 A12 B12 D12 HK hg0
  generalize (digest []).map v8 = D0 at *
  generalize (digest [97]).map v8 = D1 at *
  generalize (digest [97, 98, 99]).map v8 = D3 at *
  have hkc2 : (convert 22 22 (.slice (some ⟨w12.heap.size, 0, none⟩) 1 1)).run Tryd.prog (w12.alloc (.cells #[.int .u8 97] 5)).drew = .ok (.slice (some ⟨w12.heap.size, 0, none⟩) 1 1) (w12.alloc (.cells #[.int .u8 97] 5 (1, 2))).drew := kc w12.drew #[.int .u8 97] 1 1
  clear kc
  have q1 := HQ1.out
  have q3 := HQ3.out
  have HB12 := Lib.hid (Below.drew (Below.refl w12.heap.size w12))
  refine wp_region_held (S := fun v => Below w12.heap.size w12 v) (by kernel_rfl) ?_
  change wpAnyH _ _ _ _ _ _ _ _ (World.drew _)
  refine wpAnyH_take (i := 0) (v := ?_) rfl (by kernel_rfl) (by kernel_rfl) (by kernel_rfl) (fun _ _ _ h => h) (Or.inl ⟨by rfl, ?_⟩) HB12.out ?_
  rotate_left
  · (intro v hv; have hSv := HSS.out v hv; go_simp <;> with_reducible rfl)
  simp only [List.getElem_toArray, List.getElem_cons_zero, Act.put, List.setIfInBounds_toArray, List.set_cons_zero, List.set_cons_succ]
  refine wpAnyH_take (i := 1) (v := ?_) rfl (by kernel_rfl) (by kernel_rfl) (by kernel_rfl) (fun _ _ _ h => h) (Or.inl ⟨by rfl, ?_⟩) HB12.out ?_
  rotate_left
  · (intro v hv; have hSv := HSS.out v hv; go_simp <;> with_reducible rfl)
  simp only [List.getElem_toArray, List.getElem_cons_succ, List.getElem_cons_zero, Act.put, List.setIfInBounds_toArray, List.set_cons_zero, List.set_cons_succ]
  refine wpAnyH_take (i := 2) (v := ?_) rfl (by kernel_rfl) (by kernel_rfl) (by kernel_rfl) (fun _ _ _ h => h) (Or.inl ⟨by rfl, ?_⟩) HB12.out ?_
  rotate_left
  · (intro v hv; have hSv := HSS.out v hv; go_simp <;> with_reducible rfl)
  simp only [List.getElem_toArray, List.getElem_cons_succ, List.getElem_cons_zero, Act.put, List.setIfInBounds_toArray, List.set_cons_zero, List.set_cons_succ]
  refine wpAnyH_take (i := 3) (v := ?_) rfl (by kernel_rfl) (by kernel_rfl) (by kernel_rfl) (fun _ _ _ h => h) (Or.inl ⟨by rfl, ?_⟩) HB12.out ?_
  rotate_left
  · (intro v hv; have hSv := HSS.out v hv; go_simp <;> with_reducible rfl)
  simp only [List.getElem_toArray, List.getElem_cons_succ, List.getElem_cons_zero, Act.put, List.setIfInBounds_toArray, List.set_cons_zero, List.set_cons_succ]
  refine wpAnyH_take (i := 4) (v := ?_) rfl (by kernel_rfl) (by kernel_rfl) (by kernel_rfl) (fun _ _ _ h => h) (Or.inl ⟨by rfl, ?_⟩) HB12.out ?_
  rotate_left
  · (intro v hv; have hSv := HSS.out v hv; go_simp <;> with_reducible rfl)
  simp only [List.getElem_toArray, List.getElem_cons_succ, List.getElem_cons_zero, Act.put, List.setIfInBounds_toArray, List.set_cons_zero, List.set_cons_succ]
  refine wpAnyH_take (i := 5) (v := ?_) rfl (by kernel_rfl) (by kernel_rfl) (by kernel_rfl) (fun _ _ _ h => h) (Or.inl ⟨by rfl, ?_⟩) HB12.out ?_
  rotate_left
  · (intro v hv; have hSv := HSS.out v hv; go_simp <;> with_reducible rfl)
  simp only [List.getElem_toArray, List.getElem_cons_succ, List.getElem_cons_zero, Act.put, List.setIfInBounds_toArray, List.set_cons_zero, List.set_cons_succ]
  refine wpAnyH_take (i := 6) (v := ?_) rfl (by kernel_rfl) (by kernel_rfl) (by kernel_rfl) (fun _ _ _ h => h) (Or.inl ⟨by rfl, ?_⟩) HB12.out ?_
  rotate_left
  · (intro v hv; have hSv := HSS.out v hv; go_simp <;> with_reducible rfl)
  simp only [List.getElem_toArray, List.getElem_cons_succ, List.getElem_cons_zero, Act.put, List.setIfInBounds_toArray, List.set_cons_zero, List.set_cons_succ]
  refine wpAnyH_take (i := 7) (v := ?_) rfl (by kernel_rfl) (by kernel_rfl) (by kernel_rfl) (fun _ _ _ h => h) (Or.inl ⟨by rfl, ?_⟩) HB12.out ?_
  rotate_left
  · (intro v hv; have hSv := HSS.out v hv; go_simp <;> with_reducible rfl)
  simp only [List.getElem_toArray, List.getElem_cons_succ, List.getElem_cons_zero, Act.put, List.setIfInBounds_toArray, List.set_cons_zero, List.set_cons_succ]
  refine wpAnyH_take (i := 8) (v := ?_) rfl (by kernel_rfl) (by kernel_rfl) (by kernel_rfl) (fun _ _ _ h => h) (Or.inl ⟨by rfl, ?_⟩) HB12.out ?_
  rotate_left
  · (intro v hv; have hSv := HSS.out v hv; go_simp <;> with_reducible rfl)
  simp only [List.getElem_toArray, List.getElem_cons_succ, List.getElem_cons_zero, Act.put, List.setIfInBounds_toArray, List.set_cons_zero, List.set_cons_succ]
  refine wpAnyH_take (i := 9) (v := ?_) rfl (by kernel_rfl) (by kernel_rfl) (by kernel_rfl) (fun _ _ _ h => h) (Or.inl ⟨by rfl, ?_⟩) HB12.out ?_
  rotate_left
  · (intro v hv; have hSv := HSS.out v hv; go_simp <;> with_reducible rfl)
  simp only [List.getElem_toArray, List.getElem_cons_succ, List.getElem_cons_zero, Act.put, List.setIfInBounds_toArray, List.set_cons_zero, List.set_cons_succ]
  refine wpAnyH_take (i := 10) (v := ?_) rfl (by kernel_rfl) (by kernel_rfl) (by kernel_rfl) (fun _ _ _ h => h) (Or.inl ⟨by rfl, ?_⟩) HB12.out ?_
  rotate_left
  · (intro v hv; have hSv := HSS.out v hv; go_simp <;> with_reducible rfl)
  simp only [List.getElem_toArray, List.getElem_cons_succ, List.getElem_cons_zero, Act.put, List.setIfInBounds_toArray, List.set_cons_zero, List.set_cons_succ]
  refine wpAnyH_take (i := 11) (v := ?_) rfl (by kernel_rfl) (by kernel_rfl) (by kernel_rfl) (fun _ _ _ h => h) (Or.inl ⟨by rfl, ?_⟩) HB12.out ?_
  rotate_left
  · (intro v hv; have hSv := HSS.out v hv; go_simp <;> with_reducible rfl)
  simp only [List.getElem_toArray, List.getElem_cons_succ, List.getElem_cons_zero, Act.put, List.setIfInBounds_toArray, List.set_cons_zero, List.set_cons_succ]
  refine wpAnyH_take (i := 12) (v := ?_) rfl (by kernel_rfl) (by kernel_rfl) (by kernel_rfl) (fun _ _ _ h => h) (Or.inl ⟨by rfl, ?_⟩) HB12.out ?_
  rotate_left
  · (intro v hv; have hSv := HSS.out v hv; go_simp <;> with_reducible rfl)
  simp only [List.getElem_toArray, List.getElem_cons_succ, List.getElem_cons_zero, Act.put, List.setIfInBounds_toArray, List.set_cons_zero, List.set_cons_succ]
  refine wpAnyH_take (i := 13) (v := ?_) rfl (by kernel_rfl) (by kernel_rfl) (by kernel_rfl) (fun _ _ _ h => h) (Or.inl ⟨by rfl, ?_⟩) HB12.out ?_
  rotate_left
  · (intro v hv; have hSv := HSS.out v hv; go_simp <;> with_reducible rfl)
  simp only [List.getElem_toArray, List.getElem_cons_succ, List.getElem_cons_zero, Act.put, List.setIfInBounds_toArray, List.set_cons_zero, List.set_cons_succ]
  refine wpAnyH_take (i := 14) (v := ?_) rfl (by kernel_rfl) (by kernel_rfl) (by kernel_rfl) (fun _ _ _ h => h) (Or.inl ⟨by rfl, ?_⟩) HB12.out ?_
  rotate_left
  · (intro v hv; have hSv := HSS.out v hv; go_simp <;> with_reducible rfl)
  simp only [List.getElem_toArray, List.getElem_cons_succ, List.getElem_cons_zero, Act.put, List.setIfInBounds_toArray, List.set_cons_zero, List.set_cons_succ]
  refine wpAnyH_take (i := 15) (v := ?_) rfl (by kernel_rfl) (by kernel_rfl) (by kernel_rfl) (fun _ _ _ h => h) (Or.inl ⟨by rfl, ?_⟩) HB12.out ?_
  rotate_left
  · (intro v hv; have hSv := HSS.out v hv; go_simp <;> with_reducible rfl)
  simp only [List.getElem_toArray, List.getElem_cons_succ, List.getElem_cons_zero, Act.put, List.setIfInBounds_toArray, List.set_cons_zero, List.set_cons_succ]
  refine wpAnyH_take (i := 16) (v := ?_) rfl (by kernel_rfl) (by kernel_rfl) (by kernel_rfl) (fun _ _ _ h => h) (Or.inl ⟨by rfl, ?_⟩) HB12.out ?_
  rotate_left
  · (intro v hv; have hSv := HSS.out v hv; go_simp <;> with_reducible rfl)
  simp only [List.getElem_toArray, List.getElem_cons_succ, List.getElem_cons_zero, Act.put, List.setIfInBounds_toArray, List.set_cons_zero, List.set_cons_succ]
  refine wpAnyH_take (i := 17) (v := ?_) rfl (by kernel_rfl) (by kernel_rfl) (by kernel_rfl) (fun _ _ _ h => h) (Or.inl ⟨by rfl, ?_⟩) HB12.out ?_
  rotate_left
  · (intro v hv; have hSv := HSS.out v hv; go_simp <;> with_reducible rfl)
  simp only [List.getElem_toArray, List.getElem_cons_succ, List.getElem_cons_zero, Act.put, List.setIfInBounds_toArray, List.set_cons_zero, List.set_cons_succ]
  refine wpAnyH_take (i := 18) (v := ?_) rfl (by kernel_rfl) (by kernel_rfl) (by kernel_rfl) (fun _ _ _ h => h) (Or.inl ⟨by rfl, ?_⟩) HB12.out ?_
  rotate_left
  · (intro v hv; have hSv := HSS.out v hv; go_simp <;> with_reducible rfl)
  simp only [List.getElem_toArray, List.getElem_cons_succ, List.getElem_cons_zero, Act.put, List.setIfInBounds_toArray, List.set_cons_zero, List.set_cons_succ]
  refine wpAnyH_take (i := 19) (v := ?_) rfl (by kernel_rfl) (by kernel_rfl) (by kernel_rfl) (fun _ _ _ h => h) (Or.inl ⟨by rfl, ?_⟩) HB12.out ?_
  rotate_left
  · (intro v hv; have hSv := HSS.out v hv; go_simp <;> with_reducible rfl)
  simp only [List.getElem_toArray, List.getElem_cons_succ, List.getElem_cons_zero, Act.put, List.setIfInBounds_toArray, List.set_cons_zero, List.set_cons_succ]
  refine wpAnyH_take (i := 20) (v := ?_) rfl (by kernel_rfl) (by kernel_rfl) (by kernel_rfl) (fun _ _ _ h => h) (Or.inl ⟨by rfl, ?_⟩) HB12.out ?_
  rotate_left
  · (intro v hv; have hSv := HSS.out v hv; go_simp <;> with_reducible rfl)
  simp only [List.getElem_toArray, List.getElem_cons_succ, List.getElem_cons_zero, Act.put, List.setIfInBounds_toArray, List.set_cons_zero, List.set_cons_succ]
  refine wpAnyH_take (i := 21) (v := ?_) rfl (by kernel_rfl) (by kernel_rfl) (by kernel_rfl) (fun _ _ _ h => h) (Or.inl ⟨by rfl, ?_⟩) HB12.out ?_
  rotate_left
  · (intro v hv; have hSv := HSS.out v hv; go_simp <;> with_reducible rfl)
  simp only [List.getElem_toArray, List.getElem_cons_succ, List.getElem_cons_zero, Act.put, List.setIfInBounds_toArray, List.set_cons_zero, List.set_cons_succ]
  refine wpAnyH_take (i := 22) (v := ?_) rfl (by kernel_rfl) (by kernel_rfl) (by kernel_rfl) (fun _ _ _ h => h) (Or.inl ⟨by rfl, ?_⟩) HB12.out ?_
  rotate_left
  · (intro v hv; have hSv := HSS.out v hv; go_simp <;> with_reducible rfl)
  simp only [List.getElem_toArray, List.getElem_cons_succ, List.getElem_cons_zero, Act.put, List.setIfInBounds_toArray, List.set_cons_zero, List.set_cons_succ]
  refine wpAnyH_take (i := 23) (v := ?_) rfl (by kernel_rfl) (by kernel_rfl) (by kernel_rfl) (fun _ _ _ h => h) (Or.inl ⟨by rfl, ?_⟩) HB12.out ?_
  rotate_left
  · (intro v hv; have hSv := HSS.out v hv; go_simp <;> with_reducible rfl)
  simp only [List.getElem_toArray, List.getElem_cons_succ, List.getElem_cons_zero, Act.put, List.setIfInBounds_toArray, List.set_cons_zero, List.set_cons_succ]
  refine wpAnyH_take (i := 24) (v := ?_) rfl (by kernel_rfl) (by kernel_rfl) (by kernel_rfl) (fun _ _ _ h => h) (Or.inl ⟨by rfl, ?_⟩) HB12.out ?_
  rotate_left
  · (intro v hv; have hSv := HSS.out v hv; go_simp <;> with_reducible rfl)
  simp only [List.getElem_toArray, List.getElem_cons_succ, List.getElem_cons_zero, Act.put, List.setIfInBounds_toArray, List.set_cons_zero, List.set_cons_succ]
  refine wpAnyH_take (i := 25) (v := ?_) rfl (by kernel_rfl) (by kernel_rfl) (by kernel_rfl) (fun _ _ _ h => h) (Or.inl ⟨by rfl, ?_⟩) HB12.out ?_
  rotate_left
  · (intro v hv; have hSv := HSS.out v hv; go_simp <;> with_reducible rfl)
  simp only [List.getElem_toArray, List.getElem_cons_succ, List.getElem_cons_zero, Act.put, List.setIfInBounds_toArray, List.set_cons_zero, List.set_cons_succ]
  refine wpAnyH_take (i := 26) (v := ?_) rfl (by kernel_rfl) (by kernel_rfl) (by kernel_rfl) (fun _ _ _ h => h) (Or.inl ⟨by rfl, ?_⟩) HB12.out ?_
  rotate_left
  · (intro v hv; have hSv := HSS.out v hv; go_simp <;> with_reducible rfl)
  simp only [List.getElem_toArray, List.getElem_cons_succ, List.getElem_cons_zero, Act.put, List.setIfInBounds_toArray, List.set_cons_zero, List.set_cons_succ]
  refine wpAnyH_take (i := 27) (v := ?_) rfl (by kernel_rfl) (by kernel_rfl) (by kernel_rfl) (fun _ _ _ h => h) (Or.inl ⟨by rfl, ?_⟩) HB12.out ?_
  rotate_left
  · (intro v hv; have hSv := HSS.out v hv; go_simp <;> with_reducible rfl)
  simp only [List.getElem_toArray, List.getElem_cons_succ, List.getElem_cons_zero, Act.put, List.setIfInBounds_toArray, List.set_cons_zero, List.set_cons_succ]
  refine wpAnyH_take (i := 28) (v := ?_) rfl (by kernel_rfl) (by kernel_rfl) (by kernel_rfl) (fun _ _ _ h => h) (Or.inl ⟨by rfl, ?_⟩) HB12.out ?_
  rotate_left
  · (intro v hv; have hSv := HSS.out v hv; go_simp <;> with_reducible rfl)
  simp only [List.getElem_toArray, List.getElem_cons_succ, List.getElem_cons_zero, Act.put, List.setIfInBounds_toArray, List.set_cons_zero, List.set_cons_succ]
  refine wpAnyH_take (i := 29) (v := ?_) rfl (by kernel_rfl) (by kernel_rfl) (by kernel_rfl) (fun _ _ _ h => h) (Or.inl ⟨by rfl, ?_⟩) HB12.out ?_
  rotate_left
  · (intro v hv; have hSv := HSS.out v hv; go_simp <;> with_reducible rfl)
  simp only [List.getElem_toArray, List.getElem_cons_succ, List.getElem_cons_zero, Act.put, List.setIfInBounds_toArray, List.set_cons_zero, List.set_cons_succ]
  refine wpAnyH_take (i := 30) (v := ?_) rfl (by kernel_rfl) (by kernel_rfl) (by kernel_rfl) (fun _ _ _ h => h) (Or.inl ⟨by rfl, ?_⟩) HB12.out ?_
  rotate_left
  · (intro v hv; have hSv := HSS.out v hv; go_simp <;> with_reducible rfl)
  simp only [List.getElem_toArray, List.getElem_cons_succ, List.getElem_cons_zero, Act.put, List.setIfInBounds_toArray, List.set_cons_zero, List.set_cons_succ]
  refine wpAnyH_take (i := 31) (v := ?_) rfl (by kernel_rfl) (by kernel_rfl) (by kernel_rfl) (fun _ _ _ h => h) (Or.inl ⟨by rfl, ?_⟩) HB12.out ?_
  rotate_left
  · (intro v hv; have hSv := HSS.out v hv; go_simp <;> with_reducible rfl)
  simp only [List.getElem_toArray, List.getElem_cons_succ, List.getElem_cons_zero, Act.put, List.setIfInBounds_toArray, List.set_cons_zero, List.set_cons_succ]
  refine wpAnyH_take (i := 32) (v := ?_) rfl (by kernel_rfl) (by kernel_rfl) (by kernel_rfl) (fun _ _ _ h => h) (Or.inl ⟨by rfl, ?_⟩) HB12.out ?_
  rotate_left
  · (intro v hv; have hSv := HSS.out v hv; go_simp <;> with_reducible rfl)
  simp only [List.getElem_toArray, List.getElem_cons_succ, List.getElem_cons_zero, Act.put, List.setIfInBounds_toArray, List.set_cons_zero, List.set_cons_succ]
  refine wpAnyH_take (i := 33) (v := ?_) rfl (by kernel_rfl) (by kernel_rfl) (by kernel_rfl) (fun _ _ _ h => h) (Or.inl ⟨by rfl, ?_⟩) HB12.out ?_
  rotate_left
  · (intro v hv; have hSv := HSS.out v hv; go_simp <;> with_reducible rfl)
  simp only [List.getElem_toArray, List.getElem_cons_succ, List.getElem_cons_zero, Act.put, List.setIfInBounds_toArray, List.set_cons_zero, List.set_cons_succ]
  refine wpAnyH_take (i := 34) (v := .agg D1.toArray) rfl (by kernel_rfl) (by kernel_rfl) (by kernel_rfl) (fun _ _ _ h => h) (yieldsIf_load_mid (by rfl) 25 (.tmp 4) (by rfl) w9.heap.size 0 (by rfl) D1 (.array 32 5) (fun v hv => (HSS.out v hv).2.2.2.2.2.2.2.1) hu25 rfl hi1) HB12.out ?_
  simp only [List.getElem_toArray, List.getElem_cons_succ, List.getElem_cons_zero, Act.put, List.setIfInBounds_toArray, List.set_cons_zero, List.set_cons_succ]
  refine wpAnyH_ready (rs := [35]) (by kernel_rfl) (by simp) ?_
  refine AllReadyH.cons rfl (fun K hK => ?_) AllReadyH.nil
  go_simp
  refine hK _ _ (((Below.refl w12.heap.size w12).alloc (Nat.le_refl _) _).drew) (fun _ => ?_)
  clear hK K
  refine wpAnyH_ready (rs := [36]) (by kernel_rfl) (by simp) ?_
  refine AllReadyH.cons rfl (fun K hK => ?_) AllReadyH.nil
  go_simp
  refine hK _ _ (((Below.refl w12.heap.size w12).alloc (Nat.le_refl _) _).drew) (fun _ => ?_)
  clear hK K
  refine wpAnyH_ready (rs := [37]) (by kernel_rfl) (by simp) ?_
  refine AllReadyH.cons rfl (fun K hK => ?_) AllReadyH.nil
  go_simp
  refine (HSUM.out _ _ ?_ ?_).mono ?_
  · exact HKT.out.below (((Below.refl w12.heap.size w12).alloc (Nat.le_refl _) _).drew) HKT.out.lt
  · exact (BytesAt.const w12 [97] _ _ rfl rfl).kept ((Kept.refl _ (fun _ => False)).drewN 1) (fun _ _ _ _ h => h)
  rintro e w13 ⟨rfl, hb13⟩
  have HB13 := Lib.hid ((((Below.refl w12.heap.size w12).alloc (Nat.le_refl _) _).drew).trans (hb13.mono (by simp)))
  clear hb13
  simp only []
  refine hK _ _ HB13.out (fun _ => ?_)
  clear hK K
  refine wpAnyH_take (i := 38) (v := ?_) rfl (by kernel_rfl) (by kernel_rfl) (by kernel_rfl) (fun _ _ _ h => h) (Or.inl ⟨by rfl, ?_⟩) HB13.out ?_
  rotate_left
  · (intro v hv; have hSv := HSS.out v hv; go_simp <;> with_reducible rfl)
  simp only [List.getElem_toArray, List.getElem_cons_succ, List.getElem_cons_zero, Act.put, List.setIfInBounds_toArray, List.set_cons_zero, List.set_cons_succ]
  refine wpAnyH_take (i := 39) (v := ?_) rfl (by kernel_rfl) (by kernel_rfl) (by kernel_rfl) (fun _ _ _ h => h) (Or.inl ⟨by rfl, ?_⟩) HB13.out ?_
  rotate_left
  · (intro v hv; have hSv := HSS.out v hv; go_simp <;> with_reducible rfl)
  simp only [List.getElem_toArray, List.getElem_cons_succ, List.getElem_cons_zero, Act.put, List.setIfInBounds_toArray, List.set_cons_zero, List.set_cons_succ]
  refine wpAnyH_take (i := 40) (v := ?_) rfl (by kernel_rfl) (by kernel_rfl) (by kernel_rfl) (fun _ _ _ h => h) (Or.inl ⟨by rfl, ?_⟩) HB13.out ?_
  rotate_left
  · (intro v hv; have hSv := HSS.out v hv; go_simp <;> with_reducible rfl)
  simp only [List.getElem_toArray, List.getElem_cons_succ, List.getElem_cons_zero, Act.put, List.setIfInBounds_toArray, List.set_cons_zero, List.set_cons_succ]
  refine wpAnyH_take (i := 41) (v := ?_) rfl (by kernel_rfl) (by kernel_rfl) (by kernel_rfl) (fun _ _ _ h => h) (Or.inl ⟨by rfl, ?_⟩) HB13.out ?_
  rotate_left
  · (intro v hv; have hSv := HSS.out v hv; go_simp <;> with_reducible rfl)
  simp only [List.getElem_toArray, List.getElem_cons_succ, List.getElem_cons_zero, Act.put, List.setIfInBounds_toArray, List.set_cons_zero, List.set_cons_succ]
  refine wpAnyH_take (i := 43) (v := .agg D3.toArray) rfl (by kernel_rfl) (by kernel_rfl) (by kernel_rfl) (fun _ _ _ h => h) (yieldsIf_load_mid (by rfl) 25 (.tmp 2) (by rfl) w4.heap.size 0 (by rfl) D3 (.array 32 5) (fun v hv => (HSS.out v hv).2.2.2.2.2.2.2.2.1) hu25 rfl hi3) HB13.out ?_
  simp only [List.getElem_toArray, List.getElem_cons_succ, List.getElem_cons_zero, Act.put, List.setIfInBounds_toArray, List.set_cons_zero, List.set_cons_succ]
  refine wpAnyH_ready (rs := [42]) (by kernel_rfl) (by simp) ?_
  refine AllReadyH.cons rfl (fun K hK => ?_) AllReadyH.nil
  go_simp
  refine (HHS.out _ (HKT.out.below HB13.out HKT.out.lt) (G12.out.below HB13.out l12)).mono ?_
  rintro e w14 ⟨rfl, hb14⟩
  have HB14 := Lib.hid (HB13.out.trans (hb14.mono HB13.out.size))
  clear hb14
  simp only []
  refine hK _ _ HB14.out (fun _ => ?_)
  clear hK K
  refine wpAnyH_take (i := 44) (v := ?_) rfl (by kernel_rfl) (by kernel_rfl) (by kernel_rfl) (fun _ _ _ h => h) (Or.inl ⟨by rfl, ?_⟩) HB14.out ?_
  rotate_left
  · (intro v hv; have hSv := HSS.out v hv; go_simp <;> with_reducible rfl)
  simp only [List.getElem_toArray, List.getElem_cons_succ, List.getElem_cons_zero, Act.put, List.setIfInBounds_toArray, List.set_cons_zero, List.set_cons_succ]
  refine wpAnyH_take (i := 45) (v := ?_) rfl (by kernel_rfl) (by kernel_rfl) (by kernel_rfl) (fun _ _ _ h => h) (Or.inl ⟨by rfl, ?_⟩) HB14.out ?_
  rotate_left
  · (intro v hv; have hSv := HSS.out v hv; go_simp <;> with_reducible rfl)
  simp only [List.getElem_toArray, List.getElem_cons_succ, List.getElem_cons_zero, Act.put, List.setIfInBounds_toArray, List.set_cons_zero, List.set_cons_succ]
  refine wpAnyH_take (i := 46) (v := ?_) rfl (by kernel_rfl) (by kernel_rfl) (by kernel_rfl) (fun _ _ _ h => h) (Or.inl ⟨by rfl, ?_⟩) HB14.out ?_
  rotate_left
  · (intro v hv; have hSv := HSS.out v hv; go_simp <;> with_reducible rfl)
  simp only [List.getElem_toArray, List.getElem_cons_succ, List.getElem_cons_zero, Act.put, List.setIfInBounds_toArray, List.set_cons_zero, List.set_cons_succ]
  refine wpAnyH_take (i := 47) (v := ?_) rfl (by kernel_rfl) (by kernel_rfl) (by kernel_rfl) (fun _ _ _ h => h) (Or.inl ⟨by rfl, ?_⟩) HB14.out ?_
  rotate_left
  · (intro v hv; have hSv := HSS.out v hv; go_simp <;> with_reducible rfl)
  simp only [List.getElem_toArray, List.getElem_cons_succ, List.getElem_cons_zero, Act.put, List.setIfInBounds_toArray, List.set_cons_zero, List.set_cons_succ]
  refine wpAnyH_ready (rs := [48]) (by kernel_rfl) (by simp) ?_
  refine AllReadyH.cons rfl (fun K hK => ?_) AllReadyH.nil
  go_simp
  refine (len_any _ w5.heap.size [97, 98, 99] blk12 (G12.out.below HB14.out l12)).mono ?_
  rintro e w15 ⟨rfl, rfl⟩
  simp only []
  refine hK _ _ HB14.out (fun _ => ?_)
  clear hK K
  refine wpAnyH_take (i := 49) (v := ?_) rfl (by kernel_rfl) (by kernel_rfl) (by kernel_rfl) (fun _ _ _ h => h) (Or.inl ⟨by rfl, ?_⟩) HB14.out ?_
  rotate_left
  · (intro v hv; have hSv := HSS.out v hv; go_simp <;> with_reducible rfl)
  simp only [List.getElem_toArray, List.getElem_cons_succ, List.getElem_cons_zero, Act.put, List.setIfInBounds_toArray, List.set_cons_zero, List.set_cons_succ]
  refine wpAnyH_take (i := 50) (v := ?_) rfl (by kernel_rfl) (by kernel_rfl) (by kernel_rfl) (fun _ _ _ h => h) (Or.inl ⟨by rfl, ?_⟩) HB14.out ?_
  rotate_left
  · (intro v hv; have hSv := HSS.out v hv; go_simp <;> with_reducible rfl)
  simp only [List.getElem_toArray, List.getElem_cons_succ, List.getElem_cons_zero, Act.put, List.setIfInBounds_toArray, List.set_cons_zero, List.set_cons_succ]
  refine wpAnyH_take (i := 51) (v := ?_) rfl (by kernel_rfl) (by kernel_rfl) (by kernel_rfl) (fun _ _ _ h => h) (Or.inl ⟨by rfl, ?_⟩) HB14.out ?_
  rotate_left
  · (intro v hv; have hSv := HSS.out v hv; go_simp <;> with_reducible rfl)
  simp only [List.getElem_toArray, List.getElem_cons_succ, List.getElem_cons_zero, Act.put, List.setIfInBounds_toArray, List.set_cons_zero]
  refine wpAnyH_done (by kernel_rfl) ?_ _
  go_wp2_with fail
  go_ret
  exact ⟨rfl, (KW12.out.below (Nat.le_refl _) (fun _ _ h => h)).trans (HB14.out.mono KW12.out.size)⟩
end Go.Proofs.YtknfpfhbplmffaaDoor
