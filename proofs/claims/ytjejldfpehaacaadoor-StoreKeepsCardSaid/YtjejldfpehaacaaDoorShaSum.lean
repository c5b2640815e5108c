/-
  Sum: the digest of all that came to a hash; and of bytes at once.
-/
import Derived.Test.YtjejldfpehaacaaDoorShaWrite
import Derived.Deep.WholeRow
namespace Go.Proofs.YtjejldfpehaacaaDoor
open Go.RowKit Sh

def zeroHash : List Value := List.replicate 8 (v32 0) ++ (List.replicate 64 (v8 0) ++ [.int .i64 0])
theorem infoHash : (Tryd.prog.info? 95).map (fun i => (i.zero, i.size)) = some (some (.agg zeroHash.toArray), 73) := by kernel_rfl
theorem zeroHash_run : ∀ W, (zeroValue 95).run Tryd.prog W = .ok (.agg zeroHash.toArray) W := (zero_of_info infoHash).1
theorem sizeHash : (Tryd.prog.info? 95).map (·.size) = some 73 := (zero_of_info infoHash).2
theorem padding_length (n : Nat) : (padding n).length = zerosOf n + 9 := by
  simp [padding, zerosOf]

set_option maxRecDepth 100000 in
set_option maxHeartbeats 400000 in
theorem hsum_any (w : World) (g : Nat) (m blk : List UInt8) (hK : KT w) (hg : 0 ≠ g) (H : HashAt w g m blk) (hlen : m.length ≤ 549755813888) :
    Calls Tryd.prog 44 #[.pointer (some ⟨g, 0, none⟩)] w fun e w' => e = .returned (.agg ((digest m).map v8).toArray) ∧ Below w.heap.size w w' := by
  have hz := zeroHash_run
  have HK := Lib.hid hK
  have HG := Lib.hid hg
  have HH := Lib.hid H
  have hlt := H.row.lt
  have hrow := H.row
  have hr1 : (HashRow m blk).length = 73 := HashRow_length m blk H.len
  have ho : (HashRow m blk).toArray.all (·.oneCell') = true := all_oneCell_toArray (fun v hv => by
    rw [HashRow_eq, RowOf, List.mem_append, List.mem_append] at hv
    rcases hv with hv | hv | hv
    · rcases (by simpa [Sh.St.vals] using hv : v = v32 _ ∨ v = v32 _ ∨ v = v32 _ ∨ v = v32 _ ∨ v = v32 _ ∨ v = v32 _ ∨ v = v32 _ ∨ v = v32 _) with rfl | rfl | rfl | rfl | rfl | rfl | rfl | rfl <;> rfl
    · obtain ⟨y, _, rfl⟩ := List.mem_map.1 hv
      rfl
    · rw [List.mem_singleton] at hv
      subst hv
      rfl)
  clear hK hg H
  unfold Row at hrow
  generalize hR : HashRow m blk = R at *
  have HR := Lib.hid hR
  have HR1 := Lib.hid hr1
  have HO := Lib.hid ho
  have HROW := Lib.hid hrow
  have hZl : zeroHash.length = 73 := rfl
  generalize hZ : zeroHash = Z at *
  have HZ := Lib.hid hZl
  clear hR hr1 ho hrow hZ hZl
  go_enter Tryd.func44, Tryd.ntmps44
  go_upto_region 2 with (first
    | ((with_reducible refine wpList_load_row ?_ 95 (.tmp 5) ?_ g ?_ 95 R.toArray (0, 0) _ ?_ Tryd.underlying95 ?_ ?_ ?_); rfl; rfl; go_must (rfl; exact (Below.heap_alloc _ _ _ hlt).trans HROW.out; rfl; (rw [sizeHash, List.size_toArray, HR1.out])))
    | ((with_reducible refine wpList_store_row ?_ 95 (.tmp 3) (.tmp 6) ?_ (w.heap.size + 1) R.toArray ?_ ?_ 95 Z.toArray ?_ ?_ ?_ HO.out ?_); rfl; rfl; go_must (rfl; rfl; exact Row.at_ _ _ Z rfl (by simp); (rw [sizeHash, List.size_toArray, HR1.out]); (rw [List.size_toArray, List.size_toArray, HZ.out, HR1.out]))))
  have hsz : ((w.alloc (.cells (List.replicate 32 (v8 0)).toArray 31)).alloc (.cells Z.toArray 95)).heap.size = w.heap.size + 2 := by simp
  have hk3 : Kept w (((w.alloc (.cells (List.replicate 32 (v8 0)).toArray 31)).alloc (.cells Z.toArray 95)).setRow (w.heap.size + 1) R.toArray) (fun _ => False) :=
    (((Kept.refl w _).alloc _).alloc _).setRow (.inl (by omega)) _
  have hc3 : Row (((w.alloc (.cells (List.replicate 32 (v8 0)).toArray 31)).alloc (.cells Z.toArray 95)).setRow (w.heap.size + 1) R.toArray) (w.heap.size + 1) 95 R :=
    (Row.at_ (b := w.heap.size + 1) _ _ Z rfl (by simp)).setRow R
  have hr3 : Row (((w.alloc (.cells (List.replicate 32 (v8 0)).toArray 31)).alloc (.cells Z.toArray 95)).setRow (w.heap.size + 1) R.toArray) w.heap.size 31 (List.replicate 32 (v8 0)) :=
    ((Row.at_ (b := w.heap.size) _ _ (List.replicate 32 (v8 0)) rfl rfl).alloc _).setRow_other (by omega) _
  have hz3 : (((w.alloc (.cells (List.replicate 32 (v8 0)).toArray 31)).alloc (.cells Z.toArray 95)).setRow (w.heap.size + 1) R.toArray).heap.size = w.heap.size + 2 := by rw [setRow_size]; exact hsz
  generalize hW3 : World.setRow _ _ _ = W3 at hk3 hc3 hr3 hz3
  generalize hW3' : World.setRow _ _ _ = W3'
  obtain rfl : W3 = W3' := hW3.symm.trans hW3'
  have HK3 := Lib.hid hk3
  have hh3 := HH.out.kept hk3 (fun h => h)
  have hcp3 : HashAt W3 (w.heap.size + 1) m blk := ⟨by rw [HR.out]; exact hc3, HH.out.len, HH.out.tail⟩
  have c72 := hh3.length_cell
  have HC3 := Lib.hid hcp3
  have HR3 := Lib.hid hr3
  have HZ3 := Lib.hid hz3
  have HKT := Lib.hid (HK.out.kept hk3 (fun h => h))
  clear hsz hk3 hc3 hr3 hz3 hW3 hW3' hcp3 hh3 hz
  have hpl := padding_length m.length
  go_wp2_with (first
    | (go_at_call 65; go_must (refine (padding_any m.length (by omega) _).mono ?_; rintro e w4 ⟨rfl, HP4, hb4⟩; have HB4 := Lib.hid hb4; clear hb4)))
  have hW3s : W3.heap.size = w.heap.size + 2 := HZ3.out
  have hsrc : SrcIs w4 (w.heap.size + 1) (some ⟨W3.heap.size, 0, none⟩) (zerosOf m.length + 9) (zerosOf m.length + 9) (padding m.length) :=
    ⟨hpl, Nat.le_refl _, fun _ => ⟨_, _, rfl, by omega, HP4.out.lt, HP4.out.range 0 _ (fun j v hj => by rw [Nat.zero_add]; exact hj)⟩⟩
  have hzz : zerosOf m.length < 64 := Nat.mod_lt _ (by decide)
  have hk0 := HK.out.lt
  refine (write_any w4 (w.heap.size + 1) m blk _ _ _ (padding m.length) (HKT.out.below HB4.out (by omega)) (by omega) (HC3.out.below HB4.out (by omega)) hsrc (by omega)).mono ?_
  rintro e w5 ⟨rfl, H5, K5⟩
  obtain ⟨blk5, h5⟩ := H5.out
  have hr5 : Row w5 w.heap.size 31 (List.replicate 32 (v8 0)) := K5.out.row (HR3.out.below HB4.out (by omega)) (by omega)
  have hk5 : Kept w w5 (fun _ => False) := ⟨(K5.out.os.trans HB4.out.os).trans HK3.out.os, (K5.out.tape.trans HB4.out.tape).trans HK3.out.tape, (K5.out.output.trans HB4.out.output).trans HK3.out.output,
    Nat.le_trans HK3.out.size (Nat.le_trans HB4.out.size K5.out.size), fun k hk hn => ((K5.out.block k (by have := HB4.out.size; omega) (by omega)).trans (HB4.out.block k (by omega))).trans (HK3.out.block k hk hn)⟩
  have hs5 := h5.state_range
  have hd : digest m = (blocks iv (m ++ padding m.length)).bytes := rfl
  generalize blocks iv (m ++ padding m.length) = st at *
  have HD := Lib.hid hd
  have HS5 := Lib.hid hs5
  have HR5 := Lib.hid hr5
  have HK5 := Lib.hid hk5
  clear hsrc hr5 hk5 h5 H5 hs5 hd hpl hzz hlt hW3s
  go_wp2_with (first
    | ((with_reducible refine wpList_load_mid ?_ 91 (.tmp 13) ?_ (w.heap.size + 1) 0 ?_ st.vals.toList (.array 8 56) ?_ ?_ ?_ ?_ ?_); rfl; rfl; go_must (rfl; exact HS5.out; exact Tryd.underlying91; rfl; kernel_rfl))
    | (go_at_call 66; go_must (refine (lay_any st _).mono ?_; rintro e w6 ⟨rfl, hb6⟩; have HB6 := Lib.hid hb6; clear hb6))
    | ((with_reducible refine wpList_store_row ?_ 31 (.tmp 2) (.tmp 15) ?_ w.heap.size (st.bytes.map v8).toArray ?_ ?_ 31 (List.replicate 32 (v8 0)).toArray ?_ ?_ ?_ ?_ ?_); rfl; rfl; go_must (rfl; rfl; exact HR5.out.below HB6.out HR5.out.lt; kernel_rfl; rfl; exact oneCell_map v8 (fun _ => rfl) _)))
  refine bodyPost_ret (v := .agg (st.bytes.map v8).toArray) (results_cell_row rfl _ _ w.heap.size _ (st.bytes.map v8).toArray _ _ rfl (setRow_heap _ w.heap.size _ _ _ _ (HR5.out.below HB6.out HR5.out.lt)) Tryd.underlying31 rfl (by kernel_rfl)) rfl ⟨by rw [HD.out], ?_⟩
  have hs := HK5.out.size
  exact below_setRow ((HK5.out.below (Nat.le_refl _) (fun _ _ h => h)).trans (HB6.out.mono hs)) (Nat.le_refl _) _
end Go.Proofs.YtjejldfpehaacaaDoor
