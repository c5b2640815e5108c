/-
  What 'mix' answers: the state behind one more block. The table of the words Kt is read: 'KT' says what it holds.
-/
import Derived.Test.YtjejldfpehaacaaDoorShaSpread
namespace Go.Proofs.YtjejldfpehaacaaDoor
open Go.RowKit Sh

/-- The table of the words Kt lies where the program's variable lies. -/
def KT (w : World) : Prop := ∀ t, t < 64 → w.cell? ⟨0, t, none⟩ = some (v32 (kt.getD t 0))
theorem KT.lt {w : World} (h : KT w) : 0 < w.heap.size := World.block_lt_of_cell? w _ (h 0 (by decide))
theorem KT.below {B : Nat} {w w' : World} (h : KT w) (hb : Below B w w') (hB : 0 < B) : KT w' := fun t ht => (hb.cell (by exact hB)).trans (h t ht)
theorem KT.drewN {w : World} (h : KT w) (n : Nat) : KT (w.drewN n) := h

def Sh.St.vals (s : St) : Array Value := #[v32 s.a, v32 s.b, v32 s.c, v32 s.d, v32 s.e, v32 s.f, v32 s.g, v32 s.h]

structure MixAt (s : St) (R : List Value) (B b : Nat) (w wr : World) : Prop where
  arg : Row wr B 91 s.vals.toList
  res : Row wr (B + 2) 91 (List.replicate 8 (v32 0))
  row : Row wr b 57 R
  old : Below B w wr

theorem MixAt.drewN {s : St} {R : List Value} {B b : Nat} {w wr : World} (h : MixAt s R B b w wr) (n : Nat) : MixAt s R B b w (wr.drewN n) := ⟨h.arg, h.res, h.row, below_drewN h.old n⟩

set_option maxRecDepth 100000 in
set_option maxHeartbeats 400000 in
theorem mix_any (s : St) (L : List UInt8) (hL : L.length = 64) (w : World) (hK : KT w) :
    Calls Tryd.prog 64 #[.agg s.vals, .agg (L.map v8).toArray] w fun e w' => e = .returned (.agg (mix s L).vals) ∧ Below w.heap.size w w' := by
  unfold St.vals
  have HK := Lib.hid hK
  clear hK
  go_enter Tryd.func64, Tryd.ntmps64
  have hLm : (L.map v8).length = 64 := by rw [List.length_map]; exact hL
  have HL := Lib.hid hLm
  have HL0 := Lib.hid hL
  clear hLm hL
  have hRl : ((ws L 64).map v32).length = 64 := by simp [ws_length]
  have hR1 := oneCell_map v32 (fun _ => rfl) (ws L 64)
  have hsp := fun W => spread_any L HL0.out W
  generalize hLL : L.map v8 = LL at *
  generalize hR : (ws L 64).map v32 = R at *
  have HLL := Lib.hid hLL
  have HR := Lib.hid hR
  have HRl := Lib.hid hRl
  have HR1 := Lib.hid hR1
  have HSP := Lib.hid hsp
  clear hLL hR hRl hR1 hsp
  go_wp2_with (first
    | (refine wpList_load_row rfl 93 (.tmp 3) rfl (w.heap.size + 1) rfl 93 LL.toArray (0, 0) _ ?_ Tryd.underlying93 rfl ?_ ?_; exact Row.alloc (Row.at_ _ _ LL rfl (by simp)) _; (rw [List.size_toArray, HL.out]; kernel_rfl)))
  refine (HSP.out _).mono ?_
  rintro e w1 ⟨rfl, hb1⟩
  have HB1 := Lib.hid hb1
  clear hb1
  go_wp2_with ((with_reducible refine wpList_store_row ?_ 57 (.tmp 5) (.tmp 18) ?_ w1.heap.size R.toArray ?_ ?_ 57 (List.replicate 64 (v32 0)).toArray ?_ ?_ ?_ HR1.out ?_); rfl; rfl; rfl; rfl; exact heap_alloc_new _ _; (simp only [List.size_toArray, HRl.out]; kernel_rfl); (simp only [List.size_toArray, List.length_replicate, HRl.out]))
  have hm : MixAt s R w.heap.size w1.heap.size w ((w1.alloc (.cells (List.replicate 64 (v32 0)).toArray 57)).setRow w1.heap.size R.toArray) := by
    have hb1 := HB1.out
    have hz := hb1.size
    simp only [World.size_alloc] at hz
    have hb2 : Below w.heap.size w w1 := ((((Below.refl _ _).alloc (Nat.le_refl _) _).alloc (by simp) _).alloc (by simp; omega) _).trans (hb1.mono (by simp; omega))
    refine ⟨?_, ?_, ?_, ?_⟩
    · have r1 : Row w1 w.heap.size 91 s.vals.toList := Row.below (Row.alloc (Row.alloc (Row.at_ (b := w.heap.size) _ _ _ rfl rfl) _) _) hb1 (by simp; omega)
      exact (r1.alloc _).setRow_other (by omega) _
    · have r2 : Row w1 (w.heap.size + 2) 91 (List.replicate 8 (v32 0)) := Row.below (Row.at_ (b := w.heap.size + 2) _ _ _ rfl (by simp)) hb1 (by simp)
      exact (r2.alloc _).setRow_other (by omega) _
    · exact Row.setRow (Row.at_ _ _ (List.replicate 64 (v32 0)) rfl rfl) R
    · exact below_setRow (hb2.alloc (by omega) _) (by omega) _
  generalize hW2 : World.setRow _ _ _ = W2
  have hK2 : KT W2 := HK.out.below hm.old HK.out.lt |> fun h => by rw [← hW2]; exact h
  have hm2 : MixAt s R w.heap.size w1.heap.size w W2 := by rw [← hW2]; exact hm
  clear hW2 hm
  have c0 : W2.cell? ⟨w.heap.size, 0, none⟩ = some (.int .u32 (n32 s.a)) := hm2.arg.cell rfl
  have c1 : W2.cell? ⟨w.heap.size, 1, none⟩ = some (.int .u32 (n32 s.b)) := hm2.arg.cell rfl
  have c2 : W2.cell? ⟨w.heap.size, 2, none⟩ = some (.int .u32 (n32 s.c)) := hm2.arg.cell rfl
  have c3 : W2.cell? ⟨w.heap.size, 3, none⟩ = some (.int .u32 (n32 s.d)) := hm2.arg.cell rfl
  have c4 : W2.cell? ⟨w.heap.size, 4, none⟩ = some (.int .u32 (n32 s.e)) := hm2.arg.cell rfl
  have c5 : W2.cell? ⟨w.heap.size, 5, none⟩ = some (.int .u32 (n32 s.f)) := hm2.arg.cell rfl
  have c6 : W2.cell? ⟨w.heap.size, 6, none⟩ = some (.int .u32 (n32 s.g)) := hm2.arg.cell rfl
  have c7 : W2.cell? ⟨w.heap.size, 7, none⟩ = some (.int .u32 (n32 s.h)) := hm2.arg.cell rfl
  go_quiet (fail)
  go_wp2_with fail
  have HMM := Lib.hid hm2
  have HK2 := Lib.hid hK2
  clear c0 c1 c2 c3 c4 c5 c6 c7 hm2 hK2 HB1
  go_loopw [6, 7, 8, 9, 10, 11, 12, 13, 35] (fun a b c d e f g h i wr => ∃ (t : Nat) (S : St), t ≤ 64 ∧ i = .int .i64 t ∧ S = rounds kt (ws L 64) s t ∧ a = .int .u32 (n32 S.a) ∧ b = .int .u32 (n32 S.b) ∧ c = .int .u32 (n32 S.c) ∧ d = .int .u32 (n32 S.d) ∧ e = .int .u32 (n32 S.e) ∧ f = .int .u32 (n32 S.f) ∧ g = .int .u32 (n32 S.g) ∧ h = .int .u32 (n32 S.h) ∧ KT wr ∧ MixAt s R w.heap.size w1.heap.size w wr) (fun _ _ _ _ _ _ _ _ i _ => 64 - (intOf i).toNat)
  case atStart => exact ⟨0, s, by omega, rfl, rfl, rfl, rfl, rfl, rfl, rfl, rfl, rfl, rfl, HK2.out.drewN _, HMM.out.drewN _⟩
  case round =>
    obtain ⟨t, ⟨a, b, c, d, e, f, g, h⟩, ht, rfl, hS, rfl, rfl, rfl, rfl, rfl, rfl, rfl, rfl, hk, hm⟩ := hrel
    have HS := Lib.hid hS
    have HK := Lib.hid hk
    have HM := Lib.hid hm
    by_cases hlt : t < 64
    · have ck : wr.cell? ⟨0, t, none⟩ = some (.int .u32 (n32 (kt.getD t 0))) := hk t hlt
      have cw : wr.cell? ⟨w1.heap.size, t, none⟩ = some (.int .u32 (n32 ((ws L 64).getD t 0))) := hm.row.cell (by rw [← HR.out]; simp [List.getD, ws_length, hlt, v32])
      generalize hkk : kt.getD t 0 = kk at *
      generalize hww : (ws L 64).getD t 0 = ww at *
      have HKK := Lib.hid hkk
      have HWW := Lib.hid hww
      have hlt' : (t : Int) < 64 := by omega
      have h0' : (0 : Int) ≤ (t : Int) := by omega
      clear hkk hww hS hk hm
      go_wp2_with fail
      go_quiet ((first | (go_at_call 73; exact Calls.quiet_of (bg1_any _ _)) | (go_at_call 74; exact Calls.quiet_of_same ((ch_any _ _ _ _).mono fun _ _ ⟨he, hw⟩ => ⟨he, hw.symm⟩))))
      go_wp2_with (first
        | (go_at_call 75; refine (bg0_any _ _).mono ?_; rintro e w' ⟨rfl, n, rfl⟩)
        | (go_at_call 76; refine (maj_any _ _ _ _).mono ?_; rintro e w' ⟨rfl, rfl⟩))
      go_roundw
      case rel =>
        refine ⟨t + 1, round ⟨a, b, c, d, e, f, g, h⟩ kk ww, by omega, by go_num, ?_, ?_, rfl, rfl, rfl, ?_, rfl, rfl, rfl, HK.out.drewN _, HM.out.drewN _⟩
        · rw [HS.out, rounds, HKK.out, HWW.out]
        · rw [add5_fold, add_fold, add_fold]; rfl
        · rw [add5_fold, add_fold]; rfl
      case measure => simp [intOf] <;> omega
    · have ht64 : t = 64 := by omega
      have HT := Lib.hid ht64
      have hge : ¬ (t : Int) < 64 := by omega
      have hge' : (64 : Int) ≤ t := by omega
      have c0 : wr.cell? ⟨w.heap.size, 0, none⟩ = some (.int .u32 (n32 s.a)) := hm.arg.cell rfl
      have c1 : wr.cell? ⟨w.heap.size, 1, none⟩ = some (.int .u32 (n32 s.b)) := hm.arg.cell rfl
      have c2 : wr.cell? ⟨w.heap.size, 2, none⟩ = some (.int .u32 (n32 s.c)) := hm.arg.cell rfl
      have c3 : wr.cell? ⟨w.heap.size, 3, none⟩ = some (.int .u32 (n32 s.d)) := hm.arg.cell rfl
      have c4 : wr.cell? ⟨w.heap.size, 4, none⟩ = some (.int .u32 (n32 s.e)) := hm.arg.cell rfl
      have c5 : wr.cell? ⟨w.heap.size, 5, none⟩ = some (.int .u32 (n32 s.f)) := hm.arg.cell rfl
      have c6 : wr.cell? ⟨w.heap.size, 6, none⟩ = some (.int .u32 (n32 s.g)) := hm.arg.cell rfl
      have c7 : wr.cell? ⟨w.heap.size, 7, none⟩ = some (.int .u32 (n32 s.h)) := hm.arg.cell rfl
      have hz : wr.heap[w.heap.size + 1 + 1]? = some (.cells (List.replicate 8 (v32 0)).toArray 91 (0, 0)) := hm.res
      have HZ := Lib.hid hz
      clear hS hk hm ht hlt ht64 hz
      go_wp2_with ((with_reducible refine wpList_store_row ?_ 91 (.tmp 4) (.tmp 107) ?_ (w.heap.size + 1 + 1) #[.int .u32 ((n32 s.a + n32 a) % 4294967296), .int .u32 ((n32 s.b + n32 b) % 4294967296), .int .u32 ((n32 s.c + n32 c) % 4294967296), .int .u32 ((n32 s.d + n32 d) % 4294967296), .int .u32 ((n32 s.e + n32 e) % 4294967296), .int .u32 ((n32 s.f + n32 f) % 4294967296), .int .u32 ((n32 s.g + n32 g) % 4294967296), .int .u32 ((n32 s.h + n32 h) % 4294967296)] ?_ ?_ 91 (List.replicate 8 (v32 0)).toArray ?_ ?_ ?_ ?_ ?_); rfl; rfl; go_must (rfl; rfl; exact HZ.out; kernel_rfl; rfl; simp [Value.oneCell']))
      refine bodyPost_ret (v := .agg _) (results_cell_row rfl _ _ (w.heap.size + 1 + 1) _ _ _ _ rfl (setRow_heap wr (w.heap.size + 1 + 1) _ _ _ _ HZ.out) Tryd.underlying91 rfl (by kernel_rfl)) rfl ⟨ret_agg ?_, ?_⟩
      · have e := HS.out
        rw [HT.out] at e
        rw [mix, ← e]
        simp only [add_fold]
        rfl
      · exact below_setRow HM.out.old (by omega) _
end Go.Proofs.YtjejldfpehaacaaDoor
