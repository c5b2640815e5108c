/-
  What 'spread' answers: the 64 words of a block.
-/
import Derived.Test.YtokficfpgppaeaaDoorShaA
import Derived.StillTailTactics
import Derived.Lib.Hide
import Derived.Deep.RegionHeld3
import Derived.Deep.DeepMust
namespace Go.Proofs.YtokficfpgppaeaaDoor
open Go.RowKit Sh

/-- The words up to k, zeros behind. -/
def wsZ (L : List UInt8) (k : Nat) : List Value := (ws L k ++ List.replicate (64 - k) 0).map v32
theorem wsZ_set (L : List UInt8) (k : Nat) (hk : k < 64) : (wsZ L k).set k (v32 (next L (ws L k) k)) = wsZ L (k + 1) := by
  unfold wsZ
  rw [← List.map_set, List.set_append_right _ _ (by rw [ws_length]; exact Nat.le_refl k), ws_length, Nat.sub_self, show 64 - k = (64 - (k + 1)) + 1 by omega, List.replicate_succ, List.set_cons_zero, ws]
  simp
theorem wsZ_at (L : List UInt8) (k j : Nat) (h : j < k) : (wsZ L k)[j]? = some (v32 ((ws L k).getD j 0)) := by
  have hl := ws_length L k
  simp [wsZ, List.getElem?_append, hl, h, List.getD]
theorem wsZ_length (L : List UInt8) (k : Nat) (hk : k ≤ 64) : (wsZ L k).length = 64 := by simp [wsZ, ws_length]; omega

/-- What holds at each round's head. -/
structure SpreadAt (L : List UInt8) (B : Nat) (w wr : World) (k : Nat) : Prop where
  arg : Row wr B 114 (L.map v8)
  res : Row wr (B + 1) 67 (List.replicate 64 (v32 0))
  row : Row wr (B + 2) 67 (wsZ L k)
  old : Below B w wr

set_option maxRecDepth 100000 in
set_option maxHeartbeats 1000000 in
theorem spread_any (L : List UInt8) (hL : L.length = 64) (w : World) :
    Calls Tryd.prog 89 #[.agg (L.map v8).toArray] w fun e w' => e = .returned (.agg ((ws L 64).map v32).toArray) ∧ Below w.heap.size w w' := by
  go_enter Tryd.func89, Tryd.ntmps89
  go_wp2
  go_loopw [6] (fun i wr => ∃ k : Nat, k ≤ 16 ∧ i = .int .i64 k ∧ SpreadAt L w.heap.size w wr k) (fun i _ => 16 - (intOf i).toNat)
  case atStart => 
    refine ⟨0, Nat.zero_le _, rfl, ((Row.new _ _ _).alloc _).alloc _, (Row.at_ _ _ _ rfl (by simp)).alloc _, Row.at_ _ _ _ rfl (by simp), ?_⟩
    exact (((Below.refl _ _).alloc (by omega) _).alloc (by simp) _).alloc (by simp; omega) _
  case round =>
    obtain ⟨k, hk, rfl, hs⟩ := hrel
    by_cases hlt : k < 16
    · have hc : ∀ j, j < 4 → wr.cell? ⟨w.heap.size, 4 * k + j, none⟩ = some (.int .u8 (n8 (L.getD (4 * k + j) 0))) := fun j hj => hs.arg.cell (by simp [List.getD, List.getElem?_eq_getElem (show 4 * k + j < L.length by omega), v8])
      have c0 := hc 0 (by omega)
      have c1 := hc 1 (by omega)
      have c2 := hc 2 (by omega)
      have c3 := hc 3 (by omega)
      clear hc
      have q0 := n8_nonneg (L.getD (4 * k) 0)
      have q1 := n8_nonneg (L.getD (4 * k + 1) 0)
      have q2 := n8_nonneg (L.getD (4 * k + 2) 0)
      have q3 := n8_nonneg (L.getD (4 * k + 3) 0)
      have r0 := n8_lt (L.getD (4 * k) 0)
      have r1 := n8_lt (L.getD (4 * k + 1) 0)
      have r2 := n8_lt (L.getD (4 * k + 2) 0)
      have r3 := n8_lt (L.getD (4 * k + 3) 0)
      generalize hb0 : L.getD (4 * k) 0 = b0 at *
      generalize hb1 : L.getD (4 * k + 1) 0 = b1 at *
      generalize hb2 : L.getD (4 * k + 2) 0 = b2 at *
      generalize hb3 : L.getD (4 * k + 3) 0 = b3 at *
      have H0 := Lib.hid hb0
      have H1 := Lib.hid hb1
      have H2 := Lib.hid hb2
      have H3 := Lib.hid hb3
      clear hb0 hb1 hb2 hb3
      simp only [Nat.add_zero] at c0
      obtain ⟨u, hu⟩ : ∃ u, wr.cell? ⟨w.heap.size + 2, k, none⟩ = some u := ⟨_, hs.row.cell (List.getElem?_eq_getElem (by rw [wsZ_length L k (by omega)]; omega))⟩
      have hf := hs.row.frozen k
      go_wp2
      have e0 : IntKind.i64.wrap (4 * (k : Int)) = 4 * (k : Int) := IntWalk.i64_in _ (by omega)
      have e1 : IntKind.i64.wrap (4 * (k : Int) + 1) = 4 * (k : Int) + 1 := IntWalk.i64_in _ (by omega)
      have e2 : IntKind.i64.wrap (4 * (k : Int) + 2) = 4 * (k : Int) + 2 := IntWalk.i64_in _ (by omega)
      have e3 : IntKind.i64.wrap (4 * (k : Int) + 3) = 4 * (k : Int) + 3 := IntWalk.i64_in _ (by omega)
      have l0 : 0 ≤ 4 * (k : Int) ∧ 4 * (k : Int) < 64 := by omega
      have l1 : 0 ≤ 4 * (k : Int) + 1 ∧ 4 * (k : Int) + 1 < 64 := by omega
      have l2 : 0 ≤ 4 * (k : Int) + 2 ∧ 4 * (k : Int) + 2 < 64 := by omega
      have l3 : 0 ≤ 4 * (k : Int) + 3 ∧ 4 * (k : Int) + 3 < 64 := by omega
      have t0 : (4 * (k : Int)).toNat = 4 * k := by omega
      have t1 : (4 * (k : Int) + 1).toNat = 4 * k + 1 := by omega
      have t2 : (4 * (k : Int) + 2).toNat = 4 * k + 2 := by omega
      have t3 : (4 * (k : Int) + 3).toNat = 4 * k + 3 := by omega
      have l4 : 0 ≤ (k : Int) ∧ (k : Int) < 64 := by omega
      go_still_tail 31, (by kernel_rfl)
      show wpList _ _ _ _ _ (wr.drewN _)
      clear e0 e1 e2 e3 t0 t1 t2 t3 c0 c1 c2 c3 l0 l1 l2 l3 l4
      go_wp2
      go_roundw
      case rel =>
        refine ⟨k + 1, by omega, by go_num, ?_⟩
        have hv : Value.int .u32 (bits .or .u32 (bits .or .u32 (bits .or .u32 (n8 b0 * 16777216) (n8 b1 * 65536)) (n8 b2 * 256)) (n8 b3)) = v32 (next L (ws L k) k) := by
          rw [word_fold, next, if_pos hlt, H0.out, H1.out, H2.out, H3.out]; rfl
        rw [hv]
        refine ⟨(hs.arg.drewN 1).other (by simp; omega) _, (hs.res.drewN 1).other (by simp) _, ?_, (below_drewN hs.old 1).setCell (by simp; omega) _⟩
        rw [← wsZ_set L k (by omega)]
        exact (hs.row.drewN 1).set k _
      case measure => simp [intOf] <;> omega
    · have hk16 : k = 16 := by omega
      have hge : 16 ≤ k := by omega
      have H16 := Lib.hid hk16
      clear hk hlt hk16
      go_wp2
      go_loopw [5] (fun i wr => ∃ k : Nat, 16 ≤ k ∧ k ≤ 64 ∧ i = .int .i64 k ∧ SpreadAt L w.heap.size w wr k) (fun i _ => 64 - (intOf i).toNat)
      case atStart => exact ⟨16, by omega, by omega, rfl, H16.out ▸ hs⟩
      case round =>
        clear hs hge
        obtain ⟨k, hk0, hk, rfl, hs⟩ := hrel
        by_cases hlt : k < 64
        · have hc : ∀ j, j < k → wr.cell? ⟨w.heap.size + 1 + 1, j, none⟩ = some (.int .u32 (n32 ((ws L k).getD j 0))) := fun j hj => hs.row.cell (wsZ_at L k j hj)
          have c0 := hc (k - 2) (by omega)
          have c1 := hc (k - 7) (by omega)
          have c2 := hc (k - 15) (by omega)
          have c3 := hc (k - 16) (by omega)
          clear hc
          generalize hb0 : (ws L k).getD (k - 2) 0 = b0 at *
          generalize hb1 : (ws L k).getD (k - 7) 0 = b1 at *
          generalize hb2 : (ws L k).getD (k - 15) 0 = b2 at *
          generalize hb3 : (ws L k).getD (k - 16) 0 = b3 at *
          have H0 := Lib.hid hb0
          have H1 := Lib.hid hb1
          have H2 := Lib.hid hb2
          have H3 := Lib.hid hb3
          clear hb0 hb1 hb2 hb3
          obtain ⟨u, hu⟩ : ∃ u, wr.cell? ⟨w.heap.size + 1 + 1, k, none⟩ = some u := ⟨_, hs.row.cell (List.getElem?_eq_getElem (by rw [wsZ_length L k (by omega)]; omega))⟩
          have hf : wr.frozen? ⟨w.heap.size + 1 + 1, k, none⟩ = false := hs.row.frozen k
          go_wp2
          have e0 : IntKind.i64.wrap ((k : Int) - 2) = (k : Int) - 2 := IntWalk.i64_in _ (by omega)
          have e1 : IntKind.i64.wrap ((k : Int) - 7) = (k : Int) - 7 := IntWalk.i64_in _ (by omega)
          have e2 : IntKind.i64.wrap ((k : Int) - 15) = (k : Int) - 15 := IntWalk.i64_in _ (by omega)
          have e3 : IntKind.i64.wrap ((k : Int) - 16) = (k : Int) - 16 := IntWalk.i64_in _ (by omega)
          have l0 : 0 ≤ (k : Int) - 2 ∧ (k : Int) - 2 < 64 := by omega
          have l1 : 0 ≤ (k : Int) - 7 ∧ (k : Int) - 7 < 64 := by omega
          have l2 : 0 ≤ (k : Int) - 15 ∧ (k : Int) - 15 < 64 := by omega
          have l3 : 0 ≤ (k : Int) - 16 ∧ (k : Int) - 16 < 64 := by omega
          have l4 : 0 ≤ (k : Int) ∧ (k : Int) < 64 := by omega
          have t0 : ((k : Int) - 2).toNat = k - 2 := by omega
          have t1 : ((k : Int) - 7).toNat = k - 7 := by omega
          have t2 : ((k : Int) - 15).toNat = k - 15 := by omega
          have t3 : ((k : Int) - 16).toNat = k - 16 := by omega
          have p0 : (2 : Int) ≤ (k : Int) := by omega
          have p1 : (7 : Int) ≤ (k : Int) := by omega
          have p2 : (15 : Int) ≤ (k : Int) := by omega
          have p3 : (16 : Int) ≤ (k : Int) := by omega
          go_region_held3 (fun v => v.cell? ⟨w.heap.size + 1 + 1, k - 2, none⟩ = some (.int .u32 (n32 b0)) ∧ v.cell? ⟨w.heap.size + 1 + 1, k - 7, none⟩ = some (.int .u32 (n32 b1)) ∧ v.cell? ⟨w.heap.size + 1 + 1, k - 15, none⟩ = some (.int .u32 (n32 b2)) ∧ v.cell? ⟨w.heap.size + 1 + 1, k - 16, none⟩ = some (.int .u32 (n32 b3))) (first | go_keep | exact ⟨(World.cell?_setCell_other _ _ _ _ (by simp <;> omega)).trans c0, (World.cell?_setCell_other _ _ _ _ (by simp <;> omega)).trans c1, (World.cell?_setCell_other _ _ _ _ (by simp <;> omega)).trans c2, (World.cell?_setCell_other _ _ _ _ (by simp <;> omega)).trans c3⟩) (first | (go_at_call 95; refine (sg1_any _ _).mono ?_; rintro e w' ⟨rfl, n, rfl⟩) | (go_at_call 96; refine (sg0_any _ _).mono ?_; rintro e w' ⟨rfl, n, rfl⟩))
          clear e0 e1 e2 e3 t0 t1 t2 t3 c0 c1 c2 c3 l0 l1 l2 l3 l4 p0 p1 p2 p3
          go_wp2
          go_roundw
          case rel =>
            refine ⟨k + 1, by omega, by omega, by go_num, ?_⟩
            simp only [add_fold]
            have hv : Value.int .u32 (n32 (sg1 b0 + b1 + sg0 b2 + b3)) = v32 (next L (ws L k) k) := by
              rw [next, if_neg (by omega), H0.out, H1.out, H2.out, H3.out]; rfl
            rw [hv]
            refine ⟨(hs.arg.drewN _).other (by simp <;> omega) _, (hs.res.drewN _).other (by simp <;> omega) _, ?_, (below_drewN hs.old _).setCell (by simp <;> omega) _⟩
            rw [← wsZ_set L k (by omega)]
            exact (hs.row.drewN _).set k _
          case measure => simp [intOf] <;> omega
        · have hk16 : k = 64 := by omega
          subst hk16
          clear hk hlt hk0
          have hw : wsZ L 64 = (ws L 64).map v32 := by simp [wsZ]
          have hrow := hs.row
          have hres := hs.res
          rw [hw] at hrow
          have hlen : ((ws L 64).map v32).length = 64 := by simp [ws_length]
          have h1c := oneCell_map v32 (fun _ => rfl) (ws L 64)
          generalize hR : (ws L 64).map v32 = R at *
          have H1c := Lib.hid h1c
          have HRR := Lib.hid hR
          clear h1c hR
          have H := Lib.hid hw
          have HL := Lib.hid hlen
          clear hw hlen
          unfold Row at hrow hres
          have HR := Lib.hid hrow
          have HS := Lib.hid hres
          clear hrow hres
          go_wp2_with (first
            | (refine wpList_load_row rfl 67 _ rfl (w.heap.size + 1 + 1) rfl _ _ _ _ HR.out Tryd.underlying67 rfl (by rw [List.size_toArray, HL.out]; kernel_rfl) ?_)
            | (refine wpList_store_row rfl 67 _ _ rfl (w.heap.size + 1) R.toArray rfl rfl _ _ HS.out (by rw [List.size_toArray, HL.out]; kernel_rfl) (by simp [HL.out]) H1c.out ?_))
          refine bodyPost_ret (v := .agg R.toArray) (results_cell_row rfl _ _ (w.heap.size + 1) _ R.toArray _ _ rfl (setRow_heap wr (w.heap.size + 1) _ _ _ _ HS.out) Tryd.underlying67 rfl (by rw [List.size_toArray, HL.out]; kernel_rfl)) rfl ⟨by rw [HRR.out], ?_⟩
          exact below_setRow hs.old (by omega) _
end Go.Proofs.YtokficfpgppaeaaDoor

namespace Go.Proofs.YtokficfpgppaeaaDoor
open Go.RowKit Sh

/-- The table of the words Kt lies where the program's variable lies. -/
def KT (w : World) : Prop := ∀ t, t < 64 → w.cell? ⟨0, t, none⟩ = some (v32 (kt.getD t 0))
theorem KT.lt {w : World} (h : KT w) : 0 < w.heap.size := World.block_lt_of_cell? w _ (h 0 (by decide))
theorem KT.below {B : Nat} {w w' : World} (h : KT w) (hb : Below B w w') (hB : 0 < B) : KT w' := fun t ht => (hb.cell (by exact hB)).trans (h t ht)
theorem KT.drewN {w : World} (h : KT w) (n : Nat) : KT (w.drewN n) := h

def Sh.St.vals (s : St) : Array Value := #[v32 s.a, v32 s.b, v32 s.c, v32 s.d, v32 s.e, v32 s.f, v32 s.g, v32 s.h]

structure MixAt (s : St) (R : List Value) (B b : Nat) (w wr : World) : Prop where
  arg : Row wr B 112 s.vals.toList
  res : Row wr (B + 2) 112 (List.replicate 8 (v32 0))
  row : Row wr b 67 R
  old : Below B w wr

theorem MixAt.drewN {s : St} {R : List Value} {B b : Nat} {w wr : World} (h : MixAt s R B b w wr) (n : Nat) : MixAt s R B b w (wr.drewN n) := ⟨h.arg, h.res, h.row, below_drewN h.old n⟩

set_option maxRecDepth 100000 in
set_option maxHeartbeats 400000 in
theorem mix_any (s : St) (L : List UInt8) (hL : L.length = 64) (w : World) (hK : KT w) :
    Calls Tryd.prog 81 #[.agg s.vals, .agg (L.map v8).toArray] w fun e w' => e = .returned (.agg (mix s L).vals) ∧ Below w.heap.size w w' := by
  unfold St.vals
  have HK := Lib.hid hK
  clear hK
  go_enter Tryd.func81, Tryd.ntmps81
  have hLm : (L.map v8).length = 64 := by rw [List.length_map]; exact hL
  have HL := Lib.hid hLm
  have HL0 := Lib.hid hL
  clear hLm hL
  have hRl : ((ws L 64).map v32).length = 64 := by simp [ws_length]
  have hR1 := oneCell_map v32 (fun _ => rfl) (ws L 64)
  have hsp := fun W => spread_any L HL0.out W
  generalize hLL : L.map v8 = LL at *
  generalize hR : (ws L 64).map v32 = R at *
  have HLL := Lib.hid hLL
  have HR := Lib.hid hR
  have HRl := Lib.hid hRl
  have HR1 := Lib.hid hR1
  have HSP := Lib.hid hsp
  clear hLL hR hRl hR1 hsp
  go_wp2_with (first
    | (refine wpList_load_row rfl 114 (.tmp 3) rfl (w.heap.size + 1) rfl 114 LL.toArray (0, 0) _ ?_ Tryd.underlying114 rfl ?_ ?_; exact Row.alloc (Row.at_ _ _ LL rfl (by simp)) _; (rw [List.size_toArray, HL.out]; kernel_rfl)))
  refine (HSP.out _).mono ?_
  rintro e w1 ⟨rfl, hb1⟩
  have HB1 := Lib.hid hb1
  clear hb1
  go_wp2_with ((with_reducible refine wpList_store_row ?_ 67 (.tmp 5) (.tmp 18) ?_ w1.heap.size R.toArray ?_ ?_ 67 (List.replicate 64 (v32 0)).toArray ?_ ?_ ?_ HR1.out ?_); rfl; rfl; rfl; rfl; exact heap_alloc_new _ _; (simp only [List.size_toArray, HRl.out]; kernel_rfl); (simp only [List.size_toArray, List.length_replicate, HRl.out]))
  have hm : MixAt s R w.heap.size w1.heap.size w ((w1.alloc (.cells (List.replicate 64 (v32 0)).toArray 67)).setRow w1.heap.size R.toArray) := by
    have hb1 := HB1.out
    have hz := hb1.size
    simp only [World.size_alloc] at hz
    have hb2 : Below w.heap.size w w1 := ((((Below.refl _ _).alloc (Nat.le_refl _) _).alloc (by simp) _).alloc (by simp; omega) _).trans (hb1.mono (by simp; omega))
    refine ⟨?_, ?_, ?_, ?_⟩
    · have r1 : Row w1 w.heap.size 112 s.vals.toList := Row.below (Row.alloc (Row.alloc (Row.at_ (b := w.heap.size) _ _ _ rfl rfl) _) _) hb1 (by simp; omega)
      exact (r1.alloc _).setRow_other (by omega) _
    · have r2 : Row w1 (w.heap.size + 2) 112 (List.replicate 8 (v32 0)) := Row.below (Row.at_ (b := w.heap.size + 2) _ _ _ rfl (by simp)) hb1 (by simp)
      exact (r2.alloc _).setRow_other (by omega) _
    · exact Row.setRow (Row.at_ _ _ (List.replicate 64 (v32 0)) rfl rfl) R
    · exact below_setRow (hb2.alloc (by omega) _) (by omega) _
  generalize hW2 : World.setRow _ _ _ = W2
  have hK2 : KT W2 := HK.out.below hm.old HK.out.lt |> fun h => by rw [← hW2]; exact h
  have hm2 : MixAt s R w.heap.size w1.heap.size w W2 := by rw [← hW2]; exact hm
  clear hW2 hm
  have c0 : W2.cell? ⟨w.heap.size, 0, none⟩ = some (.int .u32 (n32 s.a)) := hm2.arg.cell rfl
  have c1 : W2.cell? ⟨w.heap.size, 1, none⟩ = some (.int .u32 (n32 s.b)) := hm2.arg.cell rfl
  have c2 : W2.cell? ⟨w.heap.size, 2, none⟩ = some (.int .u32 (n32 s.c)) := hm2.arg.cell rfl
  have c3 : W2.cell? ⟨w.heap.size, 3, none⟩ = some (.int .u32 (n32 s.d)) := hm2.arg.cell rfl
  have c4 : W2.cell? ⟨w.heap.size, 4, none⟩ = some (.int .u32 (n32 s.e)) := hm2.arg.cell rfl
  have c5 : W2.cell? ⟨w.heap.size, 5, none⟩ = some (.int .u32 (n32 s.f)) := hm2.arg.cell rfl
  have c6 : W2.cell? ⟨w.heap.size, 6, none⟩ = some (.int .u32 (n32 s.g)) := hm2.arg.cell rfl
  have c7 : W2.cell? ⟨w.heap.size, 7, none⟩ = some (.int .u32 (n32 s.h)) := hm2.arg.cell rfl
  go_quiet (fail)
  go_wp2_with fail
  have HMM := Lib.hid hm2
  have HK2 := Lib.hid hK2
  clear c0 c1 c2 c3 c4 c5 c6 c7 hm2 hK2 HB1
  go_loopw [6, 7, 8, 9, 10, 11, 12, 13, 35] (fun a b c d e f g h i wr => ∃ (t : Nat) (S : St), t ≤ 64 ∧ i = .int .i64 t ∧ S = rounds kt (ws L 64) s t ∧ a = .int .u32 (n32 S.a) ∧ b = .int .u32 (n32 S.b) ∧ c = .int .u32 (n32 S.c) ∧ d = .int .u32 (n32 S.d) ∧ e = .int .u32 (n32 S.e) ∧ f = .int .u32 (n32 S.f) ∧ g = .int .u32 (n32 S.g) ∧ h = .int .u32 (n32 S.h) ∧ KT wr ∧ MixAt s R w.heap.size w1.heap.size w wr) (fun _ _ _ _ _ _ _ _ i _ => 64 - (intOf i).toNat)
  case atStart => exact ⟨0, s, by omega, rfl, rfl, rfl, rfl, rfl, rfl, rfl, rfl, rfl, rfl, HK2.out.drewN _, HMM.out.drewN _⟩
  case round =>
    obtain ⟨t, ⟨a, b, c, d, e, f, g, h⟩, ht, rfl, hS, rfl, rfl, rfl, rfl, rfl, rfl, rfl, rfl, hk, hm⟩ := hrel
    have HS := Lib.hid hS
    have HK := Lib.hid hk
    have HM := Lib.hid hm
    by_cases hlt : t < 64
    · have ck : wr.cell? ⟨0, t, none⟩ = some (.int .u32 (n32 (kt.getD t 0))) := hk t hlt
      have cw : wr.cell? ⟨w1.heap.size, t, none⟩ = some (.int .u32 (n32 ((ws L 64).getD t 0))) := hm.row.cell (by rw [← HR.out]; simp [List.getD, ws_length, hlt, v32])
      generalize hkk : kt.getD t 0 = kk at *
      generalize hww : (ws L 64).getD t 0 = ww at *
      have HKK := Lib.hid hkk
      have HWW := Lib.hid hww
      have hlt' : (t : Int) < 64 := by omega
      have h0' : (0 : Int) ≤ (t : Int) := by omega
      clear hkk hww hS hk hm
      go_wp2_with fail
      go_quiet ((first | (go_at_call 90; exact Calls.quiet_of (bg1_any _ _)) | (go_at_call 91; exact Calls.quiet_of_same ((ch_any _ _ _ _).mono fun _ _ ⟨he, hw⟩ => ⟨he, hw.symm⟩))))
      go_wp2_with (first
        | (go_at_call 92; refine (bg0_any _ _).mono ?_; rintro e w' ⟨rfl, n, rfl⟩)
        | (go_at_call 93; refine (maj_any _ _ _ _).mono ?_; rintro e w' ⟨rfl, rfl⟩))
      go_roundw
      case rel =>
        refine ⟨t + 1, round ⟨a, b, c, d, e, f, g, h⟩ kk ww, by omega, by go_num, ?_, ?_, rfl, rfl, rfl, ?_, rfl, rfl, rfl, HK.out.drewN _, HM.out.drewN _⟩
        · rw [HS.out, rounds, HKK.out, HWW.out]
        · rw [add5_fold, add_fold, add_fold]; rfl
        · rw [add5_fold, add_fold]; rfl
      case measure => simp [intOf] <;> omega
    · have ht64 : t = 64 := by omega
      have HT := Lib.hid ht64
      have hge : ¬ (t : Int) < 64 := by omega
      have hge' : (64 : Int) ≤ t := by omega
      have c0 : wr.cell? ⟨w.heap.size, 0, none⟩ = some (.int .u32 (n32 s.a)) := hm.arg.cell rfl
      have c1 : wr.cell? ⟨w.heap.size, 1, none⟩ = some (.int .u32 (n32 s.b)) := hm.arg.cell rfl
      have c2 : wr.cell? ⟨w.heap.size, 2, none⟩ = some (.int .u32 (n32 s.c)) := hm.arg.cell rfl
      have c3 : wr.cell? ⟨w.heap.size, 3, none⟩ = some (.int .u32 (n32 s.d)) := hm.arg.cell rfl
      have c4 : wr.cell? ⟨w.heap.size, 4, none⟩ = some (.int .u32 (n32 s.e)) := hm.arg.cell rfl
      have c5 : wr.cell? ⟨w.heap.size, 5, none⟩ = some (.int .u32 (n32 s.f)) := hm.arg.cell rfl
      have c6 : wr.cell? ⟨w.heap.size, 6, none⟩ = some (.int .u32 (n32 s.g)) := hm.arg.cell rfl
      have c7 : wr.cell? ⟨w.heap.size, 7, none⟩ = some (.int .u32 (n32 s.h)) := hm.arg.cell rfl
      have hz : wr.heap[w.heap.size + 1 + 1]? = some (.cells (List.replicate 8 (v32 0)).toArray 112 (0, 0)) := hm.res
      have HZ := Lib.hid hz
      clear hS hk hm ht hlt ht64 hz
      go_wp2_with ((with_reducible refine wpList_store_row ?_ 112 (.tmp 4) (.tmp 107) ?_ (w.heap.size + 1 + 1) #[.int .u32 ((n32 s.a + n32 a) % 4294967296), .int .u32 ((n32 s.b + n32 b) % 4294967296), .int .u32 ((n32 s.c + n32 c) % 4294967296), .int .u32 ((n32 s.d + n32 d) % 4294967296), .int .u32 ((n32 s.e + n32 e) % 4294967296), .int .u32 ((n32 s.f + n32 f) % 4294967296), .int .u32 ((n32 s.g + n32 g) % 4294967296), .int .u32 ((n32 s.h + n32 h) % 4294967296)] ?_ ?_ 112 (List.replicate 8 (v32 0)).toArray ?_ ?_ ?_ ?_ ?_); rfl; rfl; go_must (rfl; rfl; exact HZ.out; kernel_rfl; rfl; simp [Value.oneCell']))
      refine bodyPost_ret (v := .agg _) (results_cell_row rfl _ _ (w.heap.size + 1 + 1) _ _ _ _ rfl (setRow_heap wr (w.heap.size + 1 + 1) _ _ _ _ HZ.out) Tryd.underlying112 rfl (by kernel_rfl)) rfl ⟨ret_agg ?_, ?_⟩
      · have e := HS.out
        rw [HT.out] at e
        rw [mix, ← e]
        simp only [add_fold]
        rfl
      · exact below_setRow HM.out.old (by omega) _
end Go.Proofs.YtokficfpgppaeaaDoor

namespace Go.Proofs.YtokficfpgppaeaaDoor
open Go.RowKit Sh

theorem u8_of_word (x : W) (k : Nat) : IntKind.u8.wrap (n32 x / 2 ^ k) = n8 (UInt8.ofNat (x.toNat >>> k)) := by
  unfold n32 n8
  rw [IntKind.wrap_u8, Nat.shiftRight_eq_div_pow]
  simp

/-- The bytes of the first k words, zeros behind. -/
def layZ (s : St) (k : Nat) : List Value := ((s.words.take k).flatMap bytesOf ++ List.replicate (32 - 4 * k) 0).map v8

theorem bytesOf_length (x : W) : (bytesOf x).length = 4 := rfl
theorem words_length (s : St) : s.words.length = 8 := rfl
theorem flat_length (l : List W) : (l.flatMap bytesOf).length = 4 * l.length := by
  induction l with
  | nil => rfl
  | cons x r ih => simp only [List.flatMap_cons, List.length_append, ih, bytesOf_length, List.length_cons]; omega
theorem splice_append {α : Type} (A Z C : List α) (off : Nat) (h : A.length = off) : splice (A ++ Z) off C = A ++ (C ++ Z.drop C.length) := by
  subst h
  simp [splice, List.drop_append]
theorem layZ_length (s : St) (k : Nat) (hk : k ≤ 8) : (layZ s k).length = 32 := by
  simp only [layZ, List.length_map, List.length_append, flat_length, List.length_take, words_length, List.length_replicate]
  omega
theorem layZ_step (s : St) (k : Nat) (hk : k < 8) : splice (layZ s k) (4 * k) ((bytesOf (s.words.getD k 0)).map v8) = layZ s (k + 1) := by
  have hl : k < s.words.length := hk
  have h1 : ((s.words.take k).flatMap bytesOf).length = 4 * k := by rw [flat_length, List.length_take, words_length]; omega
  unfold layZ
  rw [List.map_append, splice_append _ _ _ _ (by rw [List.length_map, h1]), List.take_add_one, List.getElem?_eq_getElem hl]
  simp only [List.getD, List.getElem?_eq_getElem hl, Option.getD_some, Option.toList_some, List.flatMap_append, List.flatMap_cons, List.flatMap_nil, List.append_nil, List.map_append, List.append_assoc, List.length_map, bytesOf_length]
  rw [← List.map_drop, List.drop_replicate]
  congr 3
theorem layZ_all (s : St) : layZ s 8 = s.bytes.map v8 := by
  simp [layZ, St.bytes, St.words]
theorem layZ_zero (s : St) : layZ s 0 = List.replicate 32 (v8 0) := by simp [layZ]

structure LayAt (s : St) (B : Nat) (w wr : World) (k : Nat) : Prop where
  res : Row wr (B + 1) 39 (List.replicate 32 (v8 0))
  row : Row wr (B + 2) 39 (layZ s k)
  old : Below B w wr
  more : B + 3 ≤ wr.heap.size

theorem index_state0 (a b c d e f g h : Value) (W : World) : (Instr.index 112 (.agg #[a, b, c, d, e, f, g, h]) (.int .i64 0)).run Tryd.prog W = .ok a W := by kernel_rfl
theorem index_state1 (a b c d e f g h : Value) (W : World) : (Instr.index 112 (.agg #[a, b, c, d, e, f, g, h]) (.int .i64 1)).run Tryd.prog W = .ok b W := by kernel_rfl
theorem index_state2 (a b c d e f g h : Value) (W : World) : (Instr.index 112 (.agg #[a, b, c, d, e, f, g, h]) (.int .i64 2)).run Tryd.prog W = .ok c W := by kernel_rfl
theorem index_state3 (a b c d e f g h : Value) (W : World) : (Instr.index 112 (.agg #[a, b, c, d, e, f, g, h]) (.int .i64 3)).run Tryd.prog W = .ok d W := by kernel_rfl
theorem index_state4 (a b c d e f g h : Value) (W : World) : (Instr.index 112 (.agg #[a, b, c, d, e, f, g, h]) (.int .i64 4)).run Tryd.prog W = .ok e W := by kernel_rfl
theorem index_state5 (a b c d e f g h : Value) (W : World) : (Instr.index 112 (.agg #[a, b, c, d, e, f, g, h]) (.int .i64 5)).run Tryd.prog W = .ok f W := by kernel_rfl
theorem index_state6 (a b c d e f g h : Value) (W : World) : (Instr.index 112 (.agg #[a, b, c, d, e, f, g, h]) (.int .i64 6)).run Tryd.prog W = .ok g W := by kernel_rfl
theorem index_state7 (a b c d e f g h : Value) (W : World) : (Instr.index 112 (.agg #[a, b, c, d, e, f, g, h]) (.int .i64 7)).run Tryd.prog W = .ok h W := by kernel_rfl
theorem index_state (s : St) (k : Nat) (hk : k < 8) (W : World) : (Instr.index 112 (.agg s.vals) (.int .i64 (k : Int))).run Tryd.prog W = .ok (v32 (s.words.getD k 0)) W := by
  have h : k = 0 ∨ k = 1 ∨ k = 2 ∨ k = 3 ∨ k = 4 ∨ k = 5 ∨ k = 6 ∨ k = 7 := by omega
  rcases h with rfl | rfl | rfl | rfl | rfl | rfl | rfl | rfl
  · exact index_state0 _ _ _ _ _ _ _ _ W
  · exact index_state1 _ _ _ _ _ _ _ _ W
  · exact index_state2 _ _ _ _ _ _ _ _ W
  · exact index_state3 _ _ _ _ _ _ _ _ W
  · exact index_state4 _ _ _ _ _ _ _ _ W
  · exact index_state5 _ _ _ _ _ _ _ _ W
  · exact index_state6 _ _ _ _ _ _ _ _ W
  · exact index_state7 _ _ _ _ _ _ _ _ W

set_option maxRecDepth 100000 in
set_option maxHeartbeats 400000 in
theorem lay_any (s : St) (w : World) :
    Calls Tryd.prog 83 #[.agg s.vals] w fun e w' => e = .returned (.agg (s.bytes.map v8).toArray) ∧ Below w.heap.size w w' := by
  unfold Sh.St.vals
  go_enter Tryd.func83, Tryd.ntmps83
  go_wp2_with fail
  go_loopw [8] (fun i wr => ∃ k : Nat, k ≤ 8 ∧ i = .int .i64 k ∧ LayAt s w.heap.size w wr k) (fun i _ => 8 - (intOf i).toNat)
  case atStart =>
    refine ⟨0, Nat.zero_le _, rfl, (Row.at_ (b := w.heap.size + 1) _ _ _ rfl (by simp)).alloc _, Row.at_ (b := w.heap.size + 2) _ _ _ rfl (by simp), ?_, by simp⟩
    exact (((Below.refl _ _).alloc (by omega) _).alloc (by simp) _).alloc (by simp; omega) _
  case round =>
    obtain ⟨k, hk, rfl, hs⟩ := hrel
    by_cases hlt : k < 8
    · have hidx : ∀ W, (Instr.index 112 (.agg #[v32 s.a, v32 s.b, v32 s.c, v32 s.d, v32 s.e, v32 s.f, v32 s.g, v32 s.h]) (.int .i64 (k : Int))).run Tryd.prog W = .ok (.int .u32 (n32 (s.words.getD k 0))) W := index_state s k hlt
      generalize hx : s.words.getD k 0 = x at *
      have HX := Lib.hid hx
      have q0 := n32_nonneg x
      have q1 := n32_lt x
      have hlt' : (k : Int) < 8 := by omega
      clear hx
      go_wp2_with fail
      have r1 : Row (wr.alloc (.cells [v8 (UInt8.ofNat (x.toNat >>> 24)), v8 (UInt8.ofNat (x.toNat >>> 16)), v8 (UInt8.ofNat (x.toNat >>> 8)), v8 (UInt8.ofNat x.toNat)].toArray 129)) wr.heap.size 129 ((bytesOf x).map v8) := Row.new _ _ _
      have e : [v8 (UInt8.ofNat (x.toNat >>> 24)), v8 (UInt8.ofNat (x.toNat >>> 16)), v8 (UInt8.ofNat (x.toNat >>> 8)), v8 (UInt8.ofNat x.toNat)].toArray = #[.int .u8 (n32 x / 16777216), .int .u8 (n32 x / 65536 % 256), .int .u8 (n32 x / 256 % 256), .int .u8 (n32 x % 256)] := by
        simp only [v8, n8, n32, UInt8.toNat_ofNat', Nat.shiftRight_eq_div_pow]
        have := x.isLt
        simp
        omega
      rw [e] at r1
      generalize hW3 : wr.alloc _ = W3
      rw [hW3] at r1
      have k3 : Kept wr W3 (fun _ => False) := by rw [← hW3]; exact (Kept.refl _ _).alloc _
      have R1 := Lib.hid r1
      have K3 := Lib.hid k3
      have e0 : IntKind.i64.wrap (4 * (k : Int)) = 4 * (k : Int) := IntWalk.i64_in _ (by omega)
      have l0 : 0 ≤ 4 * (k : Int) ∧ 4 * (k : Int) ≤ 32 := by omega
      have n0 : ¬ 32 = 4 * k := by omega
      have t0 : (4 * (k : Int)).toNat = 4 * k := by omega
      clear hidx r1 k3 hW3 e
      go_still_tail 4, (by kernel_rfl)
      show wpList _ _ _ _ _ (W3.drewN _)
      clear e0 t0 l0
      refine wpList_copy_kept rfl (.tmp 26) (.tmp 27) 35 35 rfl 5 Tryd.underlying35 (by kernel_rfl) (some ⟨w.heap.size + 1 + 1, 4 * k, none⟩) (some ⟨wr.heap.size, 0, none⟩) (32 - 4 * k) (32 - 4 * k) 4 4 rfl rfl (w.heap.size + 1 + 1) (4 * k) (layZ s k) 39 ?_ ((bytesOf x).map v8) ?_ ?_ ?_ ?_ ?_
      · exact (K3.out.row hs.row (fun h => h)).drewN 1
      · simp only [List.length_map, bytesOf_length]; exact (Nat.min_eq_left (by omega)).symm
      · exact fun _ => ⟨rfl, _, rfl, fun j v hj => (R1.out.drewN 1).cell (by simpa [Addr.add] using hj) |> fun h => by rw [Addr.add_mid]; simpa using h⟩
      · rw [layZ_length s k hk, List.length_map, bytesOf_length]; omega
      · intro v hv
        obtain ⟨y, _, rfl⟩ := List.mem_map.1 hv
        rfl
      intro w4 R4 K4
      go_wp2_with fail
      go_roundw
      case rel =>
        refine ⟨k + 1, by omega, by go_num, ?_, ?_, ?_, ?_⟩
        · exact K4.out.row ((K3.out.row hs.res (fun h => h)).drewN 1) (by omega)
        · have h := R4.out
          rw [← HX.out, layZ_step s k hlt] at h
          exact h
        · exact hs.old.trans ((K3.out.drewN 1).below (Nat.le_trans (by omega) hs.more) (fun _ _ h => h) |>.trans (K4.out.below (Nat.le_trans (by omega) (Nat.le_trans hs.more K3.out.size)) (by omega)))
        · exact Nat.le_trans hs.more (Nat.le_trans K3.out.size K4.out.size)
      case measure => simp [intOf] <;> omega
    · have hk8 : k = 8 := by omega
      have hw : Row wr (w.heap.size + 1 + 1) 39 (s.bytes.map v8) := by have h := hs.row; rw [hk8, layZ_all] at h; exact h
      have hz : Row wr (w.heap.size + 1) 39 (List.replicate 32 (v8 0)) := hs.res
      have hl : (s.bytes.map v8).length = 32 := rfl
      have h1 := oneCell_map v8 (fun _ => rfl) s.bytes
      have hold := hs.old
      generalize hR : s.bytes.map v8 = R at *
      have HR := Lib.hid hR
      unfold Row at hw hz
      have HW := Lib.hid hw
      have HZ := Lib.hid hz
      have HL := Lib.hid hl
      have H1 := Lib.hid h1
      clear hw hz hl h1 hs hk8 hR
      go_wp2_with (first
        | ((with_reducible refine wpList_load_row ?_ 39 (.tmp 3) ?_ (w.heap.size + 1 + 1) ?_ 39 R.toArray (0, 0) (.array 32 5) ?_ ?_ ?_ ?_ ?_); rfl; rfl; go_must (rfl; exact HW.out; exact Tryd.underlying39; rfl; (simp only [List.size_toArray, HL.out]; kernel_rfl)))
        | ((with_reducible refine wpList_store_row ?_ 39 (.tmp 2) (.tmp 30) ?_ (w.heap.size + 1) R.toArray ?_ ?_ 39 (List.replicate 32 (v8 0)).toArray ?_ ?_ ?_ ?_ ?_); rfl; rfl; go_must (rfl; rfl; exact HZ.out; (simp only [List.size_toArray, HL.out]; kernel_rfl); (simp only [List.size_toArray, List.length_replicate, HL.out]); exact H1.out)))
      refine bodyPost_ret (v := .agg R.toArray) (results_cell_row rfl _ _ (w.heap.size + 1) _ R.toArray _ _ rfl (setRow_heap wr (w.heap.size + 1) _ _ _ _ HZ.out) Tryd.underlying39 rfl (by simp only [List.size_toArray, HL.out]; kernel_rfl)) rfl ⟨by rw [HR.out], ?_⟩
      exact below_setRow hold (by omega) _
end Go.Proofs.YtokficfpgppaeaaDoor

namespace Go.Proofs.YtokficfpgppaeaaDoor
open Go.RowKit Sh

def zerosOf (n : Nat) : Nat := (119 - n % 64) % 64
def padA (n : Nat) : List UInt8 := 128 :: List.replicate (zerosOf n) 0
def padT (n k : Nat) : List UInt8 := List.replicate (8 - k) 0 ++ ((List.range 8).drop (8 - k)).map (byteAt (n * 8))
/-- The padding, of whose last eight bytes the last k are laid. -/
def padZ (n k : Nat) : List Value := (padA n).map v8 ++ (padT n k).map v8
theorem padZ_all (n : Nat) : padZ n 8 = (padding n).map v8 := by
  rw [padZ, ← List.map_append]
  rfl
theorem padZ_zero (n : Nat) : (List.replicate (zerosOf n + 9) (v8 0)).set 0 (v8 128) = padZ n 0 := by
  have h : zerosOf n + 9 = (zerosOf n + 8) + 1 := by omega
  have h8 : padT n 0 = List.replicate 8 0 := rfl
  rw [h, List.replicate_succ, List.set_cons_zero, padZ, h8, padA, List.map_cons, List.map_replicate, List.map_replicate, List.cons_append, List.replicate_append_replicate]
theorem padZ_length (n k : Nat) (hk : k ≤ 8) : (padZ n k).length = zerosOf n + 9 := by
  simp only [padZ, padA, padT, List.length_append, List.length_map, List.length_cons, List.length_replicate, List.length_drop, List.length_range]
  omega
theorem padZ_step (n k : Nat) (hk : k < 8) : (padZ n k).set (zerosOf n + 8 - k) (v8 (byteAt (n * 8) (7 - k))) = padZ n (k + 1) := by
  unfold padZ
  have hl : ((padA n).map v8).length = zerosOf n + 1 := by simp [padA]
  rw [List.set_append_right _ _ (by omega), hl]
  congr 1
  rw [show zerosOf n + 8 - k - (zerosOf n + 1) = 7 - k by omega]
  have h : k = 0 ∨ k = 1 ∨ k = 2 ∨ k = 3 ∨ k = 4 ∨ k = 5 ∨ k = 6 ∨ k = 7 := by omega
  rcases h with rfl | rfl | rfl | rfl | rfl | rfl | rfl | rfl <;> rfl
theorem byte_fold (n k : Nat) (hk : k < 8) : IntKind.u8.wrap ((n : Int) / 2 ^ (8 * k)) = n8 (byteAt n (7 - k)) := by
  unfold n8 byteAt
  rw [IntKind.wrap_u8, show 8 * (7 - (7 - k)) = 8 * k by omega, Nat.shiftRight_eq_div_pow]
  simp

theorem madeCells_one (z : Value) (n : Nat) : madeCells #[z] n = (List.replicate n z).toArray := by
  apply Array.ext
  · simp [size_madeCells]
  · intro i h1 h2
    simp [madeCells, Nat.mod_one]
theorem infoU8 : (Tryd.prog.info? 5).map (fun i => (i.zero, i.size, i.bytes)) = some (some (.int .u8 0), 1, 1) := by kernel_rfl
theorem pad_size (n : Nat) : 1 + ((119 : Int) - n) % 64 + 8 = ((zerosOf n + 9 : Nat) : Int) := by
  unfold zerosOf
  omega
theorem make_pad (n : Nat) (W : World) : (Instr.makeSlice 35 (.int .i64 (1 + ((119 : Int) - n) % 64 + 8)) (.int .i64 (1 + ((119 : Int) - n) % 64 + 8))).run Tryd.prog W = .ok (.slice (some ⟨W.heap.size, 0, none⟩) (zerosOf n + 9) (zerosOf n + 9)) (W.alloc (.cells (List.replicate (zerosOf n + 9) (v8 0)).toArray 5)) := by
  have hz : zerosOf n < 64 := Nat.mod_lt _ (by decide)
  rw [pad_size, run_make_row' _ _ _ _ Tryd.underlying35 infoU8 rfl .i64 .i64 (zerosOf n + 9) (by omega) (by omega), madeCells_one]
  rfl

set_option maxRecDepth 100000 in
set_option maxHeartbeats 400000 in
theorem padding_any (n : Nat) (hn : n ≤ 1099511627776) (w : World) :
    Calls Tryd.prog 82 #[.int .i64 n] w fun e w' => e = .returned (.slice (some ⟨w.heap.size, 0, none⟩) (zerosOf n + 9) (zerosOf n + 9)) ∧ Hid (Row w' w.heap.size 5 ((padding n).map v8)) ∧ Below w.heap.size w w' := by
  have hmk := make_pad n
  have hz : zerosOf n < 64 := Nat.mod_lt _ (by decide)
  generalize hzz : zerosOf n = z at *
  have HZZ := Lib.hid hzz
  clear hzz
  go_enter Tryd.func82, Tryd.ntmps82
  go_wp2_with fail
  go_loopw [25] (fun i wr => ∃ k : Nat, k ≤ 8 ∧ i = .int .i64 k ∧ Row wr w.heap.size 5 (padZ n k) ∧ Below w.heap.size w wr) (fun i _ => 8 - (intOf i).toNat)
  case atStart =>
    refine ⟨0, Nat.zero_le _, rfl, ?_, (Below.refl _ _).alloc (Nat.le_refl _) _⟩
    have h := padZ_zero n
    rw [HZZ.out] at h
    exact Row.at_ _ _ _ (by rw [← h, ← List.setIfInBounds_toArray, List.toArray_replicate]; rfl) rfl
  case round =>
    obtain ⟨k, hk, rfl, hrow, hold⟩ := hrel
    have hlen := padZ_length n k hk
    rw [HZZ.out] at hlen
    by_cases hlt : k < 8
    · obtain ⟨u, hu⟩ : ∃ u, wr.cell? ⟨w.heap.size, z + 8 - k, none⟩ = some u := ⟨_, hrow.cell (List.getElem?_eq_getElem (by omega))⟩
      have hf : wr.frozen? ⟨w.heap.size, z + 8 - k, none⟩ = false := hrow.frozen _
      have hlt' : (k : Int) < 8 := by omega
      clear hlen hmk
      go_wp2_with fail
      go_roundw
      case rel =>
        have hv : Value.int .u8 ((n : Int) * 8 / 2 ^ (8 * k) % 256) = v8 (byteAt (n * 8) (7 - k)) := by
          have e := byte_fold (n * 8) k hlt
          rw [IntKind.wrap_u8, Int.natCast_mul] at e
          exact congrArg (Value.int .u8) e
        rw [hv]
        refine ⟨k + 1, by omega, by go_num, ?_, hold.setCell (Nat.le_refl _) _⟩
        rw [← padZ_step n k hlt, HZZ.out]
        exact hrow.set _ _
      case measure => simp [intOf] <;> omega
    · have hk8 : k = 8 := by omega
      have hr : Row wr w.heap.size 5 ((padding n).map v8) := by rw [← padZ_all, ← hk8]; exact hrow
      have HR := Lib.hid hr
      clear hr hrow hk8 hlen hmk
      go_wp2_with fail
      go_ret
      exact ⟨rfl, HR, hold⟩
end Go.Proofs.YtokficfpgppaeaaDoor
