/-
  What 'spread' answers: the 64 words of a block.
-/
import Derived.Test.YtjejldfpehaacaaDoorShaWords
import Derived.Test.YtjejldfpehaacaaDoorMem
import Derived.StillTailTactics
import Derived.Lib.Hide
import Derived.Deep.RegionHeld3
namespace Go.Proofs.YtjejldfpehaacaaDoor
open Go.RowKit Sh

/-- The words up to k, zeros behind. -/
def wsZ (L : List UInt8) (k : Nat) : List Value := (ws L k ++ List.replicate (64 - k) 0).map v32
theorem wsZ_set (L : List UInt8) (k : Nat) (hk : k < 64) : (wsZ L k).set k (v32 (next L (ws L k) k)) = wsZ L (k + 1) := by
  unfold wsZ
  rw [← List.map_set, List.set_append_right _ _ (by rw [ws_length]; exact Nat.le_refl k), ws_length, Nat.sub_self, show 64 - k = (64 - (k + 1)) + 1 by omega, List.replicate_succ, List.set_cons_zero, ws]
  simp
theorem wsZ_at (L : List UInt8) (k j : Nat) (h : j < k) : (wsZ L k)[j]? = some (v32 ((ws L k).getD j 0)) := by
  have hl := ws_length L k
  simp [wsZ, List.getElem?_append, hl, h, List.getD]
theorem wsZ_length (L : List UInt8) (k : Nat) (hk : k ≤ 64) : (wsZ L k).length = 64 := by simp [wsZ, ws_length]; omega

/-- What holds at each round's head. -/
structure SpreadAt (L : List UInt8) (B : Nat) (w wr : World) (k : Nat) : Prop where
  arg : Row wr B 93 (L.map v8)
  res : Row wr (B + 1) 57 (List.replicate 64 (v32 0))
  row : Row wr (B + 2) 57 (wsZ L k)
  old : Below B w wr

set_option maxRecDepth 100000 in
set_option maxHeartbeats 1000000 in
theorem spread_any (L : List UInt8) (hL : L.length = 64) (w : World) :
    Calls Tryd.prog 72 #[.agg (L.map v8).toArray] w fun e w' => e = .returned (.agg ((ws L 64).map v32).toArray) ∧ Below w.heap.size w w' := by
  go_enter Tryd.func72, Tryd.ntmps72
  go_wp2
  go_loopw [6] (fun i wr => ∃ k : Nat, k ≤ 16 ∧ i = .int .i64 k ∧ SpreadAt L w.heap.size w wr k) (fun i _ => 16 - (intOf i).toNat)
  case atStart => 
    refine ⟨0, Nat.zero_le _, rfl, ((Row.new _ _ _).alloc _).alloc _, (Row.at_ _ _ _ rfl (by simp)).alloc _, Row.at_ _ _ _ rfl (by simp), ?_⟩
    exact (((Below.refl _ _).alloc (by omega) _).alloc (by simp) _).alloc (by simp; omega) _
  case round =>
    obtain ⟨k, hk, rfl, hs⟩ := hrel
    by_cases hlt : k < 16
    · have hc : ∀ j, j < 4 → wr.cell? ⟨w.heap.size, 4 * k + j, none⟩ = some (.int .u8 (n8 (L.getD (4 * k + j) 0))) := fun j hj => hs.arg.cell (by simp [List.getD, List.getElem?_eq_getElem (show 4 * k + j < L.length by omega), v8])
      have c0 := hc 0 (by omega)
      have c1 := hc 1 (by omega)
      have c2 := hc 2 (by omega)
      have c3 := hc 3 (by omega)
      clear hc
      have q0 := n8_nonneg (L.getD (4 * k) 0)
      have q1 := n8_nonneg (L.getD (4 * k + 1) 0)
      have q2 := n8_nonneg (L.getD (4 * k + 2) 0)
      have q3 := n8_nonneg (L.getD (4 * k + 3) 0)
      have r0 := n8_lt (L.getD (4 * k) 0)
      have r1 := n8_lt (L.getD (4 * k + 1) 0)
      have r2 := n8_lt (L.getD (4 * k + 2) 0)
      have r3 := n8_lt (L.getD (4 * k + 3) 0)
      generalize hb0 : L.getD (4 * k) 0 = b0 at *
      generalize hb1 : L.getD (4 * k + 1) 0 = b1 at *
      generalize hb2 : L.getD (4 * k + 2) 0 = b2 at *
      generalize hb3 : L.getD (4 * k + 3) 0 = b3 at *
      have H0 := Lib.hid hb0
      have H1 := Lib.hid hb1
      have H2 := Lib.hid hb2
      have H3 := Lib.hid hb3
      clear hb0 hb1 hb2 hb3
      simp only [Nat.add_zero] at c0
      obtain ⟨u, hu⟩ : ∃ u, wr.cell? ⟨w.heap.size + 2, k, none⟩ = some u := ⟨_, hs.row.cell (List.getElem?_eq_getElem (by rw [wsZ_length L k (by omega)]; omega))⟩
      have hf := hs.row.frozen k
      go_wp2
      have e0 : IntKind.i64.wrap (4 * (k : Int)) = 4 * (k : Int) := IntWalk.i64_in _ (by omega)
      have e1 : IntKind.i64.wrap (4 * (k : Int) + 1) = 4 * (k : Int) + 1 := IntWalk.i64_in _ (by omega)
      have e2 : IntKind.i64.wrap (4 * (k : Int) + 2) = 4 * (k : Int) + 2 := IntWalk.i64_in _ (by omega)
      have e3 : IntKind.i64.wrap (4 * (k : Int) + 3) = 4 * (k : Int) + 3 := IntWalk.i64_in _ (by omega)
      have l0 : 0 ≤ 4 * (k : Int) ∧ 4 * (k : Int) < 64 := by omega
      have l1 : 0 ≤ 4 * (k : Int) + 1 ∧ 4 * (k : Int) + 1 < 64 := by omega
      have l2 : 0 ≤ 4 * (k : Int) + 2 ∧ 4 * (k : Int) + 2 < 64 := by omega
      have l3 : 0 ≤ 4 * (k : Int) + 3 ∧ 4 * (k : Int) + 3 < 64 := by omega
      have t0 : (4 * (k : Int)).toNat = 4 * k := by omega
      have t1 : (4 * (k : Int) + 1).toNat = 4 * k + 1 := by omega
      have t2 : (4 * (k : Int) + 2).toNat = 4 * k + 2 := by omega
      have t3 : (4 * (k : Int) + 3).toNat = 4 * k + 3 := by omega
      have l4 : 0 ≤ (k : Int) ∧ (k : Int) < 64 := by omega
      go_still_tail 31, (by kernel_rfl)
      show wpList _ _ _ _ _ (wr.drewN _)
      clear e0 e1 e2 e3 t0 t1 t2 t3 c0 c1 c2 c3 l0 l1 l2 l3 l4
      go_wp2
      go_roundw
      case rel =>
        refine ⟨k + 1, by omega, by go_num, ?_⟩
        have hv : Value.int .u32 (bits .or .u32 (bits .or .u32 (bits .or .u32 (n8 b0 * 16777216) (n8 b1 * 65536)) (n8 b2 * 256)) (n8 b3)) = v32 (next L (ws L k) k) := by
          rw [word_fold, next, if_pos hlt, H0.out, H1.out, H2.out, H3.out]; rfl
        rw [hv]
        refine ⟨(hs.arg.drewN 1).other (by simp; omega) _, (hs.res.drewN 1).other (by simp) _, ?_, (below_drewN hs.old 1).setCell (by simp; omega) _⟩
        rw [← wsZ_set L k (by omega)]
        exact (hs.row.drewN 1).set k _
      case measure => simp [intOf] <;> omega
    · have hk16 : k = 16 := by omega
      have hge : 16 ≤ k := by omega
      have H16 := Lib.hid hk16
      clear hk hlt hk16
      go_wp2
      go_loopw [5] (fun i wr => ∃ k : Nat, 16 ≤ k ∧ k ≤ 64 ∧ i = .int .i64 k ∧ SpreadAt L w.heap.size w wr k) (fun i _ => 64 - (intOf i).toNat)
      case atStart => exact ⟨16, by omega, by omega, rfl, H16.out ▸ hs⟩
      case round =>
        clear hs hge
        obtain ⟨k, hk0, hk, rfl, hs⟩ := hrel
        by_cases hlt : k < 64
        · have hc : ∀ j, j < k → wr.cell? ⟨w.heap.size + 1 + 1, j, none⟩ = some (.int .u32 (n32 ((ws L k).getD j 0))) := fun j hj => hs.row.cell (wsZ_at L k j hj)
          have c0 := hc (k - 2) (by omega)
          have c1 := hc (k - 7) (by omega)
          have c2 := hc (k - 15) (by omega)
          have c3 := hc (k - 16) (by omega)
          clear hc
          generalize hb0 : (ws L k).getD (k - 2) 0 = b0 at *
          generalize hb1 : (ws L k).getD (k - 7) 0 = b1 at *
          generalize hb2 : (ws L k).getD (k - 15) 0 = b2 at *
          generalize hb3 : (ws L k).getD (k - 16) 0 = b3 at *
          have H0 := Lib.hid hb0
          have H1 := Lib.hid hb1
          have H2 := Lib.hid hb2
          have H3 := Lib.hid hb3
          clear hb0 hb1 hb2 hb3
          obtain ⟨u, hu⟩ : ∃ u, wr.cell? ⟨w.heap.size + 1 + 1, k, none⟩ = some u := ⟨_, hs.row.cell (List.getElem?_eq_getElem (by rw [wsZ_length L k (by omega)]; omega))⟩
          have hf : wr.frozen? ⟨w.heap.size + 1 + 1, k, none⟩ = false := hs.row.frozen k
          go_wp2
          have e0 : IntKind.i64.wrap ((k : Int) - 2) = (k : Int) - 2 := IntWalk.i64_in _ (by omega)
          have e1 : IntKind.i64.wrap ((k : Int) - 7) = (k : Int) - 7 := IntWalk.i64_in _ (by omega)
          have e2 : IntKind.i64.wrap ((k : Int) - 15) = (k : Int) - 15 := IntWalk.i64_in _ (by omega)
          have e3 : IntKind.i64.wrap ((k : Int) - 16) = (k : Int) - 16 := IntWalk.i64_in _ (by omega)
          have l0 : 0 ≤ (k : Int) - 2 ∧ (k : Int) - 2 < 64 := by omega
          have l1 : 0 ≤ (k : Int) - 7 ∧ (k : Int) - 7 < 64 := by omega
          have l2 : 0 ≤ (k : Int) - 15 ∧ (k : Int) - 15 < 64 := by omega
          have l3 : 0 ≤ (k : Int) - 16 ∧ (k : Int) - 16 < 64 := by omega
          have l4 : 0 ≤ (k : Int) ∧ (k : Int) < 64 := by omega
          have t0 : ((k : Int) - 2).toNat = k - 2 := by omega
          have t1 : ((k : Int) - 7).toNat = k - 7 := by omega
          have t2 : ((k : Int) - 15).toNat = k - 15 := by omega
          have t3 : ((k : Int) - 16).toNat = k - 16 := by omega
          have p0 : (2 : Int) ≤ (k : Int) := by omega
          have p1 : (7 : Int) ≤ (k : Int) := by omega
          have p2 : (15 : Int) ≤ (k : Int) := by omega
          have p3 : (16 : Int) ≤ (k : Int) := by omega
          go_region_held3 (fun v => v.cell? ⟨w.heap.size + 1 + 1, k - 2, none⟩ = some (.int .u32 (n32 b0)) ∧ v.cell? ⟨w.heap.size + 1 + 1, k - 7, none⟩ = some (.int .u32 (n32 b1)) ∧ v.cell? ⟨w.heap.size + 1 + 1, k - 15, none⟩ = some (.int .u32 (n32 b2)) ∧ v.cell? ⟨w.heap.size + 1 + 1, k - 16, none⟩ = some (.int .u32 (n32 b3))) (first | go_keep | exact ⟨(World.cell?_setCell_other _ _ _ _ (by simp <;> omega)).trans c0, (World.cell?_setCell_other _ _ _ _ (by simp <;> omega)).trans c1, (World.cell?_setCell_other _ _ _ _ (by simp <;> omega)).trans c2, (World.cell?_setCell_other _ _ _ _ (by simp <;> omega)).trans c3⟩) (first | (go_at_call 78; refine (sg1_any _ _).mono ?_; rintro e w' ⟨rfl, n, rfl⟩) | (go_at_call 79; refine (sg0_any _ _).mono ?_; rintro e w' ⟨rfl, n, rfl⟩))
          clear e0 e1 e2 e3 t0 t1 t2 t3 c0 c1 c2 c3 l0 l1 l2 l3 l4 p0 p1 p2 p3
          go_wp2
          go_roundw
          case rel =>
            refine ⟨k + 1, by omega, by omega, by go_num, ?_⟩
            simp only [add_fold]
            have hv : Value.int .u32 (n32 (sg1 b0 + b1 + sg0 b2 + b3)) = v32 (next L (ws L k) k) := by
              rw [next, if_neg (by omega), H0.out, H1.out, H2.out, H3.out]; rfl
            rw [hv]
            refine ⟨(hs.arg.drewN _).other (by simp <;> omega) _, (hs.res.drewN _).other (by simp <;> omega) _, ?_, (below_drewN hs.old _).setCell (by simp <;> omega) _⟩
            rw [← wsZ_set L k (by omega)]
            exact (hs.row.drewN _).set k _
          case measure => simp [intOf] <;> omega
        · have hk16 : k = 64 := by omega
          subst hk16
          clear hk hlt hk0
          have hw : wsZ L 64 = (ws L 64).map v32 := by simp [wsZ]
          have hrow := hs.row
          have hres := hs.res
          rw [hw] at hrow
          have hlen : ((ws L 64).map v32).length = 64 := by simp [ws_length]
          have h1c := oneCell_map v32 (fun _ => rfl) (ws L 64)
          generalize hR : (ws L 64).map v32 = R at *
          have H1c := Lib.hid h1c
          have HRR := Lib.hid hR
          clear h1c hR
          have H := Lib.hid hw
          have HL := Lib.hid hlen
          clear hw hlen
          unfold Row at hrow hres
          have HR := Lib.hid hrow
          have HS := Lib.hid hres
          clear hrow hres
          go_wp2_with (first
            | (refine wpList_load_row rfl 57 _ rfl (w.heap.size + 1 + 1) rfl _ _ _ _ HR.out Tryd.underlying57 rfl (by rw [List.size_toArray, HL.out]; kernel_rfl) ?_)
            | (refine wpList_store_row rfl 57 _ _ rfl (w.heap.size + 1) R.toArray rfl rfl _ _ HS.out (by rw [List.size_toArray, HL.out]; kernel_rfl) (by simp [HL.out]) H1c.out ?_))
          refine bodyPost_ret (v := .agg R.toArray) (results_cell_row rfl _ _ (w.heap.size + 1) _ R.toArray _ _ rfl (setRow_heap wr (w.heap.size + 1) _ _ _ _ HS.out) Tryd.underlying57 rfl (by rw [List.size_toArray, HL.out]; kernel_rfl)) rfl ⟨by rw [HRR.out], ?_⟩
          exact below_setRow hs.old (by omega) _
end Go.Proofs.YtjejldfpehaacaaDoor
