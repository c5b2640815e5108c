/-
  The reference's numbers.
-/
import Derived.Test.YthakeahpaogikaaDoorHdText
namespace Go.Proofs.YthakeahpaogikaaDoor
open Go.RowKit Sh Oc Hd

/-- The fields that hold numbers, but for the sum. -/
def ix : Nat → Nat
  | 0 => 1 | 1 => 2 | 2 => 3 | 3 => 4 | 4 => 5 | 5 => 10 | _ => 11
theorem ix_lt : ∀ k < 7, ix k < 13 ∧ ho (ix k) = 1 := by decide
def numL (f : Nat → Int) : List Value := (List.range 7).map fun i => .int .i64 (f i)
theorem numL_len (f : Nat → Int) : (numL f).length = 7 := by simp [numL]
theorem numL_get (f : Nat → Int) {k : Nat} (h : k < 7) : (numL f)[k]? = some (.int .i64 (f k)) := by
  rw [numL, List.getElem?_map, List.getElem?_range h]; rfl
theorem numL_one (f : Nat → Int) : (numL f).toArray.all (·.oneCell') = true := by
  apply all_oneCell_toArray
  intro v hv
  obtain ⟨i, _, rfl⟩ := List.mem_map.1 hv
  rfl
theorem numL_step (f : Nat → Int) {k : Nat} (h : k < 7) : (numL (upTo k f 0)).set k (.int .i64 (f k)) = numL (upTo (k + 1) f 0) := by
  apply List.ext_getElem?
  intro i
  rw [List.getElem?_set, numL_len]
  by_cases hi : k = i
  · subst hi
    rw [if_pos rfl, if_pos h, numL_get _ h, upTo, if_pos (by omega)]
  · rw [if_neg hi]
    by_cases h7 : i < 7
    · rw [numL_get _ h7, numL_get _ h7, upTo, upTo]
      by_cases h2 : i < k
      · rw [if_pos h2, if_pos (by omega)]
      · rw [if_neg h2, if_neg (by omega)]
    · rw [List.getElem?_eq_none (by rw [numL_len]; omega), List.getElem?_eq_none (by rw [numL_len]; omega)]
theorem numL_all (f : Nat → Int) : numL (upTo 7 f 0) = numL f := by
  unfold numL
  apply List.map_congr_left
  intro i hi
  rw [upTo, if_pos (List.mem_range.1 hi)]
theorem info49 {D : List Value} (h : D.length = 7) : (Tryd.prog.info? 49).map (·.size) = some D.length := by rw [h]; kernel_rfl
def numsOk (bs : List UInt8) : Bool := (List.range 7).all fun i => okOf bs (ix i)
def numsV (bs : List UInt8) : Value := .agg (numL (if numsOk bs = true then fun i => nmOf bs (ix i) else fun _ => 0)).toArray
theorem numsOk_iff (bs : List UInt8) : numsOk bs = true ↔ ∀ i < 7, okOf bs (ix i) = true := by
  unfold numsOk
  rw [List.all_eq_true]
  exact ⟨fun h k hk => h k (List.mem_range.2 hk), fun h k hk => h k (List.mem_range.1 hk)⟩
def atF (k : Nat) : Int := ((fr (ix k) : Nat) : Int)
def szF (k : Nat) : Int := ((ct (ix k) : Nat) : Int)
theorem built49 : Tryd.prog.built 49 [] = some (numL fun _ => 0).toArray := by kernel_rfl

structure NuAt (w wr : World) (ga gs g : Nat) (D : List Value) : Prop where
  res : Row wr w.heap.size 49 (numL fun _ => 0)
  at_ : Row wr ga 49 (numL atF)
  sz : Row wr gs 49 (numL szF)
  out : Row wr g 49 D
  kept : Kept w wr (fun _ => False)
  lt : w.heap.size < ga ∧ ga < gs ∧ gs < g
theorem NuAt.drewN {w wr : World} {ga gs g : Nat} {D : List Value} (h : NuAt w wr ga gs g D) (n : Nat) : NuAt w (wr.drewN n) ga gs g D :=
  ⟨h.res.drewN n, h.at_.drewN n, h.sz.drewN n, h.out.drewN n, kept_trans h.kept (kept_below (below_drewN (Below.refl _ _) n)), h.lt⟩
theorem NuAt.set {w wr : World} {ga gs g : Nat} {D : List Value} (h : NuAt w wr ga gs g D) (i : Nat) (v : Value) : NuAt w (wr.setCell ⟨g, i, none⟩ v) ga gs g (D.set i v) := by
  have hk : Kept wr (wr.setCell ⟨g, i, none⟩ v) (· = g) := (Kept.refl wr (· = g)).setCell (a := ⟨g, i, none⟩) (.inr rfl) v
  have := h.lt
  exact ⟨hk.row h.res (by omega), hk.row h.at_ (by omega), hk.row h.sz (by omega), h.out.set i v, h.kept.setCell (.inl (by show w.heap.size ≤ g; omega)) _, h.lt⟩

set_option maxRecDepth 100000 in
set_option maxHeartbeats 4000000 in
theorem nums_any (w : World) (b o c : Nat) (bs : List UInt8) (S : BytesAt w (some ⟨b, o, none⟩) 512 c bs) (hm : c ≤ maxLen) :
    Calls Tryd.prog 23 #[.slice (some ⟨b, o, none⟩) 512 c] w fun e w' => e = .returned (.tuple #[numsV bs, .bool (numsOk bs)]) ∧ Hid (Below w.heap.size w w') := by
  have HS := Lib.hid S
  have HA := Lib.hid (numsOk_iff bs)
  have hcap := S.cap
  clear S
  unfold maxLen at hm
  go_enter Tryd.func23, Tryd.ntmps23
  go_upto_region 1 with fail
  have R0 : Hid (Row (w.alloc (Obj.cells (numL fun _ => 0).toArray 49)) w.heap.size 49 (numL fun _ => 0)) := Lib.hid (Row.new _ _ _)
  have K0 : Hid (Below w.heap.size w (w.alloc (Obj.cells (numL fun _ => 0).toArray 49))) := Lib.hid ((Below.refl _ _).alloc (Nat.le_refl _) _)
  have E0 : Hid ((w.alloc (Obj.cells (numL fun _ => 0).toArray 49)).heap.size = w.heap.size + 1) := Lib.hid (by simp)
  generalize hW0 : w.alloc (Obj.cells (numL fun _ => 0).toArray 49) = w0 at R0 K0 E0
  generalize hW : World.alloc _ _ = W'
  obtain rfl : w0 = W' := hW0.symm.trans hW
  clear hW hW0
  go_upto_region 2 with ((with_reducible refine store_all ?_ 49 (.tmp 4) (.tmp 10) ?_ w0.heap.size (numL atF) ?_ ?_ (numL fun _ => 0) ?_ ?_ ?_ ?_ ?_); rfl; rfl; go_must (rfl; rfl; rfl; exact Row.at_ _ _ _ rfl rfl; exact info49 (numL_len _); exact numL_one _; intro w1 R1 K1 E1))
  have L1 : Hid (Row w1 w.heap.size 49 (numL fun _ => 0) ∧ Kept w w1 (fun _ => False) ∧ w1.heap.size = w0.heap.size + 1) := Lib.hid ⟨(kept_stored K1.out).row R0.out (fun h => h), kept_trans (kept_below K0.out) (kept_stored K1.out), by rw [E1.out]; simp⟩
  have Z0 : Hid (w.heap.size < w0.heap.size) := Lib.hid (by have := E0.out; omega)
  clear R0 K0 E0 K1 E1
  generalize w0.heap.size = ga at R1 L1 Z0 ⊢
  go_upto_region 3 with ((with_reducible refine store_all ?_ 49 (.tmp 5) (.tmp 11) ?_ w1.heap.size (numL szF) ?_ ?_ (numL fun _ => 0) ?_ ?_ ?_ ?_ ?_); rfl; rfl; go_must (rfl; rfl; rfl; exact Row.at_ _ _ _ rfl rfl; exact info49 (numL_len _); exact numL_one _; intro w2 R2 K2 E2))
  have L2 : Hid (Row w2 w.heap.size 49 (numL fun _ => 0) ∧ Row w2 ga 49 (numL atF) ∧ Kept w w2 (fun _ => False) ∧ w2.heap.size = w1.heap.size + 1) := Lib.hid ⟨(kept_stored K2.out).row L1.out.1 (fun h => h), (kept_stored K2.out).row R1.out (fun h => h), kept_trans L1.out.2.1 (kept_stored K2.out), by rw [E2.out]; simp⟩
  have Z1 : Hid (ga < w1.heap.size) := Lib.hid (by have := L1.out.2.2; omega)
  clear R1 L1 K2 E2
  generalize w1.heap.size = gs at R2 L2 Z1 ⊢
  go_upto_region 4 with fail
  have NU : Hid (NuAt w (w2.alloc (Obj.cells (numL fun _ => 0).toArray 49)) ga gs w2.heap.size (numL fun _ => 0)) := Lib.hid ⟨(kept_alloc _ _).row L2.out.1 (fun h => h), (kept_alloc _ _).row L2.out.2.1 (fun h => h), (kept_alloc _ _).row R2.out (fun h => h), Row.new _ _ _, kept_trans L2.out.2.2.1 (kept_alloc _ _), by have := Z0.out; have := Z1.out; have := L2.out.2.2.2; omega⟩
  generalize hW0 : w2.alloc (Obj.cells (numL fun _ => 0).toArray 49) = w3 at NU
  generalize hW : World.alloc _ _ = W'
  obtain rfl : w3 = W' := hW0.symm.trans hW
  clear hW hW0 L2 R2 Z0 Z1
  generalize w2.heap.size = g at NU ⊢
  go_wp2_with fail
  go_loopw [7] (fun i wr => ∃ k : Nat, k ≤ 7 ∧ i = .int .i64 k ∧ Hid (∀ j, j < k → okOf bs (ix j) = true) ∧ Hid (NuAt w wr ga gs g (numL (upTo k (fun i => nmOf bs (ix i)) 0)))) (fun i _ => 7 - (intOf i).toNat)
  case atStart => exact ⟨0, Nat.zero_le _, rfl, Lib.hid (fun j h => absurd h (Nat.not_lt_zero _)), Lib.hid (by rw [upTo_zero]; exact NU.out)⟩
  case round =>
    obtain ⟨k, hk, rfl, HO, HN⟩ := hrel
    by_cases hlt : k < 7
    · have hlt' : (k : Int) < 7 := by omega
      have hix := ix_lt k hlt
      have hfr := fr_in (ix k) hix.1
      have hct := ct_le (ix k) hix.1
      have ca : wr.cell? ⟨ga, k, none⟩ = some (.int .i64 ((fr (ix k) : Nat) : Int)) := HN.out.at_.cell (numL_get _ hlt)
      have cs : wr.cell? ⟨gs, k, none⟩ = some (.int .i64 ((ct (ix k) : Nat) : Int)) := HN.out.sz.cell (numL_get _ hlt)
      have HC := Lib.hid (fun m => rread_any (wr.drewN m) (some ⟨b, o + fr (ix k), none⟩) (ct (ix k)) (c - fr (ix k)) (seg (fr (ix k)) (ct (ix k)) bs) (((HS.out.kept HN.out.kept (fun _ _ _ _ h => h)).below (below_drewN (Below.refl _ _) m)).seg (fr (ix k)) (ct (ix k)) (by omega) hct.1) (by omega))
      rw [refF_eq] at HC
      unfold two at HC
      rw [← show nmOf bs (ix k) = (((readF (seg (fr (ix k)) (ct (ix k)) bs)).getD 0 : Nat) : Int) from if_pos hix.2, ← show okOf bs (ix k) = (readF (seg (fr (ix k)) (ct (ix k)) bs)).isSome by unfold okOf; rw [hix.2]; rfl] at HC
      have HIX := Lib.hid hix
      clear hix
      have e1 : ((fr (ix k) : Nat) : Int) + ((ct (ix k) : Nat) : Int) = ((fr (ix k) + ct (ix k) : Nat) : Int) := by omega
      generalize fr (ix k) = f at *
      generalize ct (ix k) = z at *
      have l1 : (f : Int) ≤ (f : Int) + (z : Int) := by omega
      have l2 : (f : Int) + (z : Int) ≤ (c : Int) := by omega
      have hne : ¬ c = f := by omega
      have ez : f + z - f = z := by omega
      clear e1
      go_upto_region 7 with fail
      go_quiet ((go_at_call 21; exact Calls.quiet_of_same (HC.out _)))
      have N2 := Lib.hid (HN.out.drewN nq)
      generalize wr.drewN nq = w5 at N2 ⊢
      clear HC ca cs HN l1 l2 hne ez
      cases hok : okOf bs (ix k) with
      | true =>
        have hc := N2.out.out.cell (numL_get (upTo k (fun i => nmOf bs (ix i)) 0) hlt)
        have hfz := N2.out.out.frozen k
        go_upto_region 11 with fail
        have N3 : Hid (NuAt w (w5.setCell ⟨g, k, none⟩ (.int .i64 (nmOf bs (ix k)))) ga gs g (numL (upTo (k + 1) (fun i => nmOf bs (ix i)) 0))) := Lib.hid (by
          rw [← numL_step _ hlt]
          exact N2.out.set _ _)
        generalize w5.setCell _ _ = w6 at N3 ⊢
        clear N2 hc hfz
        go_wp2_with fail
        go_roundw
        case rel => exact ⟨k + 1, by omega, by go_num, Lib.hid (fun j hj => by
          rcases Nat.lt_or_eq_of_le (Nat.lt_succ_iff.1 hj) with h | h
          · exact HO.out j h
          · rw [h]; exact hok), N3⟩
        case measure => simp [intOf] <;> omega
      | false =>
        go_wp2_with (first
          | ((with_reducible refine build_all ?_ 49 #[] ?_ (numL fun _ => 0).toArray ?_ ?_); rfl; rfl; go_must (refine Eq.trans ?_ built49; kernel_rfl))
          | ((with_reducible refine store_all ?_ 49 (.tmp 2) (.tmp 34) ?_ w.heap.size (numL fun _ => 0) ?_ ?_ (numL fun _ => 0) ?_ ?_ ?_ ?_ ?_); rfl; rfl; go_must (rfl; rfl; rfl; exact N2.out.res; exact info49 (numL_len _); exact numL_one _; intro w6 R6 K6 E6)))
        have hf : numsOk bs = false := by
          cases h : numsOk bs with
          | false => rfl
          | true => have := HA.out.1 h k hlt; rw [hok] at this; cases this
        refine bodyPost_ret (v := .tuple #[.agg (numL fun _ => 0).toArray, .bool false]) (results_row_tmp (fn := Tryd.f23) (p := 2) (u := 3) rfl _ _ w.heap.size _ (numL fun _ => 0).toArray _ _ rfl R6.out Tryd.underlying49 rfl (info49 (numL_len _))) rfl ⟨by unfold numsV; rw [hf]; rfl, ?_⟩
        exact Lib.hid ((kept_fresh N2.out.kept K6.out (Nat.le_refl _)).below (Nat.le_refl _) (fun _ _ h => h))
    · obtain rfl : k = 7 := by omega
      have hok : numsOk bs = true := HA.out.2 HO.out
      rw [numL_all] at HN
      go_wp2_with (first
        | ((with_reducible refine load_all ?_ 49 (.tmp 6) ?_ g 0 (numL fun i => nmOf bs (ix i)) (numL fun i => nmOf bs (ix i)).toArray ?_ _ ?_ Tryd.underlying49 ?_ ?_ ?_ ?_); rfl; rfl; go_must (rfl; exact rangeAt_row HN.out.out; rfl; exact info49 (numL_len _); rfl))
        | ((with_reducible refine store_all ?_ 49 (.tmp 2) (.tmp 38) ?_ w.heap.size (numL fun i => nmOf bs (ix i)) ?_ ?_ (numL fun _ => 0) ?_ ?_ ?_ ?_ ?_); rfl; rfl; go_must (rfl; rfl; rfl; exact HN.out.res; exact info49 (numL_len _); exact numL_one _; intro w6 R6 K6 E6)))
      refine bodyPost_ret (v := .tuple #[.agg (numL fun i => nmOf bs (ix i)).toArray, .bool true]) (results_row_tmp (fn := Tryd.f23) (p := 2) (u := 3) rfl _ _ w.heap.size _ (numL fun i => nmOf bs (ix i)).toArray _ _ rfl R6.out Tryd.underlying49 rfl (info49 (numL_len _))) rfl ⟨by unfold numsV; rw [hok]; rfl, ?_⟩
      exact Lib.hid ((kept_fresh HN.out.kept K6.out (Nat.le_refl _)).below (Nat.le_refl _) (fun _ _ h => h))
end Go.Proofs.YthakeahpaogikaaDoor
