/-
  What digest.Parse answers.
-/
import Derived.Test.YtknfpfhbplmffaaDoorDigPrint
import Derived.Test.YtknfpfhbplmffaaDoorShelf
namespace Go.Proofs.YtknfpfhbplmffaaDoor
open Go.RowKit Sh

def Dg.orZero (o : Option (List UInt8)) : List UInt8 := o.getD (List.replicate 32 0)
theorem Dg.orZero_length (s : List UInt8) : (Dg.orZero (Dg.parse s)).length = 32 := by
  unfold Dg.orZero
  cases h : Dg.parse s with
  | none => rfl
  | some d => exact (Dg.parse_some h).2

theorem index_str (t : List UInt8) (k : Nat) (hk : k < t.length) (W : World) : (Instr.index 9 (.string ⟨t.toArray⟩) (.int .i64 (k : Int))).run Tryd.prog W = .ok (.int .u8 (n8 (t.getD k 0))) W := by
  have e : (⟨t.toArray⟩ : ByteArray)[k]? = some (t.getD k 0) := by
    rw [getElem?_pos _ k (show k < t.toArray.size by simpa using hk)]
    simp [ByteArray.getElem_eq_getElem_data, List.getD, hk]
  simp [Instr.index, run_underlying Tryd.underlying9, asIntOf, Result.andThen, Sem.run_pure, e, n8]

theorem results_row_tmp {P : Program} {fn : Func} {p u : Tmp} {ty : TypeId} (h : fn.results = #[.cell p ty, .tmp u]) (tmps : Array Value) (w : World) (g : Nat) (t : TypeId) (cs : Array Value) (fr : Nat × Nat) (d : TypeDesc)
    (hp : tmps.getD p undef = .pointer (some ⟨g, 0, none⟩)) (hrow : w.heap[g]? = some (.cells cs t fr)) (hu : P.underlying ty = some d) (hd : (match d with | .struct _ | .array _ _ => true | _ => false) = true) (hi : (P.info? ty).map (·.size) = some cs.size) :
    (results fn tmps).run P w = .ok (.tuple #[.agg cs, tmps.getD u undef]) w := by
  rw [results_cell_tmp h, hp]
  simp [asAddr, Sem.run_pure, Result.andThen, run_loadVar_row w g t ty cs fr d hrow hu hd hi]

structure ParseAt (w wr : World) (t p : List UInt8) (k : Nat) : Prop where
  res : Row wr w.heap.size 25 (List.replicate 32 (v8 0))
  row : Row wr (w.heap.size + 1) 25 ((p ++ List.replicate (32 - k) 0).map v8)
  len : p.length = k
  below : Below w.heap.size w wr
  un : Dg.unpair t = (Dg.unpair (t.drop (2 * k))).map (p ++ ·)

theorem drop_two (t : List UInt8) (k : Nat) (ht : t.length = 64) (hk : k < 32) : t.drop (2 * k) = t.getD (2 * k) 0 :: t.getD (2 * k + 1) 0 :: t.drop (2 * (k + 1)) := by
  rw [List.drop_eq_getElem_cons (by omega), List.drop_eq_getElem_cons (by omega), show 2 * k + 1 + 1 = 2 * (k + 1) by omega]
  simp [List.getD, ht, show 2 * k < 64 by omega, show 2 * k + 1 < 64 by omega]
theorem un_bad {w wr : World} {t p : List UInt8} {k : Nat} (h : ParseAt w wr t p k) (ht : t.length = 64) (hk : k < 32) (hv : Dg.val (t.getD (2 * k) 0) < 0 ∨ Dg.val (t.getD (2 * k + 1) 0) < 0) : Dg.unpair t = none := by
  rw [h.un, drop_two t k ht hk, Dg.unpair, if_pos hv]; rfl
theorem un_good {w wr : World} {t p : List UInt8} {k : Nat} (h : ParseAt w wr t p k) (ht : t.length = 64) (hk : k < 32) (hv : ¬ (Dg.val (t.getD (2 * k) 0) < 0 ∨ Dg.val (t.getD (2 * k + 1) 0) < 0)) :
    Dg.unpair t = (Dg.unpair (t.drop (2 * (k + 1)))).map ((p ++ [Dg.byteOf (t.getD (2 * k) 0) (t.getD (2 * k + 1) 0)]) ++ ·) := by
  rw [h.un, drop_two t k ht hk, Dg.unpair, if_neg hv, Option.map_map]
  congr 1
  funext l
  simp
theorem ParseAt.set {p : List UInt8} {k : Nat} (h : p.length = k) (hk : k < 32) (x : UInt8) : ((p ++ List.replicate (32 - k) 0).map v8).set k (v8 x) = ((p ++ [x]) ++ List.replicate (32 - (k + 1)) 0).map v8 := by
  rw [← List.map_set, List.set_append_right _ _ (by omega), h, Nat.sub_self, show 32 - k = (32 - (k + 1)) + 1 by omega, List.replicate_succ, List.set_cons_zero]
  simp

theorem cut_any (s : List UInt8) (W : World) : Calls Tryd.prog 32 #[.string ⟨s.toArray⟩, .string ⟨#[115, 104, 97, 50, 53, 54, 58]⟩] W fun e w' => e = .returned (.tuple #[.string ⟨(Lib.trimPrefix s Dg.pre).toArray⟩, .bool (Lib.hasPrefix s Dg.pre)]) ∧ w' = W :=
  Tryd.strings_CutPrefix ⟨s.toArray⟩ ⟨#[115, 104, 97, 50, 53, 54, 58]⟩ W
theorem idx_any (x : UInt8) (W : World) : Calls Tryd.prog 33 #[.string ⟨#[48, 49, 50, 51, 52, 53, 54, 55, 56, 57, 97, 98, 99, 100, 101, 102]⟩, .int .u8 (n8 x)] W fun e w' => e = .returned (.int .i64 (Dg.val x)) ∧ w' = W := by
  have h := Tryd.strings_IndexByte ⟨#[48, 49, 50, 51, 52, 53, 54, 55, 56, 57, 97, 98, 99, 100, 101, 102]⟩ (n8 x) W
  have e : (n8 x).toNat.toUInt8 = x := by rw [n8, Int.toNat_natCast, Nat.toUInt8, UInt8.ofNat_toNat]
  rw [e] at h
  exact h
theorem or_nibbles_nat : ∀ a, a < 16 → ∀ b, b < 16 → bits .or .i64 ((a : Nat) * 16 : Int) (b : Nat) % 256 = ((16 * a + b : Nat) : Int) := by decide +kernel
theorem or_nibbles (a b : Int) (a0 : 0 ≤ a) (a1 : a < 16) (b0 : 0 ≤ b) (b1 : b < 16) (z : UInt8) (hz : z = UInt8.ofNat (16 * a.toNat + b.toNat)) : Value.int .u8 (bits .or .i64 (a * 16) b % 256) = v8 z := by
  obtain ⟨n, rfl⟩ := Int.eq_ofNat_of_zero_le a0
  obtain ⟨m, rfl⟩ := Int.eq_ofNat_of_zero_le b0
  have h := or_nibbles_nat n (by omega) m (by omega)
  rw [h, hz, v8, n8, UInt8.toNat_ofNat', Int.toNat_natCast, Int.toNat_natCast, Nat.mod_eq_of_lt (by omega)]
theorem built_zero : Tryd.prog.built 25 [] = some (List.replicate 32 (v8 0)).toArray := by kernel_rfl
theorem zero32 : (Dg.orZero none).map v8 = List.replicate 32 (v8 0) := rfl

set_option maxRecDepth 100000 in
set_option maxHeartbeats 1000000 in
theorem parse_any (s : List UInt8) (w : World) :
    Calls Tryd.prog 20 #[.string ⟨s.toArray⟩] w fun e w' => e = .returned (.tuple #[.agg ((Dg.orZero (Dg.parse s)).map v8).toArray, .bool (Dg.parse s).isSome]) ∧ Below w.heap.size w w' := by
  have hcut := cut_any s
  have hps : Dg.parse s = if Lib.hasPrefix s Dg.pre = true ∧ (Lib.trimPrefix s Dg.pre).length = 64 then Dg.unpair (Lib.trimPrefix s Dg.pre) else none := rfl
  have hle := Lib.trimPrefix_le s Dg.pre
  generalize hT : Lib.trimPrefix s Dg.pre = T at *
  generalize hP : Dg.parse s = P at *
  have HP := Lib.hid hps
  have HC := Lib.hid hcut
  clear hps hcut hT hP
  have hz32 := zero32
  by_cases hpre : Lib.hasPrefix s Dg.pre = true
  · by_cases hl : T.length = 64
    · have hPP : P = Dg.unpair T := by rw [HP.out, if_pos ⟨hpre, hl⟩]
      have hl' : ((T.length : Int) != 64) = false := by rw [bne_eq_false_iff_eq]; omega
      have HL := Lib.hid hl
      have HPP := Lib.hid hPP
      clear hl hPP
      have hb := built_zero
      have hZl : (List.replicate 32 (v8 0)).length = 32 := rfl
      have hZ1 := oneCell_map v8 (fun _ => rfl) (List.replicate 32 0)
      rw [List.map_replicate] at hZ1
      clear hz32
      generalize hZ : List.replicate 32 (v8 0) = Z at *
      have HZ := Lib.hid hZ
      have HB := Lib.hid hb
      have HZL := Lib.hid hZl
      have HZ1 := Lib.hid hZ1
      clear hZ hb hZl hZ1
      go_enter Tryd.func20, Tryd.ntmps20
      go_wp2_with (first
        | (go_at_call 32; go_must (refine (HC.out _).mono ?_; rintro e w2 ⟨rfl, rfl⟩)))
      have h0 : ParseAt w ((w.alloc (.cells (List.replicate 32 (v8 0)).toArray 25)).alloc (.cells (List.replicate 32 (v8 0)).toArray 25)) T [] 0 :=
        ⟨(Row.at_ _ _ _ rfl rfl).alloc _, Row.at_ _ _ _ rfl (by simp), rfl, ((Below.refl _ _).alloc (Nat.le_refl _) _).alloc (by simp) _, by cases h : Dg.unpair T <;> simp [h]⟩
      have H0 := Lib.hid h0
      clear h0
      go_loopw [23] (fun i wr => ∃ (k : Nat) (p : List UInt8), k ≤ 32 ∧ i = .int .i64 k ∧ Hid (ParseAt w wr T p k)) (fun i _ => 32 - (intOf i).toNat)
      case atStart => exact ⟨0, [], Nat.zero_le _, rfl, H0⟩
      case round =>
        obtain ⟨k, p, hk, rfl, hs⟩ := hrel
        by_cases hlt : k < 32
        · have l0 : 0 ≤ (k : Int) ∧ (k : Int) < 32 := by omega
          have hi1 : ∀ W, (Instr.index 9 (.string ⟨T.toArray⟩) (.int .i64 (2 * (k : Int)))).run Tryd.prog W = .ok (.int .u8 (n8 (T.getD (2 * k) 0))) W := fun W => by
            have h := index_str T (2 * k) (by rw [HL.out]; omega) W
            rwa [Int.natCast_mul] at h
          have hi2 : ∀ W, (Instr.index 9 (.string ⟨T.toArray⟩) (.int .i64 (2 * (k : Int) + 1))).run Tryd.prog W = .ok (.int .u8 (n8 (T.getD (2 * k + 1) 0))) W := fun W => by
            have h := index_str T (2 * k + 1) (by rw [HL.out]; omega) W
            rwa [Int.natCast_add, Int.natCast_mul] at h
          have hbad := un_bad hs.out HL.out hlt
          have hgood := un_good hs.out HL.out hlt
          generalize hx : T.getD (2 * k) 0 = x at *
          generalize hy : T.getD (2 * k + 1) 0 = y at *
          have hcx := idx_any x
          have hcy := idx_any y
          have hbo : Dg.byteOf x y = UInt8.ofNat (16 * (Dg.val x).toNat + (Dg.val y).toNat) := rfl
          have rx := Dg.val_range x
          have ry := Dg.val_range y
          generalize hvx : Dg.val x = vx at *
          generalize hvy : Dg.val y = vy at *
          have HBAD := Lib.hid hbad
          have HGOOD := Lib.hid hgood
          have HBO := Lib.hid hbo
          have HCX := Lib.hid hcx
          have HCY := Lib.hid hcy
          clear hx hy hbad hgood hvx hvy hcx hcy hbo
          obtain ⟨rx0, rx1⟩ := rx
          obtain ⟨ry0, ry1⟩ := ry
          go_wp2_with fail
          refine (HCX.out _).mono ?_
          rintro e w3 ⟨rfl, rfl⟩
          go_wp2_with fail
          refine (HCY.out _).mono ?_
          rintro e w4 ⟨rfl, rfl⟩
          by_cases hbd : vx < 0 ∨ vy < 0
          · have hPn : P = none := by rw [HPP.out, HBAD.out hbd]
            subst hPn
            have HZE : Hid ((Dg.orZero none).map v8 = Z) := zero32.trans HZ.out
            have hz : Row w4 w.heap.size 25 (List.replicate 32 (v8 0)) := hs.out.res
            rw [HZ.out] at hz
            have HZR := Lib.hid hz
            clear hz
            have hbdB : (decide (vx < 0) || decide (vy < 0)) = true := by simpa using hbd
            go_wp2_with (first
              | ((with_reducible refine wpList_build_is ?_ 25 #[] ?_ Z.toArray ?_ ?_); rfl; rfl; go_must (refine Eq.trans ?_ HB.out; kernel_rfl))
              | ((with_reducible refine wpList_store_row ?_ 25 (.tmp 2) (.tmp 43) ?_ w.heap.size Z.toArray ?_ ?_ 25 Z.toArray ?_ ?_ ?_ HZ1.out ?_); rfl; rfl; go_must (rfl; rfl; exact HZR.out; (rw [List.size_toArray, HZL.out]; kernel_rfl); rfl)))
            all_goals exact bodyPost_ret (v := .tuple #[.agg Z.toArray, .bool false]) (results_row_tmp (fn := Tryd.f20) (p := 2) (u := 3) rfl _ _ w.heap.size _ Z.toArray _ _ rfl (setRow_heap _ w.heap.size _ _ _ _ HZR.out) Tryd.underlying25 rfl (by rw [List.size_toArray, HZL.out]; kernel_rfl)) rfl ⟨by first | (rw [HZE.out]; rfl) | rw [HZE.out], below_setRow hs.out.below (Nat.le_refl _) _⟩
          · have hu : Dg.byteOf x y = UInt8.ofNat (16 * vx.toNat + vy.toNat) := HBO.out
            have g1 : ¬ vx < 0 := fun h => hbd (.inl h)
            have g2 : ¬ vy < 0 := fun h => hbd (.inr h)
            obtain ⟨u, hc1⟩ : ∃ u, w4.cell? ⟨w.heap.size + 1, k, none⟩ = some u := ⟨_, hs.out.row.cell (List.getElem?_eq_getElem (by rw [List.length_map, List.length_append, List.length_replicate, hs.out.len]; omega))⟩
            have f1 := hs.out.row.frozen k
            have HU := Lib.hid hu
            have HBD := Lib.hid hbd
            clear hu hbd
            go_wp2_with fail
            have hv : Value.int .u8 (bits .or .i64 (vx * 16) vy % 256) = v8 (Dg.byteOf x y) := or_nibbles vx vy (by omega) rx1 (by omega) ry1 _ HU.out
            go_roundw
            case rel =>
              refine ⟨k + 1, p ++ [Dg.byteOf x y], by omega, by go_num, hs.out.res.other (by simp) _, ?_, by rw [List.length_append, hs.out.len]; rfl, hs.out.below.setCell (by simp) _, HGOOD.out HBD.out⟩
              rw [hv, ← ParseAt.set hs.out.len hlt]
              exact hs.out.row.set k _
            case measure => simp [intOf] <;> omega
        · have hge : (32 : Int) ≤ (k : Int) := by omega
          have hk32 : k = 32 := by omega
          have hw : Row wr (w.heap.size + 1) 25 (p.map v8) := by have h := hs.out.row; rwa [hk32, show 32 - 32 = 0 from rfl, List.replicate_zero, List.append_nil] at h
          have hz : Row wr w.heap.size 25 (List.replicate 32 (v8 0)) := hs.out.res
          have hPp : P = some p := by
            rw [HPP.out, hs.out.un, hk32, List.drop_of_length_le (by rw [HL.out]; omega)]
            simp [Dg.unpair]
          subst hPp
          have hl : (p.map v8).length = 32 := by rw [List.length_map, hs.out.len]; omega
          have h1 := oneCell_map v8 (fun _ => rfl) p
          have ho : (Dg.orZero (some p)).map v8 = p.map v8 := rfl
          generalize hDD : p.map v8 = D at *
          have HO := Lib.hid ho
          clear ho
          unfold Row at hw hz
          have HW := Lib.hid hw
          have HZR := Lib.hid hz
          have HDL := Lib.hid hl
          have H1 := Lib.hid h1
          clear hw hz hl h1 hk32 hDD
          go_wp2_with (first
            | ((with_reducible refine wpList_load_row ?_ 25 (.tmp 6) ?_ (w.heap.size + 1) ?_ 25 D.toArray (0, 0) (.array 32 5) ?_ ?_ ?_ ?_ ?_); rfl; rfl; go_must (rfl; exact HW.out; exact Tryd.underlying25; rfl; (simp only [List.size_toArray, HDL.out]; kernel_rfl)))
            | ((with_reducible refine wpList_store_row ?_ 25 (.tmp 2) (.tmp 52) ?_ w.heap.size D.toArray ?_ ?_ 25 (List.replicate 32 (v8 0)).toArray ?_ ?_ ?_ ?_ ?_); rfl; rfl; go_must (rfl; rfl; exact HZR.out; (simp only [List.size_toArray, HDL.out]; kernel_rfl); (simp only [List.size_toArray, List.length_replicate, HDL.out]); exact H1.out)))
          exact bodyPost_ret (v := .tuple #[.agg D.toArray, .bool true]) (results_row_tmp (fn := Tryd.f20) (p := 2) (u := 3) rfl _ _ w.heap.size _ D.toArray _ _ rfl (setRow_heap _ w.heap.size _ _ _ _ HZR.out) Tryd.underlying25 rfl (by rw [List.size_toArray, HDL.out]; kernel_rfl)) rfl ⟨by rw [HO.out]; rfl, below_setRow hs.out.below (Nat.le_refl _) _⟩
    · have hPn : P = none := by rw [HP.out, if_neg (fun h => hl h.2)]
      subst hPn
      rw [hz32]
      have hl' : ((T.length : Int) != 64) = true := by rw [bne_iff_ne]; omega
      have HL := Lib.hid hl
      clear hl
      have hb := built_zero
      have hZl : (List.replicate 32 (v8 0)).length = 32 := rfl
      have hZ1 := oneCell_map v8 (fun _ => rfl) (List.replicate 32 0)
      rw [List.map_replicate] at hZ1
      clear hz32
      generalize hZ : List.replicate 32 (v8 0) = Z at *
      have HZ := Lib.hid hZ
      have HB := Lib.hid hb
      have HZL := Lib.hid hZl
      have HZ1 := Lib.hid hZ1
      clear hZ hb hZl hZ1
      go_enter Tryd.func20, Tryd.ntmps20
      go_wp2_with (first
        | (go_at_call 32; go_must (refine (HC.out _).mono ?_; rintro e w2 ⟨rfl, rfl⟩))
        | ((with_reducible refine wpList_build_is ?_ 25 #[] ?_ Z.toArray ?_ ?_); rfl; rfl; go_must (refine Eq.trans ?_ HB.out; kernel_rfl))
        | ((with_reducible refine wpList_store_row ?_ 25 (.tmp 2) (.tmp 22) ?_ w.heap.size Z.toArray ?_ ?_ 25 Z.toArray ?_ ?_ ?_ HZ1.out ?_); rfl; rfl; go_must (rfl; rfl; (rw [← HZ.out]; exact Row.at_ _ _ _ rfl rfl); (rw [List.size_toArray, HZL.out]; kernel_rfl); rfl)))
      have hr : Row (w.alloc (.cells (List.replicate 32 (v8 0)).toArray 25)) w.heap.size 25 (List.replicate 32 (v8 0)) := Row.at_ _ _ _ rfl rfl
      exact bodyPost_ret (v := .tuple #[.agg Z.toArray, .bool false]) (results_row_tmp (fn := Tryd.f20) (p := 2) (u := 3) rfl _ _ w.heap.size _ Z.toArray _ _ rfl (setRow_heap _ w.heap.size _ _ _ _ hr) Tryd.underlying25 rfl (by rw [List.size_toArray, HZL.out]; kernel_rfl)) rfl ⟨rfl, below_setRow ((Below.refl _ _).alloc (Nat.le_refl _) _) (Nat.le_refl _) _⟩
  · have hPn : P = none := by rw [HP.out, if_neg (fun h => hpre h.1)]
    subst hPn
    rw [hz32]
    have hpre' : Lib.hasPrefix s Dg.pre = false := by simpa using hpre
    clear hpre
    have hb := built_zero
    have hZl : (List.replicate 32 (v8 0)).length = 32 := rfl
    have hZ1 := oneCell_map v8 (fun _ => rfl) (List.replicate 32 0)
    rw [List.map_replicate] at hZ1
    clear hz32
    generalize hZ : List.replicate 32 (v8 0) = Z at *
    have HZ := Lib.hid hZ
    have HB := Lib.hid hb
    have HZL := Lib.hid hZl
    have HZ1 := Lib.hid hZ1
    clear hZ hb hZl hZ1
    go_enter Tryd.func20, Tryd.ntmps20
    go_wp2_with (first
      | (go_at_call 32; go_must (refine (HC.out _).mono ?_; rintro e w2 ⟨rfl, rfl⟩))
      | ((with_reducible refine wpList_build_is ?_ 25 #[] ?_ Z.toArray ?_ ?_); rfl; rfl; go_must (refine Eq.trans ?_ HB.out; kernel_rfl))
      | ((with_reducible refine wpList_store_row ?_ 25 (.tmp 2) (.tmp 22) ?_ w.heap.size Z.toArray ?_ ?_ 25 Z.toArray ?_ ?_ ?_ HZ1.out ?_); rfl; rfl; go_must (rfl; rfl; (rw [← HZ.out]; exact Row.at_ _ _ _ rfl rfl); (rw [List.size_toArray, HZL.out]; kernel_rfl); rfl)))
    have hr : Row (w.alloc (.cells (List.replicate 32 (v8 0)).toArray 25)) w.heap.size 25 (List.replicate 32 (v8 0)) := Row.at_ _ _ _ rfl rfl
    exact bodyPost_ret (v := .tuple #[.agg Z.toArray, .bool false]) (results_row_tmp (fn := Tryd.f20) (p := 2) (u := 3) rfl _ _ w.heap.size _ Z.toArray _ _ rfl (setRow_heap _ w.heap.size _ _ _ _ hr) Tryd.underlying25 rfl (by rw [List.size_toArray, HZL.out]; kernel_rfl)) rfl ⟨rfl, below_setRow ((Below.refl _ _).alloc (Nat.le_refl _) _) (Nat.le_refl _) _⟩
end Go.Proofs.YtknfpfhbplmffaaDoor
