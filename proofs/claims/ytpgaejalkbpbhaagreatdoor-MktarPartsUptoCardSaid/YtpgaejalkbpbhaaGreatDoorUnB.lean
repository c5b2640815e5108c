/-
  untar.nodeOf.
-/
import Derived.Test.YtpgaejalkbpbhaaGreatDoorUnA
import Derived.Test.YtpgaejalkbpbhaaGreatDoorHdB
import Derived.Deep.RegionHeld
namespace Go.Proofs.YtpgaejalkbpbhaaGreatDoor
open Go.RowKit Sh Px Hd

theorem and_mask (x : Int) (k : Nat) (hk : k ≤ 32) : bits .and .i64 x ((2 ^ k : Nat) - 1 : Nat) = x % ((2 ^ k : Nat) : Int) := by
  have hp : 2 ^ k ≤ 2 ^ 32 := Nat.pow_le_pow_right (by decide) hk
  have hpos : 0 < 2 ^ k := Nat.two_pow_pos k
  change IntKind.i64.wrap (((BitVec.ofInt 64 x &&& BitVec.ofInt 64 (((2 ^ k : Nat) - 1 : Nat) : Int) : BitVec 64).toNat : Nat) : Int) = _
  rw [BitVec.toNat_and, BitVec.toNat_ofInt, BitVec.toNat_ofInt]
  have e2 : ((((2 ^ k : Nat) - 1 : Nat) : Int) % ((2 ^ 64 : Nat) : Int)).toNat = 2 ^ k - 1 := by
    rw [Int.emod_eq_of_lt (by omega) (by omega)]
    rfl
  rw [e2, Nat.and_two_pow_sub_one_eq_mod]
  have e3 : (((x % ((2 ^ 64 : Nat) : Int)).toNat % 2 ^ k : Nat) : Int) = x % ((2 ^ k : Nat) : Int) := by
    rw [Int.natCast_emod, Int.toNat_of_nonneg (Int.emod_nonneg _ (by decide))]
    exact Int.emod_emod_of_dvd x (Int.natCast_dvd_natCast.2 (Nat.pow_dvd_pow 2 (by omega)))
  rw [e3, IntKind.wrap_i64]
  have h1 := Int.emod_nonneg x (b := ((2 ^ k : Nat) : Int)) (by omega)
  have h2 := Int.emod_lt_of_pos x (b := ((2 ^ k : Nat) : Int)) (by omega)
  omega
theorem and_4095 (x : Int) : bits .and .i64 x 4095 = x % 4096 := and_mask x 12 (by decide)
theorem and_3 (x : Int) : bits .and .i64 x 3 = x % 4 := and_mask x 2 (by decide)

/-- A header's node, but for its data and its attributes. -/
def nodeE (h : H) (k : Nat) : Un.E := ⟨[], k, h.mode % 4096, h.uid, h.gid, h.mtime, if k = 2 ∨ k = 3 then h.link else [], [], if k = 4 ∨ k = 5 then h.major else 0, if k = 4 ∨ k = 5 then h.minor else 0, []⟩
theorem nodeL_one (e : Un.E) : (nodeL e).toArray.all (·.oneCell') = true := by
  apply all_oneCell_toArray
  exact fun v hv => entL_one e v (List.mem_cons_of_mem _ hv)
theorem node_one (a b c d e f g : Int) (s1 s2 s3 : ByteArray) : ([Value.int .i64 a, .int .i64 b, .int .i64 c, .int .i64 d, .int .i64 e, .string s1, .string s2, .int .i64 f, .int .i64 g, .string s3] : List Value).toArray.all (·.oneCell') = true := by
  apply all_oneCell_toArray
  intro v hv
  simp only [List.mem_cons, List.mem_nil_iff, or_false] at hv
  rcases hv with rfl | rfl | rfl | rfl | rfl | rfl | rfl | rfl | rfl | rfl <;> rfl
theorem infoN (e : Un.E) : (Tryz.prog.info? 28).map (·.size) = some (nodeL e).length := by
  have : (Tryz.prog.info? 28).map (·.size) = some 10 := by kernel_rfl
  exact this
theorem built_node (a b c d e : Int) : Tryz.prog.built 28 [(0, .int .i64 a), (1, .int .i64 b), (2, .int .i64 c), (3, .int .i64 d), (4, .int .i64 e)] = some #[.int .i64 a, .int .i64 b, .int .i64 c, .int .i64 d, .int .i64 e, .string ⟨#[]⟩, .string ⟨#[]⟩, .int .i64 0, .int .i64 0, .string ⟨#[]⟩] := by kernel_rfl
def zeroE : Un.E := ⟨[], 0, 0, 0, 0, 0, [], [], 0, 0, []⟩
theorem nodeL_zero : nodeL zeroE = [.int .i64 0, .int .i64 0, .int .i64 0, .int .i64 0, .int .i64 0, .string ⟨#[]⟩, .string ⟨#[]⟩, .int .i64 0, .int .i64 0, .string ⟨#[]⟩] := rfl
set_option maxRecDepth 100000 in
set_option maxHeartbeats 4000000 in
theorem un_nodeOf (w : World) (h : H) (k : Nat) : Calls Tryz.prog 110 #[hdV h, .int .i64 k] w fun e w' => e = .returned (.agg (nodeL (nodeE h k)).toArray) ∧ Hid (Below w.heap.size w w') := by
  have hand := and_4095 h.mode
  obtain ⟨S0, hS0⟩ : ∃ S, strV h.name = .string S := ⟨_, rfl⟩
  obtain ⟨S8, hS8⟩ : ∃ S, sb h.link = S := ⟨_, rfl⟩
  have HS8 := Lib.hid hS8
  have eL : hdV h = .agg #[.string S0, .int .i64 h.mode, .int .i64 h.uid, .int .i64 h.gid, .int .i64 h.size, .int .i64 h.mtime, .int .u8 (n8 h.typ), .string S8, .int .i64 h.major, .int .i64 h.minor] := by
    rw [← hS8]
    unfold hdV
    rw [hS0]
    rfl
  rw [eL]
  clear eL hS0 hS8
  go_enter Tryz.func110, Tryz.ntmps110
  go_upto_region 1 with fail
  have R0 : Row ((w.alloc (Obj.cells #[.string S0, .int .i64 h.mode, .int .i64 h.uid, .int .i64 h.gid, .int .i64 h.size, .int .i64 h.mtime, .int .u8 (n8 h.typ), .string S8, .int .i64 h.major, .int .i64 h.minor] 57)).alloc (Obj.cells #[.int .i64 0, .int .i64 0, .int .i64 0, .int .i64 0, .int .i64 0, .string ⟨#[]⟩, .string ⟨#[]⟩, .int .i64 0, .int .i64 0, .string ⟨#[]⟩] 28)) w.heap.size 57 [.string S0, .int .i64 h.mode, .int .i64 h.uid, .int .i64 h.gid, .int .i64 h.size, .int .i64 h.mtime, .int .u8 (n8 h.typ), .string S8, .int .i64 h.major, .int .i64 h.minor] := (kept_alloc _ _).row (Row.new _ _ _) (fun h => h)
  have R1 : Hid (Row ((w.alloc (Obj.cells #[.string S0, .int .i64 h.mode, .int .i64 h.uid, .int .i64 h.gid, .int .i64 h.size, .int .i64 h.mtime, .int .u8 (n8 h.typ), .string S8, .int .i64 h.major, .int .i64 h.minor] 57)).alloc (Obj.cells #[.int .i64 0, .int .i64 0, .int .i64 0, .int .i64 0, .int .i64 0, .string ⟨#[]⟩, .string ⟨#[]⟩, .int .i64 0, .int .i64 0, .string ⟨#[]⟩] 28)) (w.heap.size + 1) 28 (nodeL zeroE)) := Lib.hid (Row.at_ _ _ _ rfl (by simp))
  have K0 : Hid (Below w.heap.size w ((w.alloc (Obj.cells #[.string S0, .int .i64 h.mode, .int .i64 h.uid, .int .i64 h.gid, .int .i64 h.size, .int .i64 h.mtime, .int .u8 (n8 h.typ), .string S8, .int .i64 h.major, .int .i64 h.minor] 57)).alloc (Obj.cells #[.int .i64 0, .int .i64 0, .int .i64 0, .int .i64 0, .int .i64 0, .string ⟨#[]⟩, .string ⟨#[]⟩, .int .i64 0, .int .i64 0, .string ⟨#[]⟩] 28))) := Lib.hid (((Below.refl _ _).alloc (Nat.le_refl _) _).alloc (by simp) _)
  generalize World.alloc _ _ = w1 at R0 R1 K0 ⊢
  have c1 := R0.cell (i := 1) rfl
  have c2 := R0.cell (i := 2) rfl
  have c3 := R0.cell (i := 3) rfl
  have c5 := R0.cell (i := 5) rfl
  have HR0 := Lib.hid R0
  clear R0
  go_upto_region 2 with (first
    | ((with_reducible refine build_all ?_ 28 _ ?_ ([.int .i64 (k : Int), .int .i64 (h.mode % 4096), .int .i64 h.uid, .int .i64 h.gid, .int .i64 h.mtime, .string ⟨#[]⟩, .string ⟨#[]⟩, .int .i64 0, .int .i64 0, .string ⟨#[]⟩] : List Value).toArray ?_ ?_); rfl; rfl; go_must (refine Eq.trans ?_ (built_node (k : Int) (h.mode % 4096) h.uid h.gid h.mtime); rfl))
    | ((with_reducible refine store_all ?_ 28 (.tmp 5) (.tmp 16) ?_ w1.heap.size [.int .i64 (k : Int), .int .i64 (h.mode % 4096), .int .i64 h.uid, .int .i64 h.gid, .int .i64 h.mtime, .string ⟨#[]⟩, .string ⟨#[]⟩, .int .i64 0, .int .i64 0, .string ⟨#[]⟩] ?_ ?_ (nodeL zeroE) ?_ ?_ ?_ ?_ ?_); rfl; rfl; go_must (rfl; rfl; rfl; exact Row.at_ _ _ _ rfl rfl; exact infoN zeroE; exact node_one _ _ _ _ _ _ _ _ _ _; intro w2 R2 K2 E2)))
  have X0 := Lib.hid ((kept_stored K2.out).row HR0.out (fun h => h))
  have X1 := Lib.hid ((kept_stored K2.out).row R1.out (fun h => h))
  have KA := Lib.hid (kept_trans (kept_below (K0.out.mono (Nat.le_refl _))) (kept_stored K2.out))
  have hlo : w.heap.size + 1 < w1.heap.size := R1.out.lt
  have HLO := Lib.hid hlo
  clear c1 c2 c3 c5 HR0 R1 K0 K2 E2 hlo hand
  generalize w1.heap.size = g at R2 HLO ⊢
  by_cases h3 : k = 3
  · subst h3
    have HV : Hid (nodeL (nodeE h 3) = [.int .i64 3, .int .i64 (h.mode % 4096), .int .i64 h.uid, .int .i64 h.gid, .int .i64 h.mtime, .string S8, .string ⟨#[]⟩, .int .i64 0, .int .i64 0, .string ⟨#[]⟩]) := Lib.hid (by rw [← HS8.out]; rfl)
    have c7 := X0.out.cell (i := 7) rfl
    have n5 := R2.out.cell (i := 5) rfl
    have f5 := R2.out.frozen 5
    go_upto_region 9 with fail
    have RN := Lib.hid (R2.out.set 5 (.string S8))
    change Hid (Row _ g 28 [.int .i64 3, .int .i64 (h.mode % 4096), .int .i64 h.uid, .int .i64 h.gid, .int .i64 h.mtime, .string S8, .string ⟨#[]⟩, .int .i64 0, .int .i64 0, .string ⟨#[]⟩]) at RN
    have KS := Lib.hid (kept_set (w := w2) (r := g) (i := 5) (.string S8))
    have XN := Lib.hid (KS.out.row X1.out (by have := HLO.out; omega))
    have KN := Lib.hid (kept_fresh KA.out KS.out (by have := HLO.out; omega))
    clear c7 n5 f5 KS KA X1 X0 R2
    generalize w2.setCell _ _ = w3 at RN XN KN ⊢
    go_wp2_with (first
      | ((with_reducible refine load_all ?_ 28 (.tmp 5) ?_ g 0 [.int .i64 3, .int .i64 (h.mode % 4096), .int .i64 h.uid, .int .i64 h.gid, .int .i64 h.mtime, .string S8, .string ⟨#[]⟩, .int .i64 0, .int .i64 0, .string ⟨#[]⟩] ([.int .i64 3, .int .i64 (h.mode % 4096), .int .i64 h.uid, .int .i64 h.gid, .int .i64 h.mtime, .string S8, .string ⟨#[]⟩, .int .i64 0, .int .i64 0, .string ⟨#[]⟩] : List Value).toArray ?_ _ ?_ Tryz.underlying28 ?_ ?_ ?_ ?_); rfl; rfl; go_must (rfl; exact rangeAt_row RN.out; rfl; exact infoN zeroE; rfl))
      | ((with_reducible refine store_all ?_ 28 (.tmp 4) (.tmp 33) ?_ (w.heap.size + 1) [.int .i64 3, .int .i64 (h.mode % 4096), .int .i64 h.uid, .int .i64 h.gid, .int .i64 h.mtime, .string S8, .string ⟨#[]⟩, .int .i64 0, .int .i64 0, .string ⟨#[]⟩] ?_ ?_ (nodeL zeroE) ?_ XN.out ?_ ?_ ?_); rfl; rfl; go_must (rfl; rfl; rfl; exact infoN zeroE; exact node_one _ _ _ _ _ _ _ _ _ _; intro w5 R5 K5 E5)))
    refine bodyPost_ret (v := .agg ([.int .i64 3, .int .i64 (h.mode % 4096), .int .i64 h.uid, .int .i64 h.gid, .int .i64 h.mtime, .string S8, .string ⟨#[]⟩, .int .i64 0, .int .i64 0, .string ⟨#[]⟩] : List Value).toArray) (results_cell_row rfl _ _ (w.heap.size + 1) _ _ _ _ rfl R5.out Tryz.underlying28 rfl (by kernel_rfl)) rfl ⟨by rw [HV.out], ?_⟩
    exact Lib.hid ((kept_fresh KN.out K5.out (by omega)).below (Nat.le_refl _) (fun _ _ h => h))
  by_cases h2 : k = 2
  · subst h2
    have HV : Hid (nodeL (nodeE h 2) = [.int .i64 2, .int .i64 (h.mode % 4096), .int .i64 h.uid, .int .i64 h.gid, .int .i64 h.mtime, .string S8, .string ⟨#[]⟩, .int .i64 0, .int .i64 0, .string ⟨#[]⟩]) := Lib.hid (by rw [← HS8.out]; rfl)
    have c7 := X0.out.cell (i := 7) rfl
    have n5 := R2.out.cell (i := 5) rfl
    have f5 := R2.out.frozen 5
    go_upto_region 9 with fail
    have RN := Lib.hid (R2.out.set 5 (.string S8))
    change Hid (Row _ g 28 [.int .i64 2, .int .i64 (h.mode % 4096), .int .i64 h.uid, .int .i64 h.gid, .int .i64 h.mtime, .string S8, .string ⟨#[]⟩, .int .i64 0, .int .i64 0, .string ⟨#[]⟩]) at RN
    have KS := Lib.hid (kept_set (w := w2) (r := g) (i := 5) (.string S8))
    have XN := Lib.hid (KS.out.row X1.out (by have := HLO.out; omega))
    have KN := Lib.hid (kept_fresh KA.out KS.out (by have := HLO.out; omega))
    clear c7 n5 f5 KS KA X1 X0 R2
    generalize w2.setCell _ _ = w3 at RN XN KN ⊢
    go_wp2_with (first
      | ((with_reducible refine load_all ?_ 28 (.tmp 5) ?_ g 0 [.int .i64 2, .int .i64 (h.mode % 4096), .int .i64 h.uid, .int .i64 h.gid, .int .i64 h.mtime, .string S8, .string ⟨#[]⟩, .int .i64 0, .int .i64 0, .string ⟨#[]⟩] ([.int .i64 2, .int .i64 (h.mode % 4096), .int .i64 h.uid, .int .i64 h.gid, .int .i64 h.mtime, .string S8, .string ⟨#[]⟩, .int .i64 0, .int .i64 0, .string ⟨#[]⟩] : List Value).toArray ?_ _ ?_ Tryz.underlying28 ?_ ?_ ?_ ?_); rfl; rfl; go_must (rfl; exact rangeAt_row RN.out; rfl; exact infoN zeroE; rfl))
      | ((with_reducible refine store_all ?_ 28 (.tmp 4) (.tmp 33) ?_ (w.heap.size + 1) [.int .i64 2, .int .i64 (h.mode % 4096), .int .i64 h.uid, .int .i64 h.gid, .int .i64 h.mtime, .string S8, .string ⟨#[]⟩, .int .i64 0, .int .i64 0, .string ⟨#[]⟩] ?_ ?_ (nodeL zeroE) ?_ XN.out ?_ ?_ ?_); rfl; rfl; go_must (rfl; rfl; rfl; exact infoN zeroE; exact node_one _ _ _ _ _ _ _ _ _ _; intro w5 R5 K5 E5)))
    refine bodyPost_ret (v := .agg ([.int .i64 2, .int .i64 (h.mode % 4096), .int .i64 h.uid, .int .i64 h.gid, .int .i64 h.mtime, .string S8, .string ⟨#[]⟩, .int .i64 0, .int .i64 0, .string ⟨#[]⟩] : List Value).toArray) (results_cell_row rfl _ _ (w.heap.size + 1) _ _ _ _ rfl R5.out Tryz.underlying28 rfl (by kernel_rfl)) rfl ⟨by rw [HV.out], ?_⟩
    exact Lib.hid ((kept_fresh KN.out K5.out (by omega)).below (Nat.le_refl _) (fun _ _ h => h))
  by_cases h4 : k = 4
  · subst h4
    have HV : Hid (nodeL (nodeE h 4) = [.int .i64 4, .int .i64 (h.mode % 4096), .int .i64 h.uid, .int .i64 h.gid, .int .i64 h.mtime, .string ⟨#[]⟩, .string ⟨#[]⟩, .int .i64 h.major, .int .i64 h.minor, .string ⟨#[]⟩]) := Lib.hid rfl
    have c8 := X0.out.cell (i := 8) rfl
    have c9 := X0.out.cell (i := 9) rfl
    have n7 := R2.out.cell (i := 7) rfl
    have n8' := R2.out.cell (i := 8) rfl
    have f7 := R2.out.frozen 7
    have f8 := R2.out.frozen 8
    go_upto_region 8 with fail
    go_region
    have RN := Lib.hid (((R2.out.set 7 (.int .i64 h.major)).set 8 (.int .i64 h.minor)).drew)
    change Hid (Row _ g 28 [.int .i64 4, .int .i64 (h.mode % 4096), .int .i64 h.uid, .int .i64 h.gid, .int .i64 h.mtime, .string ⟨#[]⟩, .string ⟨#[]⟩, .int .i64 h.major, .int .i64 h.minor, .string ⟨#[]⟩]) at RN
    have KS := Lib.hid ((((kept_set (w := w2) (r := g) (i := 7) (.int .i64 h.major)).trans (kept_set (r := g) (i := 8) (.int .i64 h.minor)))).drewN 1)
    have XN := Lib.hid (KS.out.row X1.out (by have := HLO.out; omega))
    have KN := Lib.hid (kept_fresh KA.out KS.out (by have := HLO.out; omega))
    change Hid (Row (World.drew _) _ _ _) at XN
    change Hid (Kept _ (World.drew _) _) at KN
    clear c8 c9 n7 n8' f7 f8 KS KA X1 X0 R2
    generalize World.drew _ = w3 at RN XN KN ⊢
    go_wp2_with (first
      | ((with_reducible refine load_all ?_ 28 (.tmp 5) ?_ g 0 [.int .i64 4, .int .i64 (h.mode % 4096), .int .i64 h.uid, .int .i64 h.gid, .int .i64 h.mtime, .string ⟨#[]⟩, .string ⟨#[]⟩, .int .i64 h.major, .int .i64 h.minor, .string ⟨#[]⟩] ([.int .i64 4, .int .i64 (h.mode % 4096), .int .i64 h.uid, .int .i64 h.gid, .int .i64 h.mtime, .string ⟨#[]⟩, .string ⟨#[]⟩, .int .i64 h.major, .int .i64 h.minor, .string ⟨#[]⟩] : List Value).toArray ?_ _ ?_ Tryz.underlying28 ?_ ?_ ?_ ?_); rfl; rfl; go_must (rfl; exact rangeAt_row RN.out; rfl; exact infoN zeroE; rfl))
      | ((with_reducible refine store_all ?_ 28 (.tmp 4) (.tmp 33) ?_ (w.heap.size + 1) [.int .i64 4, .int .i64 (h.mode % 4096), .int .i64 h.uid, .int .i64 h.gid, .int .i64 h.mtime, .string ⟨#[]⟩, .string ⟨#[]⟩, .int .i64 h.major, .int .i64 h.minor, .string ⟨#[]⟩] ?_ ?_ (nodeL zeroE) ?_ XN.out ?_ ?_ ?_); rfl; rfl; go_must (rfl; rfl; rfl; exact infoN zeroE; exact node_one _ _ _ _ _ _ _ _ _ _; intro w5 R5 K5 E5)))
    refine bodyPost_ret (v := .agg ([.int .i64 4, .int .i64 (h.mode % 4096), .int .i64 h.uid, .int .i64 h.gid, .int .i64 h.mtime, .string ⟨#[]⟩, .string ⟨#[]⟩, .int .i64 h.major, .int .i64 h.minor, .string ⟨#[]⟩] : List Value).toArray) (results_cell_row rfl _ _ (w.heap.size + 1) _ _ _ _ rfl R5.out Tryz.underlying28 rfl (by kernel_rfl)) rfl ⟨by rw [HV.out], ?_⟩
    exact Lib.hid ((kept_fresh KN.out K5.out (by omega)).below (Nat.le_refl _) (fun _ _ h => h))
  by_cases h5 : k = 5
  · subst h5
    have HV : Hid (nodeL (nodeE h 5) = [.int .i64 5, .int .i64 (h.mode % 4096), .int .i64 h.uid, .int .i64 h.gid, .int .i64 h.mtime, .string ⟨#[]⟩, .string ⟨#[]⟩, .int .i64 h.major, .int .i64 h.minor, .string ⟨#[]⟩]) := Lib.hid rfl
    have c8 := X0.out.cell (i := 8) rfl
    have c9 := X0.out.cell (i := 9) rfl
    have n7 := R2.out.cell (i := 7) rfl
    have n8' := R2.out.cell (i := 8) rfl
    have f7 := R2.out.frozen 7
    have f8 := R2.out.frozen 8
    go_upto_region 8 with fail
    go_region
    have RN := Lib.hid (((R2.out.set 7 (.int .i64 h.major)).set 8 (.int .i64 h.minor)).drew)
    change Hid (Row _ g 28 [.int .i64 5, .int .i64 (h.mode % 4096), .int .i64 h.uid, .int .i64 h.gid, .int .i64 h.mtime, .string ⟨#[]⟩, .string ⟨#[]⟩, .int .i64 h.major, .int .i64 h.minor, .string ⟨#[]⟩]) at RN
    have KS := Lib.hid ((((kept_set (w := w2) (r := g) (i := 7) (.int .i64 h.major)).trans (kept_set (r := g) (i := 8) (.int .i64 h.minor)))).drewN 1)
    have XN := Lib.hid (KS.out.row X1.out (by have := HLO.out; omega))
    have KN := Lib.hid (kept_fresh KA.out KS.out (by have := HLO.out; omega))
    change Hid (Row (World.drew _) _ _ _) at XN
    change Hid (Kept _ (World.drew _) _) at KN
    clear c8 c9 n7 n8' f7 f8 KS KA X1 X0 R2
    generalize World.drew _ = w3 at RN XN KN ⊢
    go_wp2_with (first
      | ((with_reducible refine load_all ?_ 28 (.tmp 5) ?_ g 0 [.int .i64 5, .int .i64 (h.mode % 4096), .int .i64 h.uid, .int .i64 h.gid, .int .i64 h.mtime, .string ⟨#[]⟩, .string ⟨#[]⟩, .int .i64 h.major, .int .i64 h.minor, .string ⟨#[]⟩] ([.int .i64 5, .int .i64 (h.mode % 4096), .int .i64 h.uid, .int .i64 h.gid, .int .i64 h.mtime, .string ⟨#[]⟩, .string ⟨#[]⟩, .int .i64 h.major, .int .i64 h.minor, .string ⟨#[]⟩] : List Value).toArray ?_ _ ?_ Tryz.underlying28 ?_ ?_ ?_ ?_); rfl; rfl; go_must (rfl; exact rangeAt_row RN.out; rfl; exact infoN zeroE; rfl))
      | ((with_reducible refine store_all ?_ 28 (.tmp 4) (.tmp 33) ?_ (w.heap.size + 1) [.int .i64 5, .int .i64 (h.mode % 4096), .int .i64 h.uid, .int .i64 h.gid, .int .i64 h.mtime, .string ⟨#[]⟩, .string ⟨#[]⟩, .int .i64 h.major, .int .i64 h.minor, .string ⟨#[]⟩] ?_ ?_ (nodeL zeroE) ?_ XN.out ?_ ?_ ?_); rfl; rfl; go_must (rfl; rfl; rfl; exact infoN zeroE; exact node_one _ _ _ _ _ _ _ _ _ _; intro w5 R5 K5 E5)))
    refine bodyPost_ret (v := .agg ([.int .i64 5, .int .i64 (h.mode % 4096), .int .i64 h.uid, .int .i64 h.gid, .int .i64 h.mtime, .string ⟨#[]⟩, .string ⟨#[]⟩, .int .i64 h.major, .int .i64 h.minor, .string ⟨#[]⟩] : List Value).toArray) (results_cell_row rfl _ _ (w.heap.size + 1) _ _ _ _ rfl R5.out Tryz.underlying28 rfl (by kernel_rfl)) rfl ⟨by rw [HV.out], ?_⟩
    exact Lib.hid ((kept_fresh KN.out K5.out (by omega)).below (Nat.le_refl _) (fun _ _ h => h))
  have HV : Hid (nodeL (nodeE h k) = [.int .i64 (k : Int), .int .i64 (h.mode % 4096), .int .i64 h.uid, .int .i64 h.gid, .int .i64 h.mtime, .string ⟨#[]⟩, .string ⟨#[]⟩, .int .i64 0, .int .i64 0, .string ⟨#[]⟩]) := Lib.hid (by
    unfold nodeE
    rw [if_neg (by omega), if_neg (by omega), if_neg (by omega)]
    rfl)
  have hk2 : ¬ (k : Int) = 2 := by omega
  have hk3 : ¬ (k : Int) = 3 := by omega
  have hk4 : ¬ (k : Int) = 4 := by omega
  have hk5 : ¬ (k : Int) = 5 := by omega
  have RN := R2
  have XN := X1
  have KN := KA
  clear h2 h3 h4 h5 R2 X1 X0 KA
  go_wp2_with (first
    | ((with_reducible refine load_all ?_ 28 (.tmp 5) ?_ g 0 [.int .i64 (k : Int), .int .i64 (h.mode % 4096), .int .i64 h.uid, .int .i64 h.gid, .int .i64 h.mtime, .string ⟨#[]⟩, .string ⟨#[]⟩, .int .i64 0, .int .i64 0, .string ⟨#[]⟩] ([.int .i64 (k : Int), .int .i64 (h.mode % 4096), .int .i64 h.uid, .int .i64 h.gid, .int .i64 h.mtime, .string ⟨#[]⟩, .string ⟨#[]⟩, .int .i64 0, .int .i64 0, .string ⟨#[]⟩] : List Value).toArray ?_ _ ?_ Tryz.underlying28 ?_ ?_ ?_ ?_); rfl; rfl; go_must (rfl; exact rangeAt_row RN.out; rfl; exact infoN zeroE; rfl))
    | ((with_reducible refine store_all ?_ 28 (.tmp 4) (.tmp 33) ?_ (w.heap.size + 1) [.int .i64 (k : Int), .int .i64 (h.mode % 4096), .int .i64 h.uid, .int .i64 h.gid, .int .i64 h.mtime, .string ⟨#[]⟩, .string ⟨#[]⟩, .int .i64 0, .int .i64 0, .string ⟨#[]⟩] ?_ ?_ (nodeL zeroE) ?_ XN.out ?_ ?_ ?_); rfl; rfl; go_must (rfl; rfl; rfl; exact infoN zeroE; exact node_one _ _ _ _ _ _ _ _ _ _; intro w5 R5 K5 E5)))
  refine bodyPost_ret (v := .agg ([.int .i64 (k : Int), .int .i64 (h.mode % 4096), .int .i64 h.uid, .int .i64 h.gid, .int .i64 h.mtime, .string ⟨#[]⟩, .string ⟨#[]⟩, .int .i64 0, .int .i64 0, .string ⟨#[]⟩] : List Value).toArray) (results_cell_row rfl _ _ (w.heap.size + 1) _ _ _ _ rfl R5.out Tryz.underlying28 rfl (by kernel_rfl)) rfl ⟨by rw [HV.out], ?_⟩
  exact Lib.hid ((kept_fresh KN.out K5.out (by omega)).below (Nat.le_refl _) (fun _ _ h => h))
end Go.Proofs.YtpgaejalkbpbhaaGreatDoor

namespace Go.Proofs.YtpgaejalkbpbhaaGreatDoor
open Go.RowKit Sh Px Hd

def cntV (h : H) (L : List Pr) : Value := .tuple #[hdV ((Un.countedF h L).getD zeroH), .bool (Un.countedF h L).isSome]
theorem hdL_len (h : H) : (hdL h).length = 10 := rfl
theorem info_hd : (Tryz.prog.info? 57).map (·.size) = some 10 := by kernel_rfl
/-- A header on the way: h with what the first k pairs tell. -/
structure CnAt (w wr : World) (h : H) (L : List Pr) (k : Nat) (h' : H) : Prop where
  box : Row wr w.heap.size 57 (hdL h')
  res : Row wr (w.heap.size + 1) 57 (hdL zeroH)
  low : Below w.heap.size w wr
  eq : Un.countedF h L = Un.countedF h' (L.drop k)
theorem CnAt.step {w wr : World} {h h' : H} {L : List Pr} {k : Nat} (c : CnAt w wr h L k h') (hk : k < L.length) : Un.countedF h L = (Un.oneF h' L[k]).bind fun x => Un.countedF x (L.drop (k + 1)) := by
  rw [c.eq, List.drop_eq_getElem_cons hk]
  rfl
theorem cnt_none {h : H} {L : List Pr} (e : Un.countedF h L = none) : cntV h L = .tuple #[.agg (hdL zeroH).toArray, .bool false] := by rw [cntV, e]; rfl
theorem cnt_some {h h' : H} {L : List Pr} (e : Un.countedF h L = some h') : cntV h L = .tuple #[.agg (hdL h').toArray, .bool true] := by rw [cntV, e]; rfl
theorem key_eq (a b : List UInt8) : ((sb a).toList == b) = (a == b) := by rw [sb_list]
theorem numV_none {s : List UInt8} (h : Un.numF s = none) : numV s = .tuple #[.int .i64 0, .bool false] := by rw [numV, h]; rfl
theorem numV_some {s : List UInt8} {m : Nat} (h : Un.numF s = some m) : numV s = .tuple #[.int .i64 m, .bool true] := by rw [numV, h]; rfl
theorem one_0 {h : H} {p : Pr} (e : p.1 = Un.kSize) : Un.oneF h p = (Un.numF p.2).map fun (n : Nat) => { h with size := (n : Int) } := by unfold Un.oneF; rw [if_pos e]
theorem one_1 {h : H} {p : Pr} (h0 : p.1 ≠ Un.kSize) (e : p.1 = Un.kUid) : Un.oneF h p = (Un.numF p.2).map fun (n : Nat) => { h with uid := (n : Int) } := by unfold Un.oneF; rw [if_neg h0, if_pos e]
theorem one_2 {h : H} {p : Pr} (h0 : p.1 ≠ Un.kSize) (h1 : p.1 ≠ Un.kUid) (e : p.1 = Un.kGid) : Un.oneF h p = (Un.numF p.2).map fun (n : Nat) => { h with gid := (n : Int) } := by unfold Un.oneF; rw [if_neg h0, if_neg h1, if_pos e]
theorem one_3 {h : H} {p : Pr} (h0 : p.1 ≠ Un.kSize) (h1 : p.1 ≠ Un.kUid) (h2 : p.1 ≠ Un.kGid) (e : p.1 = Un.kMtime) : Un.oneF h p = (Un.numF p.2).map fun (n : Nat) => { h with mtime := (n : Int) } := by unfold Un.oneF; rw [if_neg h0, if_neg h1, if_neg h2, if_pos e]
theorem one_4 {h : H} {p : Pr} (h0 : p.1 ≠ Un.kSize) (h1 : p.1 ≠ Un.kUid) (h2 : p.1 ≠ Un.kGid) (h3 : p.1 ≠ Un.kMtime) (e : p.1 = Un.kPath) : Un.oneF h p = some { h with name := p.2 } := by unfold Un.oneF; rw [if_neg h0, if_neg h1, if_neg h2, if_neg h3, if_pos e]
theorem one_5 {h : H} {p : Pr} (h0 : p.1 ≠ Un.kSize) (h1 : p.1 ≠ Un.kUid) (h2 : p.1 ≠ Un.kGid) (h3 : p.1 ≠ Un.kMtime) (h4 : p.1 ≠ Un.kPath) (e : p.1 = Un.kLink) : Un.oneF h p = some { h with link := p.2 } := by unfold Un.oneF; rw [if_neg h0, if_neg h1, if_neg h2, if_neg h3, if_neg h4, if_pos e]
theorem one_6 {h : H} {p : Pr} (h0 : p.1 ≠ Un.kSize) (h1 : p.1 ≠ Un.kUid) (h2 : p.1 ≠ Un.kGid) (h3 : p.1 ≠ Un.kMtime) (h4 : p.1 ≠ Un.kPath) (h5 : p.1 ≠ Un.kLink) : Un.oneF h p = some h := by unfold Un.oneF; rw [if_neg h0, if_neg h1, if_neg h2, if_neg h3, if_neg h4, if_neg h5]

set_option maxRecDepth 100000 in
set_option maxHeartbeats 16000000 in
theorem un_counted (w : World) (h : H) (A : Option Addr) (n c : Nat) (L : List Pr) (hL : PairsAt w A n c L) (hn : n ≤ 100000000) (hl : ∀ p ∈ L, p.2.length ≤ 140737488351232) (hE : UnEnv w) :
    Calls Tryz.prog 108 #[hdV h, .slice A n c] w fun e w' => e = .returned (cntV h L) ∧ Hid (Below w.heap.size w w') := by
  have HL := Lib.hid hL
  have hlen := hL.len
  have HE := Lib.hid hE
  have HLL := Lib.hid hl
  clear hL hE hl
  rw [hdV_is]
  obtain ⟨D, hD⟩ : ∃ D, D = hdL h := ⟨_, rfl⟩
  rw [← hD]
  have HD := Lib.hid hD
  clear hD
  go_enter Tryz.func108, Tryz.ntmps108
  go_upto_region 1 with fail
  have P0 : Hid (CnAt w ((w.alloc (.cells D.toArray 57)).alloc (.cells #[.string ⟨#[]⟩, .int .i64 0, .int .i64 0, .int .i64 0, .int .i64 0, .int .i64 0, .int .u8 0, .string ⟨#[]⟩, .int .i64 0, .int .i64 0] 57)) h L 0 h) := Lib.hid ⟨by
    have r : Row (w.alloc (.cells D.toArray 57)) w.heap.size 57 D := Row.new _ _ _
    rw [HD.out] at r ⊢
    exact (kept_alloc _ _).row r (fun h => h), Row.at_ _ _ _ rfl (by simp), ((Below.refl _ _).alloc (Nat.le_refl _) _).alloc (by simp) _, rfl⟩
  generalize World.alloc _ _ = w1 at P0 ⊢
  go_wp2_with fail
  go_loopw [11] (fun i wr => ∃ (k : Nat) (h' : H), k ≤ n ∧ i = .int .i64 k ∧ Hid (CnAt w wr h L k h')) (fun i _ => n - (intOf i).toNat)
  case atStart => exact ⟨0, h, Nat.zero_le _, rfl, P0⟩
  case round =>
    clear P0
    obtain ⟨k, h', hk, rfl, HP⟩ := hrel
    by_cases hlt : k < n
    · obtain ⟨b, o, rfl, hbl, _⟩ := HL.out.at_ (by omega)
      have hkl : k < L.length := by omega
      obtain ⟨c0, c1⟩ := (HL.out.below HP.out.low).cells hkl
      have hlt' : (k : Int) < (n : Int) := by omega
      have HST := Lib.hid (HP.out.step hkl)
      have HPL := Lib.hid (HLL.out _ (List.getElem_mem hkl))
      generalize L[k] = p at *
      have HN := Lib.hid (fun W (hW : UnEnv W) => un_number W p.2 HPL.out hW)
      have HQ := Lib.hid (fun b => key_eq p.1 b)
      generalize hs1 : sb p.1 = s1 at *
      generalize hs2 : sb p.2 = s2 at *
      have HS2 := Lib.hid hs2
      clear hs1 hs2 HPL
      go_upto_region 4 with fail
      have RB : Row (wr.alloc (.cells #[.string s1, .string s2] 63)) wr.heap.size 63 [.string s1, .string s2] := Row.new _ _ _
      have RH := Lib.hid ((kept_alloc wr (.cells #[.string s1, .string s2] 63)).row HP.out.box (fun h => h))
      have RZ := Lib.hid ((kept_alloc wr (.cells #[.string s1, .string s2] 63)).row HP.out.res (fun h => h))
      have KB := Lib.hid (HP.out.low.alloc HP.out.low.size (.cells #[.string s1, .string s2] 63))
      generalize wr.alloc _ = w2 at RB RH RZ KB ⊢
      have d0 := RB.cell (i := 0) rfl
      have d1 := RB.cell (i := 1) rfl
      have E2 := Lib.hid (HE.out.below KB.out)
      clear RB c0 c1 HP HLL
      by_cases e0 : p.1 = Un.kSize
      · have q0 : (s1.toList == [115, 105, 122, 101]) = true := by rw [HQ.out]; exact beq_iff_eq.2 e0
        have HO := Lib.hid (one_0 (h := h') (p := p)  e0)
        have nc := RH.out.cell (i := 4) rfl
        have nf := RH.out.frozen 4
        clear e0 HQ
        cases hnm : Un.numF p.2 with
        | none =>
          have HC : Hid (cntV h L = .tuple #[.agg (hdL zeroH).toArray, .bool false]) := Lib.hid (cnt_none (by rw [HST.out, HO.out, hnm]; rfl))
          have HV := Lib.hid (numV_none hnm)
          clear hnm HO HST
          go_wp2_with (first
            | (go_at_call 138; go_must (refine (HN.out _ E2.out).mono ?_; rintro e w3 ⟨rfl, K3⟩; rw [HV.out]; have nc3 := (kept_below K3.out).cell nc (fun h => h); have RH3 := Lib.hid ((kept_below K3.out).row RH.out (fun h => h)); have nf3 := RH3.out.frozen 4; have RZ3 := Lib.hid ((kept_below K3.out).row RZ.out (fun h => h)); clear nc nf))
            | ((with_reducible refine build_all ?_ 57 #[] ?_ (hdL zeroH).toArray ?_ ?_); rfl; rfl; go_must (refine Eq.trans ?_ built25; kernel_rfl))
            | ((with_reducible refine store_all ?_ 57 (.tmp 4) (.tmp 65) ?_ (w.heap.size + 1) (hdL zeroH) ?_ ?_ (hdL zeroH) ?_ ?_ ?_ ?_ ?_); rfl; rfl; go_must (rfl; rfl; rfl; exact (kept_set (r := w.heap.size) _).row RZ3.out (by omega); exact info25 _; exact hdL_one _; intro w6 R6 K6 E6)))
          refine bodyPost_ret (v := .tuple #[.agg (hdL zeroH).toArray, .bool false]) (results_row_tmp (fn := Tryz.f108) (p := 4) (u := 5) rfl _ _ (w.heap.size + 1) _ (hdL zeroH).toArray _ _ rfl R6.out Tryz.underlying57 rfl (info25 _)) rfl ⟨by rw [HC.out], ?_⟩
          exact Lib.hid ((kept_fresh (kept_fresh (kept_below (KB.out.trans (K3.out.mono KB.out.size))) (kept_set (r := w.heap.size) _) (Nat.le_refl _)) K6.out (by omega)).below (Nat.le_refl _) (fun _ _ h => h))
        | some m =>
          have HV := Lib.hid (numV_some hnm)
          have HNX : Hid (Un.countedF h L = Un.countedF { h' with size := (m : Int) } (L.drop (k + 1))) := Lib.hid (by rw [HST.out, HO.out, hnm]; rfl)
          clear hnm HO HST
          go_wp2_with (go_at_call 138; go_must (refine (HN.out _ E2.out).mono ?_; rintro e w3 ⟨rfl, K3⟩; rw [HV.out]; have nc3 := (kept_below K3.out).cell nc (fun h => h); have RH3 := Lib.hid ((kept_below K3.out).row RH.out (fun h => h)); have nf3 := RH3.out.frozen 4; have RZ3 := Lib.hid ((kept_below K3.out).row RZ.out (fun h => h)); clear nc nf))
          go_roundw
          case rel => exact ⟨k + 1, { h' with size := (m : Int) }, by omega, by go_num, Lib.hid ⟨RH3.out.set 4 _, (kept_set (r := w.heap.size) _).row RZ3.out (by omega), (kept_fresh (kept_below (KB.out.trans (K3.out.mono KB.out.size))) (kept_set (r := w.heap.size) _) (Nat.le_refl _)).below (Nat.le_refl _) (fun _ _ h => h), HNX.out⟩⟩
          case measure => simp [intOf] <;> omega
      have q0 : (s1.toList == [115, 105, 122, 101]) = false := by rw [HQ.out]; exact beq_eq_false_iff_ne.2 e0
      have H0 := Lib.hid e0
      clear e0
      by_cases e1 : p.1 = Un.kUid
      · have q1 : (s1.toList == [117, 105, 100]) = true := by rw [HQ.out]; exact beq_iff_eq.2 e1
        have HO := Lib.hid (one_1 (h := h') (p := p) H0.out e1)
        have nc := RH.out.cell (i := 2) rfl
        have nf := RH.out.frozen 2
        clear e1 HQ
        cases hnm : Un.numF p.2 with
        | none =>
          have HC : Hid (cntV h L = .tuple #[.agg (hdL zeroH).toArray, .bool false]) := Lib.hid (cnt_none (by rw [HST.out, HO.out, hnm]; rfl))
          have HV := Lib.hid (numV_none hnm)
          clear hnm HO HST
          go_wp2_with (first
            | (go_at_call 138; go_must (refine (HN.out _ E2.out).mono ?_; rintro e w3 ⟨rfl, K3⟩; rw [HV.out]; have nc3 := (kept_below K3.out).cell nc (fun h => h); have RH3 := Lib.hid ((kept_below K3.out).row RH.out (fun h => h)); have nf3 := RH3.out.frozen 2; have RZ3 := Lib.hid ((kept_below K3.out).row RZ.out (fun h => h)); clear nc nf))
            | ((with_reducible refine build_all ?_ 57 #[] ?_ (hdL zeroH).toArray ?_ ?_); rfl; rfl; go_must (refine Eq.trans ?_ built25; kernel_rfl))
            | ((with_reducible refine store_all ?_ 57 (.tmp 4) (.tmp 65) ?_ (w.heap.size + 1) (hdL zeroH) ?_ ?_ (hdL zeroH) ?_ ?_ ?_ ?_ ?_); rfl; rfl; go_must (rfl; rfl; rfl; exact (kept_set (r := w.heap.size) _).row RZ3.out (by omega); exact info25 _; exact hdL_one _; intro w6 R6 K6 E6)))
          refine bodyPost_ret (v := .tuple #[.agg (hdL zeroH).toArray, .bool false]) (results_row_tmp (fn := Tryz.f108) (p := 4) (u := 5) rfl _ _ (w.heap.size + 1) _ (hdL zeroH).toArray _ _ rfl R6.out Tryz.underlying57 rfl (info25 _)) rfl ⟨by rw [HC.out], ?_⟩
          exact Lib.hid ((kept_fresh (kept_fresh (kept_below (KB.out.trans (K3.out.mono KB.out.size))) (kept_set (r := w.heap.size) _) (Nat.le_refl _)) K6.out (by omega)).below (Nat.le_refl _) (fun _ _ h => h))
        | some m =>
          have HV := Lib.hid (numV_some hnm)
          have HNX : Hid (Un.countedF h L = Un.countedF { h' with uid := (m : Int) } (L.drop (k + 1))) := Lib.hid (by rw [HST.out, HO.out, hnm]; rfl)
          clear hnm HO HST
          go_wp2_with (go_at_call 138; go_must (refine (HN.out _ E2.out).mono ?_; rintro e w3 ⟨rfl, K3⟩; rw [HV.out]; have nc3 := (kept_below K3.out).cell nc (fun h => h); have RH3 := Lib.hid ((kept_below K3.out).row RH.out (fun h => h)); have nf3 := RH3.out.frozen 2; have RZ3 := Lib.hid ((kept_below K3.out).row RZ.out (fun h => h)); clear nc nf))
          go_roundw
          case rel => exact ⟨k + 1, { h' with uid := (m : Int) }, by omega, by go_num, Lib.hid ⟨RH3.out.set 2 _, (kept_set (r := w.heap.size) _).row RZ3.out (by omega), (kept_fresh (kept_below (KB.out.trans (K3.out.mono KB.out.size))) (kept_set (r := w.heap.size) _) (Nat.le_refl _)).below (Nat.le_refl _) (fun _ _ h => h), HNX.out⟩⟩
          case measure => simp [intOf] <;> omega
      have q1 : (s1.toList == [117, 105, 100]) = false := by rw [HQ.out]; exact beq_eq_false_iff_ne.2 e1
      have H1 := Lib.hid e1
      clear e1
      by_cases e2 : p.1 = Un.kGid
      · have q2 : (s1.toList == [103, 105, 100]) = true := by rw [HQ.out]; exact beq_iff_eq.2 e2
        have HO := Lib.hid (one_2 (h := h') (p := p) H0.out H1.out e2)
        have nc := RH.out.cell (i := 3) rfl
        have nf := RH.out.frozen 3
        clear e2 HQ
        cases hnm : Un.numF p.2 with
        | none =>
          have HC : Hid (cntV h L = .tuple #[.agg (hdL zeroH).toArray, .bool false]) := Lib.hid (cnt_none (by rw [HST.out, HO.out, hnm]; rfl))
          have HV := Lib.hid (numV_none hnm)
          clear hnm HO HST
          go_wp2_with (first
            | (go_at_call 138; go_must (refine (HN.out _ E2.out).mono ?_; rintro e w3 ⟨rfl, K3⟩; rw [HV.out]; have nc3 := (kept_below K3.out).cell nc (fun h => h); have RH3 := Lib.hid ((kept_below K3.out).row RH.out (fun h => h)); have nf3 := RH3.out.frozen 3; have RZ3 := Lib.hid ((kept_below K3.out).row RZ.out (fun h => h)); clear nc nf))
            | ((with_reducible refine build_all ?_ 57 #[] ?_ (hdL zeroH).toArray ?_ ?_); rfl; rfl; go_must (refine Eq.trans ?_ built25; kernel_rfl))
            | ((with_reducible refine store_all ?_ 57 (.tmp 4) (.tmp 65) ?_ (w.heap.size + 1) (hdL zeroH) ?_ ?_ (hdL zeroH) ?_ ?_ ?_ ?_ ?_); rfl; rfl; go_must (rfl; rfl; rfl; exact (kept_set (r := w.heap.size) _).row RZ3.out (by omega); exact info25 _; exact hdL_one _; intro w6 R6 K6 E6)))
          refine bodyPost_ret (v := .tuple #[.agg (hdL zeroH).toArray, .bool false]) (results_row_tmp (fn := Tryz.f108) (p := 4) (u := 5) rfl _ _ (w.heap.size + 1) _ (hdL zeroH).toArray _ _ rfl R6.out Tryz.underlying57 rfl (info25 _)) rfl ⟨by rw [HC.out], ?_⟩
          exact Lib.hid ((kept_fresh (kept_fresh (kept_below (KB.out.trans (K3.out.mono KB.out.size))) (kept_set (r := w.heap.size) _) (Nat.le_refl _)) K6.out (by omega)).below (Nat.le_refl _) (fun _ _ h => h))
        | some m =>
          have HV := Lib.hid (numV_some hnm)
          have HNX : Hid (Un.countedF h L = Un.countedF { h' with gid := (m : Int) } (L.drop (k + 1))) := Lib.hid (by rw [HST.out, HO.out, hnm]; rfl)
          clear hnm HO HST
          go_wp2_with (go_at_call 138; go_must (refine (HN.out _ E2.out).mono ?_; rintro e w3 ⟨rfl, K3⟩; rw [HV.out]; have nc3 := (kept_below K3.out).cell nc (fun h => h); have RH3 := Lib.hid ((kept_below K3.out).row RH.out (fun h => h)); have nf3 := RH3.out.frozen 3; have RZ3 := Lib.hid ((kept_below K3.out).row RZ.out (fun h => h)); clear nc nf))
          go_roundw
          case rel => exact ⟨k + 1, { h' with gid := (m : Int) }, by omega, by go_num, Lib.hid ⟨RH3.out.set 3 _, (kept_set (r := w.heap.size) _).row RZ3.out (by omega), (kept_fresh (kept_below (KB.out.trans (K3.out.mono KB.out.size))) (kept_set (r := w.heap.size) _) (Nat.le_refl _)).below (Nat.le_refl _) (fun _ _ h => h), HNX.out⟩⟩
          case measure => simp [intOf] <;> omega
      have q2 : (s1.toList == [103, 105, 100]) = false := by rw [HQ.out]; exact beq_eq_false_iff_ne.2 e2
      have H2 := Lib.hid e2
      clear e2
      by_cases e3 : p.1 = Un.kMtime
      · have q3 : (s1.toList == [109, 116, 105, 109, 101]) = true := by rw [HQ.out]; exact beq_iff_eq.2 e3
        have HO := Lib.hid (one_3 (h := h') (p := p) H0.out H1.out H2.out e3)
        have nc := RH.out.cell (i := 5) rfl
        have nf := RH.out.frozen 5
        clear e3 HQ
        cases hnm : Un.numF p.2 with
        | none =>
          have HC : Hid (cntV h L = .tuple #[.agg (hdL zeroH).toArray, .bool false]) := Lib.hid (cnt_none (by rw [HST.out, HO.out, hnm]; rfl))
          have HV := Lib.hid (numV_none hnm)
          clear hnm HO HST
          go_wp2_with (first
            | (go_at_call 138; go_must (refine (HN.out _ E2.out).mono ?_; rintro e w3 ⟨rfl, K3⟩; rw [HV.out]; have nc3 := (kept_below K3.out).cell nc (fun h => h); have RH3 := Lib.hid ((kept_below K3.out).row RH.out (fun h => h)); have nf3 := RH3.out.frozen 5; have RZ3 := Lib.hid ((kept_below K3.out).row RZ.out (fun h => h)); clear nc nf))
            | ((with_reducible refine build_all ?_ 57 #[] ?_ (hdL zeroH).toArray ?_ ?_); rfl; rfl; go_must (refine Eq.trans ?_ built25; kernel_rfl))
            | ((with_reducible refine store_all ?_ 57 (.tmp 4) (.tmp 65) ?_ (w.heap.size + 1) (hdL zeroH) ?_ ?_ (hdL zeroH) ?_ ?_ ?_ ?_ ?_); rfl; rfl; go_must (rfl; rfl; rfl; exact (kept_set (r := w.heap.size) _).row RZ3.out (by omega); exact info25 _; exact hdL_one _; intro w6 R6 K6 E6)))
          refine bodyPost_ret (v := .tuple #[.agg (hdL zeroH).toArray, .bool false]) (results_row_tmp (fn := Tryz.f108) (p := 4) (u := 5) rfl _ _ (w.heap.size + 1) _ (hdL zeroH).toArray _ _ rfl R6.out Tryz.underlying57 rfl (info25 _)) rfl ⟨by rw [HC.out], ?_⟩
          exact Lib.hid ((kept_fresh (kept_fresh (kept_below (KB.out.trans (K3.out.mono KB.out.size))) (kept_set (r := w.heap.size) _) (Nat.le_refl _)) K6.out (by omega)).below (Nat.le_refl _) (fun _ _ h => h))
        | some m =>
          have HV := Lib.hid (numV_some hnm)
          have HNX : Hid (Un.countedF h L = Un.countedF { h' with mtime := (m : Int) } (L.drop (k + 1))) := Lib.hid (by rw [HST.out, HO.out, hnm]; rfl)
          clear hnm HO HST
          go_wp2_with (go_at_call 138; go_must (refine (HN.out _ E2.out).mono ?_; rintro e w3 ⟨rfl, K3⟩; rw [HV.out]; have nc3 := (kept_below K3.out).cell nc (fun h => h); have RH3 := Lib.hid ((kept_below K3.out).row RH.out (fun h => h)); have nf3 := RH3.out.frozen 5; have RZ3 := Lib.hid ((kept_below K3.out).row RZ.out (fun h => h)); clear nc nf))
          go_roundw
          case rel => exact ⟨k + 1, { h' with mtime := (m : Int) }, by omega, by go_num, Lib.hid ⟨RH3.out.set 5 _, (kept_set (r := w.heap.size) _).row RZ3.out (by omega), (kept_fresh (kept_below (KB.out.trans (K3.out.mono KB.out.size))) (kept_set (r := w.heap.size) _) (Nat.le_refl _)).below (Nat.le_refl _) (fun _ _ h => h), HNX.out⟩⟩
          case measure => simp [intOf] <;> omega
      have q3 : (s1.toList == [109, 116, 105, 109, 101]) = false := by rw [HQ.out]; exact beq_eq_false_iff_ne.2 e3
      have H3 := Lib.hid e3
      clear e3
      by_cases e4 : p.1 = Un.kPath
      · have q4 : (s1.toList == [112, 97, 116, 104]) = true := by rw [HQ.out]; exact beq_iff_eq.2 e4
        have HO := Lib.hid (one_4 (h := h') (p := p) H0.out H1.out H2.out H3.out e4)
        have nc := RH.out.cell (i := 0) rfl
        have nf := RH.out.frozen 0
        clear e4 HQ
        have HNX : Hid (Un.countedF h L = Un.countedF { h' with name := p.2 } (L.drop (k + 1))) := Lib.hid (by rw [HST.out, HO.out]; rfl)
        clear HO HST
        go_wp2_with fail
        go_roundw
        case rel => exact ⟨k + 1, { h' with name := p.2 }, by omega, by go_num, Lib.hid ⟨by have r := RH.out.set 0 (.string s2); rw [← HS2.out] at r ⊢; exact r, (kept_set (r := w.heap.size) _).row RZ.out (by omega), (kept_fresh (kept_below KB.out) (kept_set (r := w.heap.size) _) (Nat.le_refl _)).below (Nat.le_refl _) (fun _ _ h => h), HNX.out⟩⟩
        case measure => simp [intOf] <;> omega
      have q4 : (s1.toList == [112, 97, 116, 104]) = false := by rw [HQ.out]; exact beq_eq_false_iff_ne.2 e4
      have H4 := Lib.hid e4
      clear e4
      by_cases e5 : p.1 = Un.kLink
      · have q5 : (s1.toList == [108, 105, 110, 107, 112, 97, 116, 104]) = true := by rw [HQ.out]; exact beq_iff_eq.2 e5
        have HO := Lib.hid (one_5 (h := h') (p := p) H0.out H1.out H2.out H3.out H4.out e5)
        have nc := RH.out.cell (i := 7) rfl
        have nf := RH.out.frozen 7
        clear e5 HQ
        have HNX : Hid (Un.countedF h L = Un.countedF { h' with link := p.2 } (L.drop (k + 1))) := Lib.hid (by rw [HST.out, HO.out]; rfl)
        clear HO HST
        go_wp2_with fail
        go_roundw
        case rel => exact ⟨k + 1, { h' with link := p.2 }, by omega, by go_num, Lib.hid ⟨by have r := RH.out.set 7 (.string s2); rw [← HS2.out] at r ⊢; exact r, (kept_set (r := w.heap.size) _).row RZ.out (by omega), (kept_fresh (kept_below KB.out) (kept_set (r := w.heap.size) _) (Nat.le_refl _)).below (Nat.le_refl _) (fun _ _ h => h), HNX.out⟩⟩
        case measure => simp [intOf] <;> omega
      have q5 : (s1.toList == [108, 105, 110, 107, 112, 97, 116, 104]) = false := by rw [HQ.out]; exact beq_eq_false_iff_ne.2 e5
      have H5 := Lib.hid e5
      clear e5
      have HO := Lib.hid (one_6 (h := h') (p := p) H0.out H1.out H2.out H3.out H4.out H5.out)
      have HNX : Hid (Un.countedF h L = Un.countedF h' (L.drop (k + 1))) := Lib.hid (by rw [HST.out, HO.out]; rfl)
      clear HO HST HQ
      go_wp2_with fail
      go_roundw
      case rel => exact ⟨k + 1, h', by omega, by go_num, Lib.hid ⟨RH.out, RZ.out, KB.out, HNX.out⟩⟩
      case measure => simp [intOf] <;> omega
    · obtain rfl : k = n := by omega
      have hge : ¬ (k : Int) < (k : Int) := by omega
      have HC : Hid (cntV h L = .tuple #[.agg (hdL h').toArray, .bool true]) := Lib.hid (cnt_some (by rw [HP.out.eq, List.drop_of_length_le (by omega)]; rfl))
      have HH := Lib.hid HP.out.box
      have HZ := Lib.hid HP.out.res
      have HB := Lib.hid HP.out.low
      have HI := Lib.hid (And.intro (hdL_one h') (info25 h'))
      have HZL : Hid ((hdL zeroH).length = (hdL h').length) := Lib.hid rfl
      clear HP
      generalize hdL h' = E at *
      go_wp2_with (first
        | ((with_reducible refine load_all ?_ 57 (.tmp 2) ?_ w.heap.size 0 E E.toArray ?_ _ ?_ Tryz.underlying57 ?_ ?_ ?_ ?_); rfl; rfl; go_must (rfl; exact rangeAt_row HH.out; rfl; exact HI.out.2; rfl))
        | ((with_reducible refine store_all ?_ 57 (.tmp 4) (.tmp 67) ?_ (w.heap.size + 1) E ?_ ?_ (hdL zeroH) ?_ HZ.out ?_ ?_ ?_); rfl; rfl; go_must (rfl; rfl; exact HZL.out; exact HI.out.2; exact HI.out.1; intro w6 R6 K6 E6)))
      refine bodyPost_ret (v := .tuple #[.agg E.toArray, .bool true]) (results_row_tmp (fn := Tryz.f108) (p := 4) (u := 5) rfl _ _ (w.heap.size + 1) _ E.toArray _ _ rfl R6.out Tryz.underlying57 rfl (by rw [List.size_toArray]; exact HI.out.2)) rfl ⟨by rw [HC.out], ?_⟩
      exact Lib.hid ((kept_fresh (kept_below HB.out) K6.out (by omega)).below (Nat.le_refl _) (fun _ _ h => h))
end Go.Proofs.YtpgaejalkbpbhaaGreatDoor

namespace Go.Proofs.YtpgaejalkbpbhaaGreatDoor
open Go.RowKit Sh Px Hd

/-- A size that a block may be asked for. -/
def SzOk (h : H) : Prop := 0 ≤ h.size ∧ h.size ≤ 4611686018427387904
theorem num_le {s : List UInt8} {m : Nat} (h : Un.numF s = some m) : (m : Int) ≤ 4611686018427387904 := by
  unfold Un.numF at h
  split at h
  · split at h
    · rename_i h2
      have := Option.some.inj h
      omega
    · cases h
  · cases h
theorem one_size {h h' : H} {p : Pr} (hs : SzOk h) (e : Un.oneF h p = some h') : SzOk h' := by
  unfold Un.oneF at e
  split at e
  · obtain ⟨m, hm, rfl⟩ := Option.map_eq_some_iff.1 e
    exact ⟨Int.natCast_nonneg m, num_le hm⟩
  split at e
  · obtain ⟨m, _, rfl⟩ := Option.map_eq_some_iff.1 e
    exact hs
  split at e
  · obtain ⟨m, _, rfl⟩ := Option.map_eq_some_iff.1 e
    exact hs
  split at e
  · obtain ⟨m, _, rfl⟩ := Option.map_eq_some_iff.1 e
    exact hs
  split at e
  · cases e; exact hs
  split at e
  · cases e; exact hs
  · cases e; exact hs
theorem counted_size : ∀ (L : List Pr) {h h' : H}, SzOk h → Un.countedF h L = some h' → SzOk h'
  | [], h, h', hs, e => by cases e; exact hs
  | p :: r, h, h', hs, e => by
    obtain ⟨x, hx, e2⟩ := Option.bind_eq_some_iff.1 e
    exact counted_size r (one_size hs hx) e2

/-- Texts that are no longer than what came in. -/
def TxOk (h : H) : Prop := h.name.length ≤ 100000000 ∧ h.link.length ≤ 100000000
theorem one_text {h h' : H} {p : Pr} (hs : TxOk h) (hp : p.2.length ≤ 100000000) (e : Un.oneF h p = some h') : TxOk h' := by
  unfold Un.oneF at e
  split at e
  · obtain ⟨m, _, rfl⟩ := Option.map_eq_some_iff.1 e
    exact hs
  split at e
  · obtain ⟨m, _, rfl⟩ := Option.map_eq_some_iff.1 e
    exact hs
  split at e
  · obtain ⟨m, _, rfl⟩ := Option.map_eq_some_iff.1 e
    exact hs
  split at e
  · obtain ⟨m, _, rfl⟩ := Option.map_eq_some_iff.1 e
    exact hs
  split at e
  · cases e; exact ⟨hp, hs.2⟩
  split at e
  · cases e; exact ⟨hs.1, hp⟩
  · cases e; exact hs
theorem counted_text : ∀ (L : List Pr) {h h' : H}, TxOk h → (∀ p ∈ L, p.2.length ≤ 100000000) → Un.countedF h L = some h' → TxOk h'
  | [], h, h', hs, _, e => by cases e; exact hs
  | p :: r, h, h', hs, hp, e => by
    obtain ⟨x, hx, e2⟩ := Option.bind_eq_some_iff.1 e
    exact counted_text r (one_text hs (hp p (List.mem_cons_self ..)) hx) (fun q hq => hp q (List.mem_cons_of_mem _ hq)) e2
theorem built_ent (s s1 s2 s3 : ByteArray) (a b c d e f g : Int) : Tryz.prog.built 30 [(0, .string s), (1, .agg #[.int .i64 a, .int .i64 b, .int .i64 c, .int .i64 d, .int .i64 e, .string s1, .string s2, .int .i64 f, .int .i64 g, .string s3])] = some #[.string s, .int .i64 a, .int .i64 b, .int .i64 c, .int .i64 d, .int .i64 e, .string s1, .string s2, .int .i64 f, .int .i64 g, .string s3] := by kernel_rfl

theorem kept_more {a b c : World} {S : Nat → Prop} {g : Nat} (h : Kept a b S) (k : Kept b c (· = g)) (hg : a.heap.size ≤ g) : Kept a c S :=
  ⟨k.os.trans h.os, k.tape.trans h.tape, k.output.trans h.output, Nat.le_trans h.size k.size, fun i hi hn => (k.block i (Nat.lt_of_lt_of_le hi h.size) (by omega)).trans (h.block i hi hn)⟩
theorem kept_then {a b c : World} {S : Nat → Prop} (h : Kept a b S) (k : Kept b c (fun _ => False)) : Kept a c S := h.trans (k.mono (fun _ _ h => h.elim))
/-- What a call leans on, as long as nothing under B turns. -/
def UnLow (B : Nat) (w : World) : Prop := ∀ w', Below B w w' → UnEnv w'
theorem UnEnv.toLow {w : World} (h : UnEnv w) : UnLow w.heap.size w := fun _ hb => h.below hb
theorem UnLow.here {B : Nat} {w : World} (h : UnLow B w) : UnEnv w := h w (Below.refl _ _)
theorem UnLow.on {B : Nat} {w w1 : World} (h : UnLow B w) (hb : Below B w w1) : UnLow B w1 := fun w' h' => h w' (hb.trans h')
theorem UnLow.kept {B r : Nat} {w w1 : World} (h : UnLow B w) (k : Kept w w1 (· = r)) (hr : B ≤ r) (hB : B ≤ w.heap.size) : UnLow B w1 := h.on (k.below hB (fun _ _ _ => by omega))

def EntryIs (w : World) (B r : Nat) (xv ev : Value) (s : Un.St) (o : Bool) (h : H) (k : Nat) (e : Ending) (w' : World) : Prop :=
  match Un.entryF h k s.ext s.rest with
  | .no m => e = .returned (.tuple #[.agg (entL zeroE).toArray, .int .i64 m]) ∧ Hid (Kept w w' (· = r))
  | .yes en r2 => e = .returned (.tuple #[.agg (entL en).toArray, .int .i64 0]) ∧ (∃ A2 n2 c2, Hid (ArAt w' B r A2 n2 c2 xv ev ⟨r2, s.ext, s.ents⟩ o)) ∧ Hid (Kept w w' (· = r))
theorem EntryIs.no {w w' : World} {B r k : Nat} {xv ev : Value} {s : Un.St} {o : Bool} {h : H} {e : Ending} {m : Nat} {i : Int} (hf : Un.entryF h k s.ext s.rest = .no m) (hi : i = (m : Nat)) (he : e = .returned (.tuple #[.agg (entL zeroE).toArray, .int .i64 i])) (hk : Hid (Kept w w' (· = r))) : EntryIs w B r xv ev s o h k e w' := by
  unfold EntryIs; rw [hf]; exact ⟨by rw [he, hi], hk⟩
theorem EntryIs.yes {w w' : World} {B r k : Nat} {xv ev : Value} {s : Un.St} {o : Bool} {h : H} {e : Ending} {en : Un.E} {r2 : List UInt8} (hf : Un.entryF h k s.ext s.rest = .yes en r2) (he : e = .returned (.tuple #[.agg (entL en).toArray, .int .i64 0])) (ha : ∃ A2 n2 c2, Hid (ArAt w' B r A2 n2 c2 xv ev ⟨r2, s.ext, s.ents⟩ o)) (hk : Hid (Kept w w' (· = r))) : EntryIs w B r xv ev s o h k e w' := by
  unfold EntryIs; rw [hf]; exact ⟨he, ha, hk⟩
theorem entry_cnt {h : H} {k : Nat} {L : List Pr} {r : List UInt8} (e : Un.countedF h L = none) : Un.entryF h k L r = .no 3 := by unfold Un.entryF; rw [e]
theorem entry_path {h h2 : H} {k : Nat} {L : List Pr} {r : List UInt8} (e : Un.countedF h L = some h2) (hp : h2.name = [] ∨ Un.textOk h2.name = false ∨ Un.textOk h2.link = false) : Un.entryF h k L r = .no 9 := by unfold Un.entryF; rw [e]; simp only; rw [if_pos hp]
theorem entry_short {h h2 : H} {k : Nat} {L : List Pr} {r : List UInt8} (e : Un.countedF h L = some h2) (hp : ¬ (h2.name = [] ∨ Un.textOk h2.name = false ∨ Un.textOk h2.link = false)) (ht : Un.takeF h2.size.toNat r = none) : Un.entryF h k L r = .no 4 := by unfold Un.entryF; rw [e]; simp only; rw [if_neg hp, ht]
theorem entry_form {h h2 : H} {k : Nat} {L : List Pr} {r d r2 : List UInt8} (e : Un.countedF h L = some h2) (hp : ¬ (h2.name = [] ∨ Un.textOk h2.name = false ∨ Un.textOk h2.link = false)) (ht : Un.takeF h2.size.toNat r = some (d, r2)) (hk : k ≠ 0 ∧ h2.size ≠ 0) : Un.entryF h k L r = .no 3 := by unfold Un.entryF; rw [e]; simp only; rw [if_neg hp, ht]; simp only; rw [if_pos hk]
theorem entry_ok {h h2 : H} {k : Nat} {L : List Pr} {r d r2 : List UInt8} (e : Un.countedF h L = some h2) (hp : ¬ (h2.name = [] ∨ Un.textOk h2.name = false ∨ Un.textOk h2.link = false)) (ht : Un.takeF h2.size.toNat r = some (d, r2)) (hk : ¬ (k ≠ 0 ∧ h2.size ≠ 0)) : Un.entryF h k L r = .yes (Un.entryOf h2 k d L) r2 := by unfold Un.entryF; rw [e]; simp only; rw [if_neg hp, ht]; simp only; rw [if_neg hk]
theorem infoE (e : Un.E) : (Tryz.prog.info? 30).map (·.size) = some (entL e).length := by
  have : (Tryz.prog.info? 30).map (·.size) = some 11 := by kernel_rfl
  exact this
theorem built_ent0 : Tryz.prog.built 30 [] = some (entL zeroE).toArray := by kernel_rfl
theorem entL_all (e : Un.E) : (entL e).toArray.all (·.oneCell') = true := all_oneCell_toArray (entL_one e)

set_option maxRecDepth 100000 in
set_option maxHeartbeats 16000000 in
theorem un_entry (w : World) (B r : Nat) (A : Option Addr) (n c : Nat) (xv ev : Value) (s : Un.St) (o : Bool) (ha : ArAt w B r A n c xv ev s o) (h : H) (k : Nat) (hs : SzOk h) (hE : UnLow B w) (hx : (flat s.ext).length ≤ 100000000) (hnl : h.name.length ≤ 100000000) (hll : h.link.length ≤ 100000000) :
    Calls Tryz.prog 86 #[.pointer (some ⟨r, 0, none⟩), hdV h, .int .i64 k] w (EntryIs w B r xv ev s o h k) := by
  have HA := Lib.hid ha
  have HE := Lib.hid hE.here
  have HEB := Lib.hid hE
  have HX := Lib.hid hx
  have HS := Lib.hid hs
  have hr := ha.row.lt
  have HR := Lib.hid hr
  obtain ⟨-, -, -, -, -, hevb⟩ := ha.ents.shape
  have HEVB := Lib.hid hevb
  clear hevb
  obtain ⟨Ax, cx, rfl, hPx, -, -, -⟩ := ha.ext.pairs
  have HPX := Lib.hid hPx
  have hxn : s.ext.length ≤ 100000000 := Nat.le_trans (flat_le s.ext) hx
  have HXN := Lib.hid hxn
  clear ha hE hx hs hPx hxn
  rw [hdV_is]
  obtain ⟨D, hD⟩ : ∃ D, D = hdL h := ⟨_, rfl⟩
  rw [← hD]
  have HDI : Hid ((Tryz.prog.info? 57).map (·.size) = some D.length) := Lib.hid (by rw [hD]; exact info25 h)
  have HD := Lib.hid hD
  clear hD
  go_enter Tryz.func86, Tryz.ntmps86
  go_upto_region 1 with fail
  have RB : Hid (Row ((w.alloc (.cells D.toArray 57)).alloc (.cells #[.string ⟨#[]⟩, .int .i64 0, .int .i64 0, .int .i64 0, .int .i64 0, .int .i64 0, .string ⟨#[]⟩, .string ⟨#[]⟩, .int .i64 0, .int .i64 0, .string ⟨#[]⟩] 30)) w.heap.size 57 D) := Lib.hid ((kept_alloc _ _).row (Row.new _ _ _) (fun h => h))
  have RE : Hid (Row ((w.alloc (.cells D.toArray 57)).alloc (.cells #[.string ⟨#[]⟩, .int .i64 0, .int .i64 0, .int .i64 0, .int .i64 0, .int .i64 0, .string ⟨#[]⟩, .string ⟨#[]⟩, .int .i64 0, .int .i64 0, .string ⟨#[]⟩] 30)) (w.heap.size + 1) 30 (entL zeroE)) := Lib.hid (Row.at_ _ _ _ rfl (by simp))
  have KA : Hid (Below w.heap.size w ((w.alloc (.cells D.toArray 57)).alloc (.cells #[.string ⟨#[]⟩, .int .i64 0, .int .i64 0, .int .i64 0, .int .i64 0, .int .i64 0, .string ⟨#[]⟩, .string ⟨#[]⟩, .int .i64 0, .int .i64 0, .string ⟨#[]⟩] 30))) := Lib.hid (((Below.refl _ _).alloc (Nat.le_refl _) _).alloc (by simp) _)
  generalize World.alloc _ _ = w1 at RB RE KA ⊢
  have HB := Lib.hid (show Kept w1 w1.drew (· = w.heap.size) from (Kept.refl w1 _).drewN 1)
  have HC1 : Hid (∀ v, Kept w1 v (· = w.heap.size) → v.cell? ⟨r, 1, none⟩ = some (.slice Ax s.ext.length cx)) := Lib.hid (fun v hv => hv.cell ((kept_below KA.out).cell HA.out.c1 (fun h => h)) (by have := HR.out; simp only; omega))
  refine wp_region_held (S := fun v => Kept w1 v (· = w.heap.size)) (by kernel_rfl) ?_
  change wpAnyH _ _ _ _ _ _ _ _ (World.drew _)
  have RB2 : Hid (Row w1.drew w.heap.size 57 D) := Lib.hid (RB.out.drewN 1)
  have hdr : w1.drew.heap.size = w1.heap.size := rfl
  have HDR := Lib.hid hdr
  clear hdr
  generalize w1.drew = w2 at HB RB2 HDR ⊢
  refine wpAnyH_take (i := 1) (v := ?_) rfl (by kernel_rfl) (by kernel_rfl) (by kernel_rfl) (fun _ _ _ h => h) (Or.inl ⟨by rfl, ?_⟩) HB.out ?_
  rotate_left
  · (intro v hv; go_simp <;> with_reducible rfl)
  simp only [List.getElem_toArray, List.getElem_cons_succ, List.getElem_cons_zero, Act.put, List.setIfInBounds_toArray, List.set_cons_zero, List.set_cons_succ]
  refine wpAnyH_take (i := 2) (v := ?_) rfl (by kernel_rfl) (by kernel_rfl) (by kernel_rfl) (fun _ _ _ h => h) (Or.inl ⟨by rfl, ?_⟩) HB.out ?_
  rotate_left
  · (intro v hv; go_simp <;> with_reducible rfl)
  simp only [List.getElem_toArray, List.getElem_cons_succ, List.getElem_cons_zero, Act.put, List.setIfInBounds_toArray, List.set_cons_zero, List.set_cons_succ]
  refine wpAnyH_take (i := 3) (v := ?_) rfl (by kernel_rfl) (by kernel_rfl) (by kernel_rfl) (fun _ _ _ h => h) (Or.inl ⟨by rfl, ?_⟩) HB.out ?_
  rotate_left
  · (intro v hv; go_simp <;> with_reducible rfl)
  simp only [List.getElem_toArray, List.getElem_cons_succ, List.getElem_cons_zero, Act.put, List.setIfInBounds_toArray, List.set_cons_zero, List.set_cons_succ]
  refine wpAnyH_take (i := 4) (v := .slice Ax s.ext.length cx) rfl (by kernel_rfl) (by kernel_rfl) (by kernel_rfl) (fun _ _ _ h => h) (Or.inl ⟨by rfl, fun v hv => by have hc := HC1.out v hv; go_simp <;> with_reducible rfl⟩) HB.out ?_
  simp only [List.getElem_toArray, List.getElem_cons_succ, List.getElem_cons_zero, Act.put, List.setIfInBounds_toArray, List.set_cons_zero, List.set_cons_succ]
  refine wpAnyH_ready (rs := [0]) (by kernel_rfl) (by simp) ?_
  refine AllReadyH.cons rfl (fun K hK => ?_) AllReadyH.nil
  rw [if_pos (by rfl)]
  refine wp_load_mid 57 (.tmp 4) (by rfl) w.heap.size 0 (by rfl) D _ (rangeAt_row RB2.out) Tryz.underlying57 rfl HDI.out ?_
  refine hK _ _ HB.out (fun _ => ?_)
  clear hK K
  simp only [List.getElem_toArray, List.getElem_cons_zero, Act.put, List.setIfInBounds_toArray, List.set_cons_zero, List.set_cons_succ]
  have K2 := Lib.hid ((kept_fresh (kept_below KA.out) HB.out (Nat.le_refl _)).below (Nat.le_refl _) (fun _ _ h => h))
  have HCN : Hid (Calls Tryz.prog 108 #[.agg D.toArray, .slice Ax s.ext.length cx] w2 fun e w' => e = .returned (cntV h s.ext) ∧ Hid (Below w2.heap.size w2 w')) := Lib.hid (by
    rw [HD.out, ← hdV_is]
    exact un_counted w2 h Ax s.ext.length cx s.ext (HPX.out.below K2.out) HXN.out (fun p hp => by
      have := flat_mem s.ext p hp
      have := HX.out
      omega) (HE.out.below K2.out))
  obtain ⟨E, z, hcv, hEi, hE1, hz0, hz1⟩ : ∃ (E : List Value) (z : Bool), cntV h s.ext = .tuple #[.agg E.toArray, .bool z] ∧ (Tryz.prog.info? 57).map (·.size) = some E.length ∧ E.toArray.all (·.oneCell') = true ∧ (z = false → Un.countedF h s.ext = none) ∧ (z = true → ∃ h2, Un.countedF h s.ext = some h2 ∧ E = hdL h2) := by
    cases hcn : Un.countedF h s.ext with
    | none => exact ⟨hdL zeroH, false, cnt_none hcn, info25 _, hdL_one _, fun _ => rfl, fun h => by cases h⟩
    | some h2 => exact ⟨hdL h2, true, cnt_some hcn, info25 _, hdL_one _, (fun h => by cases h), fun _ => ⟨h2, rfl, rfl⟩⟩
  rw [hcv] at HCN
  have HEI := Lib.hid (And.intro hEi hE1)
  have HZ := Lib.hid (And.intro hz0 hz1)
  clear hcv hEi hE1 hz0 hz1
  refine wpAnyH_ready (rs := [5]) (by kernel_rfl) (by simp) ?_
  refine AllReadyH.cons rfl (fun K hK => ?_) AllReadyH.nil
  rw [if_pos (by rfl)]
  refine wp_enterP 108 #[.agg D.toArray, .slice Ax s.ext.length cx] (by first | rfl | kernel_rfl) HCN.out ?_
  rintro e w3 ⟨rfl, K3⟩
  have RB3 := Lib.hid ((kept_below K3.out).row RB2.out (fun h => h))
  have HB3 := Lib.hid (kept_eq HB.out (kept_any K3.out))
  clear HB HCN RB2 HDR
  have HB := HB3
  refine ⟨_, rfl, ?_⟩
  refine hK _ _ HB.out (fun _ => ?_)
  clear hK K
  simp only [List.getElem_toArray, List.getElem_cons_succ, List.getElem_cons_zero, Act.put, List.setIfInBounds_toArray, List.set_cons_zero, List.set_cons_succ]
  refine wpAnyH_take (i := 6) (v := ?_) rfl (by kernel_rfl) (by kernel_rfl) (by kernel_rfl) (fun _ _ _ h => h) (Or.inl ⟨by rfl, ?_⟩) HB.out ?_
  rotate_left
  · (intro v hv; go_simp <;> with_reducible rfl)
  simp only [List.getElem_toArray, List.getElem_cons_succ, List.getElem_cons_zero, Act.put, List.setIfInBounds_toArray, List.set_cons_zero, List.set_cons_succ]
  refine wpAnyH_take (i := 7) (v := ?_) rfl (by kernel_rfl) (by kernel_rfl) (by kernel_rfl) (fun _ _ _ h => h) (Or.inl ⟨by rfl, ?_⟩) HB.out ?_
  rotate_left
  · (intro v hv; go_simp <;> with_reducible rfl)
  simp only [List.getElem_toArray, List.getElem_cons_succ, List.getElem_cons_zero, Act.put, List.setIfInBounds_toArray, List.set_cons_zero, List.set_cons_succ]
  refine wpAnyH_take (i := 8) (v := ?_) rfl (by kernel_rfl) (by kernel_rfl) (by kernel_rfl) (fun _ _ _ h => h) (Or.inl ⟨by rfl, ?_⟩) HB.out ?_
  rotate_left
  · (intro v hv; go_simp <;> with_reducible rfl)
  simp only [List.getElem_toArray, List.getElem_cons_succ, List.getElem_cons_zero, Act.put, List.setIfInBounds_toArray, List.set_cons_zero, List.set_cons_succ]
  refine wpAnyH_ready (rs := [9]) (by kernel_rfl) (by simp) ?_
  refine AllReadyH.cons rfl (fun K hK => ?_) AllReadyH.nil
  rw [if_pos (by rfl)]
  refine wp_store_row 57 (.tmp 4) (.tmp 18) (by rfl) w.heap.size E.toArray (by rfl) (by rfl) 57 D.toArray RB3.out (by rw [List.size_toArray]; exact HEI.out.1) (by rw [List.size_toArray, List.size_toArray]; exact Option.some.inj (HDI.out.symm.trans HEI.out.1)) HEI.out.2 ?_
  have RB4 : Hid (Row (w3.setRow w.heap.size E.toArray) w.heap.size 57 E) := Lib.hid (RB3.out.setRow _)
  have HB4 : Hid (Kept w1 (w3.setRow w.heap.size E.toArray) (· = w.heap.size)) := Lib.hid (kept_eq HB.out ((Kept.refl w3 (· = w.heap.size)).setRow (b := w.heap.size) (.inr rfl) _))
  clear HB HB3 RB3
  generalize w3.setRow _ _ = w4 at RB4 HB4 ⊢
  have HB := HB4
  refine hK _ _ HB.out (fun _ => ?_)
  clear hK K
  simp only [List.getElem_toArray, List.getElem_cons_succ, List.getElem_cons_zero, Act.put]
  refine wpAnyH_take (i := 10) (v := ?_) rfl (by kernel_rfl) (by kernel_rfl) (by kernel_rfl) (fun _ _ _ h => h) (Or.inl ⟨by rfl, ?_⟩) HB.out ?_
  rotate_left
  · (intro v hv; go_simp <;> with_reducible rfl)
  simp only [List.getElem_toArray, List.getElem_cons_succ, List.getElem_cons_zero, Act.put, List.setIfInBounds_toArray, List.set_cons_zero, List.set_cons_succ]
  refine wpAnyH_done (by kernel_rfl) ?_ _
  have RE4 := Lib.hid (HB4.out.row RE.out (by omega))
  have KW := Lib.hid ((kept_fresh (kept_below KA.out) HB4.out (Nat.le_refl _)).below (Nat.le_refl _) (fun _ _ h => h))
  have HA4 := Lib.hid (HA.out.below KW.out)
  have HE4 := Lib.hid (HE.out.below KW.out)
  have HPX4 := Lib.hid (HPX.out.below KW.out)
  have HLO : Hid (w.heap.size + 1 < w4.heap.size) := Lib.hid RE4.out.lt
  clear HB HB4 HC1 RB RE KA K2 HA HE HPX HDI HD
  cases z with
  | false =>
    have HN := Lib.hid (entry_cnt (k := k) (r := s.rest) (HZ.out.1 rfl))
    clear HZ
    go_wp2_with (first
      | ((with_reducible refine build_all ?_ 30 #[] ?_ (entL zeroE).toArray ?_ ?_); rfl; rfl; go_must (refine Eq.trans ?_ built_ent0; kernel_rfl))
      | ((with_reducible refine store_all ?_ 30 (.tmp 6) (.tmp 22) ?_ (w.heap.size + 1) (entL zeroE) ?_ ?_ (entL zeroE) ?_ RE4.out ?_ ?_ ?_); rfl; rfl; go_must (rfl; rfl; rfl; exact infoE _; exact entL_all _; intro w6 R6 K6 E6)))
    refine bodyPost_ret (v := .tuple #[.agg (entL zeroE).toArray, .int .i64 3]) (results_row_tmp (fn := Tryz.f86) (p := 6) (u := 7) rfl _ _ (w.heap.size + 1) _ (entL zeroE).toArray _ _ rfl R6.out Tryz.underlying30 rfl (infoE _)) rfl (EntryIs.no HN.out rfl rfl ?_)
    exact Lib.hid ((kept_fresh (kept_below KW.out) K6.out (by omega)).mono (fun _ _ h => h.elim))
  | true =>
    obtain ⟨h2, hcn, rfl⟩ := HZ.out.2 rfl
    clear HZ HEI
    have HS2 := Lib.hid (counted_size s.ext HS.out hcn)
    have HTX := Lib.hid (counted_text s.ext ⟨hnl, hll⟩ (fun p hp => by
      have := flat_mem s.ext p hp
      have := HX.out
      omega) hcn)
    have HCN := Lib.hid hcn
    clear hcn hnl hll
    obtain ⟨Z, hZ⟩ : ∃ Z : Nat, h2.size = Z := ⟨h2.size.toNat, by have := HS2.out.1; omega⟩
    have hZ2 : h2.size.toNat = Z := by omega
    have HZ2 := Lib.hid (And.intro hZ hZ2)
    have hZb : Z ≤ 4611686018427387904 := by have := HS2.out.2; omega
    have HZB := Lib.hid hZb
    have c0 : w4.cell? ⟨w.heap.size, 0, none⟩ = some (.string (sb h2.name)) := RB4.out.cell rfl
    have c4 : w4.cell? ⟨w.heap.size, 4, none⟩ = some (.int .i64 (Z : Int)) := by
      have := RB4.out.cell (i := 4) rfl
      rw [hZ] at this
      exact this
    have c7 : w4.cell? ⟨w.heap.size, 7, none⟩ = some (.string (sb h2.link)) := RB4.out.cell rfl
    have HT1 := Lib.hid (fun W => un_isText W h2.name (by have := HTX.out.1; omega))
    have HT2 := Lib.hid (fun W => un_isText W h2.link (by have := HTX.out.2; omega))
    clear hZ hZ2 hZb HS HS2
    by_cases hn0 : h2.name = []
    · have HN := Lib.hid (entry_path (k := k) (r := s.rest) HCN.out (.inl hn0))
      have q0 : (sb h2.name).toList = [] := by rw [hn0]; exact sb_list _
      clear hn0 c4 c7 HCN
      generalize sb h2.name = S0 at *
      go_wp2_with (first
        | ((with_reducible refine build_all ?_ 30 #[] ?_ (entL zeroE).toArray ?_ ?_); rfl; rfl; go_must (refine Eq.trans ?_ built_ent0; kernel_rfl))
        | ((with_reducible refine store_all ?_ 30 (.tmp 6) (.tmp 38) ?_ (w.heap.size + 1) (entL zeroE) ?_ ?_ (entL zeroE) ?_ RE4.out ?_ ?_ ?_); rfl; rfl; go_must (rfl; rfl; rfl; exact infoE _; exact entL_all _; intro w6 R6 K6 E6)))
      refine bodyPost_ret (v := .tuple #[.agg (entL zeroE).toArray, .int .i64 9]) (results_row_tmp (fn := Tryz.f86) (p := 6) (u := 7) rfl _ _ (w.heap.size + 1) _ (entL zeroE).toArray _ _ rfl R6.out Tryz.underlying30 rfl (infoE _)) rfl (EntryIs.no HN.out rfl rfl ?_)
      exact Lib.hid ((kept_fresh (kept_below KW.out) K6.out (by omega)).mono (fun _ _ h => h.elim))
    have q0 : ¬ (sb h2.name).toList = [] := by rw [sb_list]; exact hn0
    have q1 : (sb h2.name).toList.isEmpty = false := by
      rw [sb_list]
      cases hh : h2.name with
      | nil => exact absurd hh hn0
      | cons _ _ => rfl
    have HN0 := Lib.hid hn0
    clear hn0
    cases htn : Un.textOk h2.name with
    | false =>
      have HN := Lib.hid (entry_path (k := k) (r := s.rest) HCN.out (.inr (.inl htn)))
      rw [htn] at HT1
      clear htn c4 c7 HCN
      generalize sb h2.name = S0 at *
      go_wp2_with (first
        | (go_at_call 109; go_must (refine (HT1.out _).mono ?_; rintro e wa ⟨rfl, rfl⟩))
        | ((with_reducible refine build_all ?_ 30 #[] ?_ (entL zeroE).toArray ?_ ?_); rfl; rfl; go_must (refine Eq.trans ?_ built_ent0; kernel_rfl))
        | ((with_reducible refine store_all ?_ 30 (.tmp 6) (.tmp 38) ?_ (w.heap.size + 1) (entL zeroE) ?_ ?_ (entL zeroE) ?_ RE4.out ?_ ?_ ?_); rfl; rfl; go_must (rfl; rfl; rfl; exact infoE _; exact entL_all _; intro w6 R6 K6 E6)))
      refine bodyPost_ret (v := .tuple #[.agg (entL zeroE).toArray, .int .i64 9]) (results_row_tmp (fn := Tryz.f86) (p := 6) (u := 7) rfl _ _ (w.heap.size + 1) _ (entL zeroE).toArray _ _ rfl R6.out Tryz.underlying30 rfl (infoE _)) rfl (EntryIs.no HN.out rfl rfl ?_)
      exact Lib.hid ((kept_fresh (kept_below KW.out) K6.out (by omega)).mono (fun _ _ h => h.elim))
    | true =>
    cases htl : Un.textOk h2.link with
    | false =>
      have HN := Lib.hid (entry_path (k := k) (r := s.rest) HCN.out (.inr (.inr htl)))
      rw [htn] at HT1
      rw [htl] at HT2
      clear htn htl c4 HCN
      generalize sb h2.name = S0 at *
      generalize sb h2.link = S7 at *
      go_wp2_with (first
        | (go_at_call 109; go_must (first | (with_reducible refine (HT1.out _).mono ?_; rintro e wa ⟨rfl, rfl⟩) | (with_reducible refine (HT2.out _).mono ?_; rintro e wa ⟨rfl, rfl⟩)))
        | ((with_reducible refine build_all ?_ 30 #[] ?_ (entL zeroE).toArray ?_ ?_); rfl; rfl; go_must (refine Eq.trans ?_ built_ent0; kernel_rfl))
        | ((with_reducible refine store_all ?_ 30 (.tmp 6) (.tmp 38) ?_ (w.heap.size + 1) (entL zeroE) ?_ ?_ (entL zeroE) ?_ RE4.out ?_ ?_ ?_); rfl; rfl; go_must (rfl; rfl; rfl; exact infoE _; exact entL_all _; intro w6 R6 K6 E6)))
      refine bodyPost_ret (v := .tuple #[.agg (entL zeroE).toArray, .int .i64 9]) (results_row_tmp (fn := Tryz.f86) (p := 6) (u := 7) rfl _ _ (w.heap.size + 1) _ (entL zeroE).toArray _ _ rfl R6.out Tryz.underlying30 rfl (infoE _)) rfl (EntryIs.no HN.out rfl rfl ?_)
      exact Lib.hid ((kept_fresh (kept_below KW.out) K6.out (by omega)).mono (fun _ _ h => h.elim))
    | true =>
    have HP : Hid (¬ (h2.name = [] ∨ Un.textOk h2.name = false ∨ Un.textOk h2.link = false)) := Lib.hid (by rw [htn, htl]; rintro (h | h | h); exact HN0.out h; cases h; cases h)
    rw [htn] at HT1
    rw [htl] at HT2
    clear htn htl
    have HTK := Lib.hid (un_take w4 B r A n c _ ev s o HA4.out Z HZB.out)
    cases htf : Un.takeF Z s.rest with
    | none =>
      have HN := Lib.hid (entry_short (k := k) HCN.out HP.out (by rw [HZ2.out.2]; exact htf))
      have HTN := Lib.hid (HTK.out.mono fun _ _ h => h.no htf)
      clear htf HTK HCN HP
      generalize sb h2.name = S0 at *
      generalize sb h2.link = S7 at *
      go_wp2_with (first
        | (go_at_call 109; go_must (first | (with_reducible refine (HT1.out _).mono ?_; rintro e wa ⟨rfl, rfl⟩) | (with_reducible refine (HT2.out _).mono ?_; rintro e wa ⟨rfl, rfl⟩)))
        | (go_at_call 50; go_must (refine HTN.out.mono ?_; rintro e wb ⟨rfl, rfl⟩))
        | ((with_reducible refine build_all ?_ 30 #[] ?_ (entL zeroE).toArray ?_ ?_); rfl; rfl; go_must (refine Eq.trans ?_ built_ent0; kernel_rfl))
        | ((with_reducible refine store_all ?_ 30 (.tmp 6) (.tmp 48) ?_ (w.heap.size + 1) (entL zeroE) ?_ ?_ (entL zeroE) ?_ RE4.out ?_ ?_ ?_); rfl; rfl; go_must (rfl; rfl; rfl; exact infoE _; exact entL_all _; intro w6 R6 K6 E6)))
      refine bodyPost_ret (v := .tuple #[.agg (entL zeroE).toArray, .int .i64 4]) (results_row_tmp (fn := Tryz.f86) (p := 6) (u := 7) rfl _ _ (w.heap.size + 1) _ (entL zeroE).toArray _ _ rfl R6.out Tryz.underlying30 rfl (infoE _)) rfl (EntryIs.no HN.out rfl rfl ?_)
      exact Lib.hid ((kept_fresh (kept_below KW.out) K6.out (by omega)).mono (fun _ _ h => h.elim))
    | some dr =>
    obtain ⟨d, r2⟩ := dr
    have HTS := Lib.hid (HTK.out.mono fun _ _ h => h.yes htf)
    have HTF : Hid (Un.takeF h2.size.toNat s.rest = some (d, r2)) := Lib.hid (by rw [HZ2.out.2]; exact htf)
    clear htf HTK
    generalize hS0 : sb h2.name = S0 at *
    generalize hS7 : sb h2.link = S7 at *
    have HS07 := Lib.hid (And.intro hS0 hS7)
    clear hS0 hS7
    go_upto_region 7 with (first
        | (go_at_call 109; go_must (first | (with_reducible refine (HT1.out _).mono ?_; rintro e wa ⟨rfl, rfl⟩) | (with_reducible refine (HT2.out _).mono ?_; rintro e wa ⟨rfl, rfl⟩)))
        | (go_at_call 50; go_must (refine HTS.out.mono ?_; rintro e w5 ⟨rfl, ⟨A2, n2, c2, HA5⟩, HB5, K5⟩)))
    have RB5 := Lib.hid (K5.out.row RB4.out (by omega))
    have RE5 := Lib.hid (K5.out.row RE4.out (by omega))
    have KW5 : Hid (Kept w w5 (· = r)) := Lib.hid ((kept_any (g := r) KW.out).trans K5.out)
    have HE5 := Lib.hid (HEB.out.kept KW5.out HA5.out.new (by have := HA5.out.new; omega))
    have HLO5 : Hid (w.heap.size + 1 < w5.heap.size) := Lib.hid RE5.out.lt
    clear c0 c4 c7 RE4 RB4 KW HA4 HE4 HPX4 HLO HEB
    obtain ⟨Ay, cy, ey, hPy, -, -, -⟩ := HA5.out.ext.pairs
    simp only [Value.slice.injEq] at ey
    obtain ⟨ey1, -, ey2⟩ := ey
    subst ey1
    subst ey2
    have HPX5 := Lib.hid hPy
    clear hPy
    by_cases hk0 : k = 0
    · subst hk0
      have HY := Lib.hid (entry_ok (k := 0) HCN.out HP.out HTF.out (fun h => h.1 rfl))
      clear HCN HP HTF HTS HT1 HT2
      obtain ⟨SL, hSL⟩ : ∃ S, sb (nodeE h2 0).link = S := ⟨_, rfl⟩
      obtain ⟨MJ, hMJ⟩ : ∃ S, (nodeE h2 0).major = S := ⟨_, rfl⟩
      obtain ⟨MN, hMN⟩ : ∃ S, (nodeE h2 0).minor = S := ⟨_, rfl⟩
      have HNO : Hid (∀ W, Calls Tryz.prog 110 #[.agg (hdL h2).toArray, .int .i64 ((0 : Nat) : Int)] W fun e w' => e = .returned (.agg ([.int .i64 (0 : Int), .int .i64 (h2.mode % 4096), .int .i64 h2.uid, .int .i64 h2.gid, .int .i64 h2.mtime, .string SL, .string ⟨#[]⟩, .int .i64 MJ, .int .i64 MN, .string ⟨#[]⟩] : List Value).toArray) ∧ Hid (Below W.heap.size W w')) := Lib.hid (fun W => by
        have h := un_nodeOf W h2 0
        rw [hdV_is] at h
        rw [← hSL, ← hMJ, ← hMN]
        exact h)
      have HEN : Hid (entL (Un.entryOf h2 0 d s.ext) = .string S0 :: [.int .i64 (0 : Int), .int .i64 (h2.mode % 4096), .int .i64 h2.uid, .int .i64 h2.gid, .int .i64 h2.mtime, .string SL, .string (sb d), .int .i64 MJ, .int .i64 MN, .string (sb (Un.attrsF s.ext))]) := Lib.hid (by
        rw [← hSL, ← hMJ, ← hMN, ← HS07.out.1]
        rfl)
      clear hSL hMJ hMN
      obtain ⟨DH, hDH⟩ : ∃ DH, DH = hdL h2 := ⟨_, rfl⟩
      have HDI : Hid ((Tryz.prog.info? 57).map (·.size) = some DH.length) := Lib.hid (by rw [hDH]; exact info25 h2)
      rw [← hDH] at RB5 HNO
      have c0 : w5.cell? ⟨w.heap.size, 0, none⟩ = some (.string S0) := by
        have := RB5.out.cell (i := 0) (v := .string (sb h2.name)) (by rw [hDH]; rfl)
        rw [HS07.out.1] at this
        exact this
      have C0 := Lib.hid c0
      clear hDH c0
      go_upto_region 12 with (first
        | ((with_reducible refine load_all ?_ 57 (.tmp 4) ?_ w.heap.size 0 DH DH.toArray ?_ _ ?_ Tryz.underlying57 ?_ ?_ ?_ ?_); rfl; rfl; go_must (rfl; exact rangeAt_row RB5.out; rfl; exact HDI.out; rfl))
        | (go_at_call 110; go_must (refine (HNO.out _).mono ?_; rintro e w6 ⟨rfl, K6⟩))
        | ((with_reducible refine store_all ?_ 28 (.tmp 10) (.tmp 59) ?_ w6.heap.size [.int .i64 (0 : Int), .int .i64 (h2.mode % 4096), .int .i64 h2.uid, .int .i64 h2.gid, .int .i64 h2.mtime, .string SL, .string ⟨#[]⟩, .int .i64 MJ, .int .i64 MN, .string ⟨#[]⟩] ?_ ?_ (nodeL zeroE) ?_ ?_ ?_ ?_ ?_); rfl; rfl; go_must (rfl; rfl; rfl; exact Row.at_ _ _ _ rfl rfl; exact infoN zeroE; exact node_one _ _ _ _ _ _ _ _ _ _; intro w7 R7 K7 E7)))
      have KN := Lib.hid ((kept_below K6.out).trans (kept_stored K7.out))
      have HG : Hid (w5.heap.size ≤ w6.heap.size) := Lib.hid K6.out.size
      have hg : w5.heap.size ≤ w6.heap.size := HG.out
      clear K7 E7 K6 HNO HDI
      generalize w6.heap.size = g at R7 HG hg ⊢
      have hcv := conv_bytes w7 A Z c d (HB5.out.kept KN.out (fun _ _ _ _ h => h))
      change (convert 31 9 (.slice A Z c)).run Tryz.prog w7 = .ok (.string (sb d)) w7 at hcv
      have n6 := R7.out.cell (i := 6) rfl
      have f6 := R7.out.frozen 6
      obtain ⟨SD, hSD⟩ : ∃ S, sb d = S := ⟨_, rfl⟩
      rw [hSD] at hcv HEN
      go_upto_region 13 with fail
      have R8 := Lib.hid (R7.out.set 6 (.string SD))
      change Hid (Row _ g 28 [.int .i64 (0 : Int), .int .i64 (h2.mode % 4096), .int .i64 h2.uid, .int .i64 h2.gid, .int .i64 h2.mtime, .string SL, .string SD, .int .i64 MJ, .int .i64 MN, .string ⟨#[]⟩]) at R8
      have K8 := Lib.hid (kept_fresh KN.out (kept_set (w := w7) (r := g) (i := 6) (.string SD)) hg)
      clear hcv n6 f6 R7 KN
      generalize w7.setCell _ _ = w8 at R8 K8 ⊢
      have HA8 := Lib.hid (HA5.out.below (K8.out.below (Nat.le_refl _) (fun _ _ h => h)))
      have hx8 := HA8.out.c1
      have HE8 := Lib.hid (HE5.out.on (K8.out.below (by have := HA5.out.new; have := HLO5.out; omega) (fun _ _ h => h)))
      have HAT := Lib.hid (un_attrs w8 Ax s.ext.length cx s.ext (HPX5.out.kept K8.out (fun _ _ _ _ h => h)) HXN.out HX.out HE8.out.here.tab)
      obtain ⟨ST, hST⟩ : ∃ S, sb (Un.attrsF s.ext) = S := ⟨_, rfl⟩
      rw [hST] at HEN
      have HST := Lib.hid hST
      clear hST hSD
      go_upto_region 14 with (go_at_call 40; go_must (refine HAT.out.mono ?_; rintro e w9 ⟨rfl, K9⟩; rw [HST.out]; have n9 := ((kept_below K9.out).row R8.out (fun h => h)).cell (i := 9) rfl; have f9 := ((kept_below K9.out).row R8.out (fun h => h)).frozen 9))
      have R10 := Lib.hid (((kept_below K9.out).row R8.out (fun h => h)).set 9 (.string ST))
      change Hid (Row _ g 28 [.int .i64 (0 : Int), .int .i64 (h2.mode % 4096), .int .i64 h2.uid, .int .i64 h2.gid, .int .i64 h2.mtime, .string SL, .string SD, .int .i64 MJ, .int .i64 MN, .string ST]) at R10
      have K10 := Lib.hid (kept_fresh (kept_trans K8.out (kept_below K9.out)) (kept_set (w := w9) (r := g) (i := 9) (.string ST)) hg)
      clear n9 f9 hx8 R8 K8 HAT K9 HA8 HE8
      generalize w9.setCell _ _ = w10 at R10 K10 ⊢
      have c0 := K10.out.cell C0.out (fun h => h)
      have RE10 := Lib.hid (K10.out.row RE5.out (fun h => h))
      have HEN2 : Hid ((entL (Un.entryOf h2 0 d s.ext)).toArray = #[.string S0, .int .i64 (0 : Int), .int .i64 (h2.mode % 4096), .int .i64 h2.uid, .int .i64 h2.gid, .int .i64 h2.mtime, .string SL, .string SD, .int .i64 MJ, .int .i64 MN, .string ST]) := Lib.hid (by rw [HEN.out])
      obtain ⟨EL, hEL⟩ : ∃ EL, EL = entL (Un.entryOf h2 0 d s.ext) := ⟨_, rfl⟩
      have HELI : Hid ((Tryz.prog.info? 30).map (·.size) = some EL.length ∧ EL.toArray.all (·.oneCell') = true ∧ (entL zeroE).length = EL.length) := Lib.hid (by rw [hEL]; exact ⟨infoE _, entL_all _, rfl⟩)
      rw [← hEL] at HEN2
      have HEL := Lib.hid hEL
      clear hEL
      go_wp2_with (first
        | ((with_reducible refine load_all ?_ 28 (.tmp 10) ?_ g 0 [.int .i64 (0 : Int), .int .i64 (h2.mode % 4096), .int .i64 h2.uid, .int .i64 h2.gid, .int .i64 h2.mtime, .string SL, .string SD, .int .i64 MJ, .int .i64 MN, .string ST] ([.int .i64 (0 : Int), .int .i64 (h2.mode % 4096), .int .i64 h2.uid, .int .i64 h2.gid, .int .i64 h2.mtime, .string SL, .string SD, .int .i64 MJ, .int .i64 MN, .string ST] : List Value).toArray ?_ _ ?_ Tryz.underlying28 ?_ ?_ ?_ ?_); rfl; rfl; go_must (rfl; exact rangeAt_row R10.out; rfl; exact infoN zeroE; rfl))
        | ((with_reducible refine store_all ?_ 30 (.tmp 6) (.tmp 72) ?_ (w.heap.size + 1) EL ?_ ?_ (entL zeroE) ?_ RE10.out ?_ ?_ ?_); rfl; rfl; go_must (rfl; (rw [HEN2.out]; rfl); exact HELI.out.2.2; exact HELI.out.1; exact HELI.out.2.1; intro w11 R11 K11 E11)))
      refine bodyPost_ret (v := .tuple #[.agg EL.toArray, .int .i64 0]) (results_row_tmp (fn := Tryz.f86) (p := 6) (u := 7) rfl _ _ (w.heap.size + 1) _ EL.toArray _ _ rfl R11.out Tryz.underlying30 rfl (by rw [List.size_toArray]; exact HELI.out.1)) rfl (EntryIs.yes HY.out (by rw [HEL.out]) ⟨A2, n2, c2, Lib.hid (HA5.out.kept ((K10.out.mono (fun _ _ h => h.elim)).trans K11.out) ?_ ?_ ?_ ?_)⟩ ?_)
      · omega
      · have := HA5.out.new
        intro b hb
        omega
      · exact own_ne HA5.out.ext RE5.out (by decide)
      · intro b hb
        have := HEVB.out b hb
        omega
      · exact Lib.hid (kept_more (kept_then KW5.out K10.out) K11.out (by omega))

    by_cases hz0 : Z = 0
    · have HY := Lib.hid (entry_ok (k := k) HCN.out HP.out HTF.out (fun h => h.2 (by rw [HZ2.out.1, hz0]; rfl)))
      have hk1 : ((k : Int) != 0) = true := bne_iff_ne.2 (by omega)
      have c4 : w5.cell? ⟨w.heap.size, 4, none⟩ = some (.int .i64 0) := by
        have := RB5.out.cell (i := 4) (v := .int .i64 h2.size) rfl
        rw [HZ2.out.1, hz0] at this
        exact this
      clear HCN HP HTF HTS HT1 HT2 hk0 hz0
      go_upto_region 11 with fail
      clear c4 hk1
      obtain ⟨SL, hSL⟩ : ∃ S, sb (nodeE h2 k).link = S := ⟨_, rfl⟩
      obtain ⟨MJ, hMJ⟩ : ∃ S, (nodeE h2 k).major = S := ⟨_, rfl⟩
      obtain ⟨MN, hMN⟩ : ∃ S, (nodeE h2 k).minor = S := ⟨_, rfl⟩
      have HNO : Hid (∀ W, Calls Tryz.prog 110 #[.agg (hdL h2).toArray, .int .i64 ((k : Nat) : Int)] W fun e w' => e = .returned (.agg ([.int .i64 (k : Int), .int .i64 (h2.mode % 4096), .int .i64 h2.uid, .int .i64 h2.gid, .int .i64 h2.mtime, .string SL, .string ⟨#[]⟩, .int .i64 MJ, .int .i64 MN, .string ⟨#[]⟩] : List Value).toArray) ∧ Hid (Below W.heap.size W w')) := Lib.hid (fun W => by
        have h := un_nodeOf W h2 k
        rw [hdV_is] at h
        rw [← hSL, ← hMJ, ← hMN]
        exact h)
      have HEN : Hid (entL (Un.entryOf h2 k d s.ext) = .string S0 :: [.int .i64 (k : Int), .int .i64 (h2.mode % 4096), .int .i64 h2.uid, .int .i64 h2.gid, .int .i64 h2.mtime, .string SL, .string (sb d), .int .i64 MJ, .int .i64 MN, .string (sb (Un.attrsF s.ext))]) := Lib.hid (by
        rw [← hSL, ← hMJ, ← hMN, ← HS07.out.1]
        rfl)
      clear hSL hMJ hMN
      obtain ⟨DH, hDH⟩ : ∃ DH, DH = hdL h2 := ⟨_, rfl⟩
      have HDI : Hid ((Tryz.prog.info? 57).map (·.size) = some DH.length) := Lib.hid (by rw [hDH]; exact info25 h2)
      rw [← hDH] at RB5 HNO
      have c0 : w5.cell? ⟨w.heap.size, 0, none⟩ = some (.string S0) := by
        have := RB5.out.cell (i := 0) (v := .string (sb h2.name)) (by rw [hDH]; rfl)
        rw [HS07.out.1] at this
        exact this
      have C0 := Lib.hid c0
      clear hDH c0
      go_upto_region 12 with (first
        | ((with_reducible refine load_all ?_ 57 (.tmp 4) ?_ w.heap.size 0 DH DH.toArray ?_ _ ?_ Tryz.underlying57 ?_ ?_ ?_ ?_); rfl; rfl; go_must (rfl; exact rangeAt_row RB5.out; rfl; exact HDI.out; rfl))
        | (go_at_call 110; go_must (refine (HNO.out _).mono ?_; rintro e w6 ⟨rfl, K6⟩))
        | ((with_reducible refine store_all ?_ 28 (.tmp 10) (.tmp 59) ?_ w6.heap.size [.int .i64 (k : Int), .int .i64 (h2.mode % 4096), .int .i64 h2.uid, .int .i64 h2.gid, .int .i64 h2.mtime, .string SL, .string ⟨#[]⟩, .int .i64 MJ, .int .i64 MN, .string ⟨#[]⟩] ?_ ?_ (nodeL zeroE) ?_ ?_ ?_ ?_ ?_); rfl; rfl; go_must (rfl; rfl; rfl; exact Row.at_ _ _ _ rfl rfl; exact infoN zeroE; exact node_one _ _ _ _ _ _ _ _ _ _; intro w7 R7 K7 E7)))
      have KN := Lib.hid ((kept_below K6.out).trans (kept_stored K7.out))
      have HG : Hid (w5.heap.size ≤ w6.heap.size) := Lib.hid K6.out.size
      have hg : w5.heap.size ≤ w6.heap.size := HG.out
      clear K7 E7 K6 HNO HDI
      generalize w6.heap.size = g at R7 HG hg ⊢
      have hcv := conv_bytes w7 A Z c d (HB5.out.kept KN.out (fun _ _ _ _ h => h))
      change (convert 31 9 (.slice A Z c)).run Tryz.prog w7 = .ok (.string (sb d)) w7 at hcv
      have n6 := R7.out.cell (i := 6) rfl
      have f6 := R7.out.frozen 6
      obtain ⟨SD, hSD⟩ : ∃ S, sb d = S := ⟨_, rfl⟩
      rw [hSD] at hcv HEN
      go_upto_region 13 with fail
      have R8 := Lib.hid (R7.out.set 6 (.string SD))
      change Hid (Row _ g 28 [.int .i64 (k : Int), .int .i64 (h2.mode % 4096), .int .i64 h2.uid, .int .i64 h2.gid, .int .i64 h2.mtime, .string SL, .string SD, .int .i64 MJ, .int .i64 MN, .string ⟨#[]⟩]) at R8
      have K8 := Lib.hid (kept_fresh KN.out (kept_set (w := w7) (r := g) (i := 6) (.string SD)) hg)
      clear hcv n6 f6 R7 KN
      generalize w7.setCell _ _ = w8 at R8 K8 ⊢
      have HA8 := Lib.hid (HA5.out.below (K8.out.below (Nat.le_refl _) (fun _ _ h => h)))
      have hx8 := HA8.out.c1
      have HE8 := Lib.hid (HE5.out.on (K8.out.below (by have := HA5.out.new; have := HLO5.out; omega) (fun _ _ h => h)))
      have HAT := Lib.hid (un_attrs w8 Ax s.ext.length cx s.ext (HPX5.out.kept K8.out (fun _ _ _ _ h => h)) HXN.out HX.out HE8.out.here.tab)
      obtain ⟨ST, hST⟩ : ∃ S, sb (Un.attrsF s.ext) = S := ⟨_, rfl⟩
      rw [hST] at HEN
      have HST := Lib.hid hST
      clear hST hSD
      go_upto_region 14 with (go_at_call 40; go_must (refine HAT.out.mono ?_; rintro e w9 ⟨rfl, K9⟩; rw [HST.out]; have n9 := ((kept_below K9.out).row R8.out (fun h => h)).cell (i := 9) rfl; have f9 := ((kept_below K9.out).row R8.out (fun h => h)).frozen 9))
      have R10 := Lib.hid (((kept_below K9.out).row R8.out (fun h => h)).set 9 (.string ST))
      change Hid (Row _ g 28 [.int .i64 (k : Int), .int .i64 (h2.mode % 4096), .int .i64 h2.uid, .int .i64 h2.gid, .int .i64 h2.mtime, .string SL, .string SD, .int .i64 MJ, .int .i64 MN, .string ST]) at R10
      have K10 := Lib.hid (kept_fresh (kept_trans K8.out (kept_below K9.out)) (kept_set (w := w9) (r := g) (i := 9) (.string ST)) hg)
      clear n9 f9 hx8 R8 K8 HAT K9 HA8 HE8
      generalize w9.setCell _ _ = w10 at R10 K10 ⊢
      have c0 := K10.out.cell C0.out (fun h => h)
      have RE10 := Lib.hid (K10.out.row RE5.out (fun h => h))
      have HEN2 : Hid ((entL (Un.entryOf h2 k d s.ext)).toArray = #[.string S0, .int .i64 (k : Int), .int .i64 (h2.mode % 4096), .int .i64 h2.uid, .int .i64 h2.gid, .int .i64 h2.mtime, .string SL, .string SD, .int .i64 MJ, .int .i64 MN, .string ST]) := Lib.hid (by rw [HEN.out])
      obtain ⟨EL, hEL⟩ : ∃ EL, EL = entL (Un.entryOf h2 k d s.ext) := ⟨_, rfl⟩
      have HELI : Hid ((Tryz.prog.info? 30).map (·.size) = some EL.length ∧ EL.toArray.all (·.oneCell') = true ∧ (entL zeroE).length = EL.length) := Lib.hid (by rw [hEL]; exact ⟨infoE _, entL_all _, rfl⟩)
      rw [← hEL] at HEN2
      have HEL := Lib.hid hEL
      clear hEL
      go_wp2_with (first
        | ((with_reducible refine load_all ?_ 28 (.tmp 10) ?_ g 0 [.int .i64 (k : Int), .int .i64 (h2.mode % 4096), .int .i64 h2.uid, .int .i64 h2.gid, .int .i64 h2.mtime, .string SL, .string SD, .int .i64 MJ, .int .i64 MN, .string ST] ([.int .i64 (k : Int), .int .i64 (h2.mode % 4096), .int .i64 h2.uid, .int .i64 h2.gid, .int .i64 h2.mtime, .string SL, .string SD, .int .i64 MJ, .int .i64 MN, .string ST] : List Value).toArray ?_ _ ?_ Tryz.underlying28 ?_ ?_ ?_ ?_); rfl; rfl; go_must (rfl; exact rangeAt_row R10.out; rfl; exact infoN zeroE; rfl))
        | ((with_reducible refine store_all ?_ 30 (.tmp 6) (.tmp 72) ?_ (w.heap.size + 1) EL ?_ ?_ (entL zeroE) ?_ RE10.out ?_ ?_ ?_); rfl; rfl; go_must (rfl; (rw [HEN2.out]; rfl); exact HELI.out.2.2; exact HELI.out.1; exact HELI.out.2.1; intro w11 R11 K11 E11)))
      refine bodyPost_ret (v := .tuple #[.agg EL.toArray, .int .i64 0]) (results_row_tmp (fn := Tryz.f86) (p := 6) (u := 7) rfl _ _ (w.heap.size + 1) _ EL.toArray _ _ rfl R11.out Tryz.underlying30 rfl (by rw [List.size_toArray]; exact HELI.out.1)) rfl (EntryIs.yes HY.out (by rw [HEL.out]) ⟨A2, n2, c2, Lib.hid (HA5.out.kept ((K10.out.mono (fun _ _ h => h.elim)).trans K11.out) ?_ ?_ ?_ ?_)⟩ ?_)
      · omega
      · have := HA5.out.new
        intro b hb
        omega
      · exact own_ne HA5.out.ext RE5.out (by decide)
      · intro b hb
        have := HEVB.out b hb
        omega
      · exact Lib.hid (kept_more (kept_then KW5.out K10.out) K11.out (by omega))

    · have HN := Lib.hid (entry_form (k := k) HCN.out HP.out HTF.out ⟨hk0, by rw [HZ2.out.1]; omega⟩)
      have hk1 : ((k : Int) != 0) = true := bne_iff_ne.2 (by omega)
      have hz1 : ((Z : Int) != 0) = true := bne_iff_ne.2 (by omega)
      have c4 : w5.cell? ⟨w.heap.size, 4, none⟩ = some (.int .i64 (Z : Int)) := by
        have := RB5.out.cell (i := 4) (v := .int .i64 h2.size) rfl
        rw [HZ2.out.1] at this
        exact this
      clear HCN HP HTF HTS HT1 HT2 hk0 hz0
      go_wp2_with (first
        | ((with_reducible refine build_all ?_ 30 #[] ?_ (entL zeroE).toArray ?_ ?_); rfl; rfl; go_must (refine Eq.trans ?_ built_ent0; kernel_rfl))
        | ((with_reducible refine store_all ?_ 30 (.tmp 6) (.tmp 56) ?_ (w.heap.size + 1) (entL zeroE) ?_ ?_ (entL zeroE) ?_ RE5.out ?_ ?_ ?_); rfl; rfl; go_must (rfl; rfl; rfl; exact infoE _; exact entL_all _; intro w6 R6 K6 E6)))
      refine bodyPost_ret (v := .tuple #[.agg (entL zeroE).toArray, .int .i64 3]) (results_row_tmp (fn := Tryz.f86) (p := 6) (u := 7) rfl _ _ (w.heap.size + 1) _ (entL zeroE).toArray _ _ rfl R6.out Tryz.underlying30 rfl (infoE _)) rfl (EntryIs.no HN.out rfl rfl ?_)
      exact Lib.hid (kept_more KW5.out K6.out (by omega))
end Go.Proofs.YtpgaejalkbpbhaaGreatDoor

namespace Go.Proofs.YtpgaejalkbpbhaaGreatDoor
open Go.RowKit Sh Px Hd

/-- Nothing under B has turned. -/
theorem below_kept {B r : Nat} {w w' : World} (k : Kept w w' (· = r)) (hr : B ≤ r) (hB : B ≤ w.heap.size) : Below B w w' := k.below hB (fun _ _ _ => by omega)
theorem ArAt.base {w : World} {B r n c : Nat} {A : Option Addr} {xv ev : Value} {s : Un.St} {o : Bool} (h : ArAt w B r A n c xv ev s o) : B ≤ w.heap.size := by
  have := h.row.lt
  have := h.new
  omega
theorem OwnPairs.low {w : World} {B B' : Nat} {v : Value} {L : List Pr} (h : OwnPairs w B v L) (hB : B' ≤ B) : OwnPairs w B' v L := by
  obtain ⟨hl, h1 | ⟨g, cap, cur, rfl, hg, r⟩⟩ := h
  · exact ⟨hl, .inl h1⟩
  · exact ⟨hl, .inr ⟨g, cap, cur, rfl, Nat.le_trans hB hg, r⟩⟩
/-- What a step of the reading leaves. -/
def OutIs (w : World) (B r : Nat) (ents : List Un.E) (out : Un.Out) (e : Ending) (w' : World) : Prop :=
  match out with
  | .err m => e = .returned (.int .i64 m) ∧ Hid (Below B w w')
  | .more s => e = .returned (.int .i64 0) ∧ (∃ A n c xv ev, Hid (ArAt w' B r A n c xv ev s false)) ∧ Hid (Below B w w')
  | .done => e = .returned (.int .i64 0) ∧ (∃ A n c xv ev t x, Hid (ArAt w' B r A n c xv ev ⟨t, x, ents⟩ true)) ∧ Hid (Below B w w')
theorem OutIs.bad {w w' : World} {B r m : Nat} {i : Int} {ents : List Un.E} {out : Un.Out} {e : Ending} (h : out = .err m) (hi : i = (m : Nat)) (he : e = .returned (.int .i64 i)) (hb : Hid (Below B w w')) : OutIs w B r ents out e w' := by
  subst h; exact ⟨by rw [he, hi], hb⟩
theorem end_short {s : Un.St} (h : s.rest.length < 512) : Un.endF s = .err 4 := by unfold Un.endF; rw [if_pos h]
theorem end_form {s : Un.St} (h : ¬ s.rest.length < 512) (h2 : ¬ (s.rest.all (fun d => d == 0) = true ∧ s.ext = [])) : Un.endF s = .err 3 := by unfold Un.endF; rw [if_neg h, if_neg h2]
theorem end_done {s : Un.St} (h : ¬ s.rest.length < 512) (h2 : s.rest.all (fun d => d == 0) = true ∧ s.ext = []) : Un.endF s = .done := by unfold Un.endF; rw [if_neg h, if_pos h2]
theorem take_512 {r : List UInt8} (h : ¬ r.length < 512) : Un.takeF 512 r = some (r.take 512, r.drop 512) := by
  unfold Un.takeF
  rw [show Un.whole 512 = 512 from by decide, if_pos (by omega)]
theorem take_512n {r : List UInt8} (h : r.length < 512) : Un.takeF 512 r = none := by
  unfold Un.takeF
  rw [show Un.whole 512 = 512 from by decide, if_neg (by omega)]
theorem empty_all {l : List UInt8} (h : ¬ l.length < 512) : emptyF (l.take 512) = (l.take 512).all (fun d => d == 0) := by
  unfold emptyF
  rw [decide_eq_true (by rw [List.length_take]; omega), Bool.true_and]
theorem all_512 (l : List UInt8) : l.all (fun d => d == 0) = ((l.take 512).all (fun d => d == 0) && (l.drop 512).all (fun d => d == 0)) := by
  rw [← List.all_append, List.take_append_drop]

set_option maxRecDepth 100000 in
set_option maxHeartbeats 8000000 in
theorem un_end (w : World) (B r : Nat) (A : Option Addr) (n c : Nat) (xv ev : Value) (s : Un.St) (ha : ArAt w B r A n c xv ev s false) (h : H) :
    Calls Tryz.prog 52 #[.pointer (some ⟨r, 0, none⟩), hdV h] w (OutIs w B r s.ents (Un.endF s)) := by
  have HA := Lib.hid ha
  have HB := Lib.hid ha.base
  clear ha
  rw [hdV_is]
  generalize hdL h = D
  have KA := Lib.hid (Below.alloc (Below.refl w.heap.size w) (Nat.le_refl _) (.cells D.toArray 57))
  have HA1 := Lib.hid (HA.out.below KA.out)
  by_cases hl : s.rest.length < 512
  · have HN := Lib.hid (end_short hl)
    have HTK : Hid (∀ w1, Hid (ArAt w1 B r A n c xv ev s false) → Calls Tryz.prog 50 #[.pointer (some ⟨r, 0, none⟩), .int .i64 512] w1 fun e w' => e = .returned (.tuple #[.slice none 0 0, .bool false]) ∧ w' = w1) := Lib.hid (fun w1 h1 => (un_take w1 B r A n c xv ev s false h1.out 512 (by decide)).mono fun _ _ h => h.no (take_512n hl))
    clear hl
    go_enter Tryz.func52, Tryz.ntmps52
    go_wp2_with (go_at_call 50; go_must (refine (HTK.out _ HA1).mono ?_; rintro e w2 ⟨rfl, rfl⟩))
    go_ret
    exact OutIs.bad HN.out rfl rfl (Lib.hid (KA.out.mono HB.out))
  · have HTK : Hid (∀ w1, Hid (ArAt w1 B r A n c xv ev s false) → Calls Tryz.prog 50 #[.pointer (some ⟨r, 0, none⟩), .int .i64 512] w1 fun e w' => e = .returned (.tuple #[.slice A 512 c, .bool true]) ∧ (∃ A2 n2 c2, Hid (ArAt w' B r A2 n2 c2 xv ev ⟨s.rest.drop 512, s.ext, s.ents⟩ false)) ∧ Hid (BytesAt w' A 512 c (s.rest.take 512)) ∧ Hid (Kept w1 w' (· = r))) := Lib.hid (fun w1 h1 => (un_take w1 B r A n c xv ev s false h1.out 512 (by decide)).mono fun _ _ h => h.yes (take_512 hl))
    have HL := Lib.hid hl
    have HEM := Lib.hid (empty_all hl)
    have HAL := Lib.hid (all_512 s.rest)
    clear hl
    generalize ht1 : s.rest.take 512 = t1 at *
    generalize ht2 : s.rest.drop 512 = t2 at *
    clear ht1 ht2
    go_enter Tryz.func52, Tryz.ntmps52
    go_upto_region 4 with (go_at_call 50; go_must (refine (HTK.out _ HA1).mono ?_; rintro e w2 ⟨rfl, ⟨A2, n2, c2, HA2⟩, HB2, K2⟩))
    have KB := Lib.hid ((KA.out.mono HB.out).trans (below_kept K2.out HA2.out.new (Nat.le_trans HB.out KA.out.size)))
    have HE := Lib.hid (empty_any w2 A 512 c t1 HB2.out (by decide))
    have HZ := Lib.hid (un_zeros w2 A2 n2 c2 t2 HA2.out.rest (Nat.le_trans HA2.out.rest.cap HA2.out.cap))
    have HW := Lib.hid (un_waits w2 B r A2 n2 c2 xv ev ⟨t2, s.ext, s.ents⟩ false HA2.out)
    have c0 := HA2.out.c0
    rw [HEM.out] at HE
    clear KA HA1 HTK
    cases hz1 : t1.all (fun d => d == 0) with
    | false =>
      have HN := Lib.hid (end_form HL.out (fun h => by rw [HAL.out, hz1] at h; cases h.1))
      rw [hz1] at HE
      clear hz1 c0
      go_wp2_with (go_at_call 51; go_must (refine HE.out.mono ?_; rintro e w3 ⟨rfl, rfl⟩))
      go_ret
      exact OutIs.bad HN.out rfl rfl KB
    | true =>
    cases hz2 : t2.all (fun d => d == 0) with
    | false =>
      have HN := Lib.hid (end_form HL.out (fun h => by rw [HAL.out, hz1, hz2] at h; cases h.1))
      rw [hz1] at HE
      rw [hz2] at HZ
      clear hz1 hz2
      go_wp2_with (first
        | (go_at_call 51; go_must (refine HE.out.mono ?_; rintro e w3 ⟨rfl, rfl⟩))
        | (go_at_call 78; go_must (refine HZ.out.mono ?_; rintro e w3 ⟨rfl, rfl⟩)))
      go_ret
      exact OutIs.bad HN.out rfl rfl KB
    | true =>
    rw [hz1] at HE
    rw [hz2] at HZ
    by_cases hx : s.ext = []
    · have HN := Lib.hid (end_done HL.out ⟨by rw [HAL.out, hz1, hz2]; rfl, hx⟩)
      change Hid (Calls Tryz.prog _ _ w2 fun e w' => e = .returned (.bool (decide (s.ext ≠ []))) ∧ w' = w2) at HW
      rw [decide_eq_false (fun h => h hx)] at HW
      have c3 := HA2.out.c3
      have f3 := HA2.out.fz 3
      clear hz1 hz2 hx
      go_wp2_with (first
        | (go_at_call 51; go_must (refine HE.out.mono ?_; rintro e w3 ⟨rfl, rfl⟩))
        | (go_at_call 78; go_must (refine HZ.out.mono ?_; rintro e w3 ⟨rfl, rfl⟩))
        | (go_at_call 79; go_must (refine HW.out.mono ?_; rintro e w3 ⟨rfl, rfl⟩)))
      go_ret
      rw [HN.out]
      exact ⟨rfl, ⟨A2, n2, c2, xv, ev, t2, s.ext, Lib.hid (HA2.out.set_over true)⟩, Lib.hid (KB.out.trans (below_kept (kept_set _) HA2.out.new HA2.out.base))⟩
    · have HN := Lib.hid (end_form HL.out (fun h => hx h.2))
      change Hid (Calls Tryz.prog _ _ w2 fun e w' => e = .returned (.bool (decide (s.ext ≠ []))) ∧ w' = w2) at HW
      rw [decide_eq_true hx] at HW
      clear hz1 hz2 hx
      go_wp2_with (first
        | (go_at_call 51; go_must (refine HE.out.mono ?_; rintro e w3 ⟨rfl, rfl⟩))
        | (go_at_call 78; go_must (refine HZ.out.mono ?_; rintro e w3 ⟨rfl, rfl⟩))
        | (go_at_call 79; go_must (refine HW.out.mono ?_; rintro e w3 ⟨rfl, rfl⟩)))
      go_ret
      exact OutIs.bad HN.out rfl rfl KB

theorem keep_form {h : H} {s : Un.St} (hx : s.ext ≠ []) : Un.keepF h s = .err 3 := by unfold Un.keepF; rw [if_pos hx]
theorem keep_short {h : H} {s : Un.St} (hx : ¬ s.ext ≠ []) (ht : Un.takeF h.size.toNat s.rest = none) : Un.keepF h s = .err 4 := by unfold Un.keepF; rw [if_neg hx, ht]
theorem keep_bad {h : H} {s : Un.St} {d r2 : List UInt8} (hx : ¬ s.ext ≠ []) (ht : Un.takeF h.size.toNat s.rest = some (d, r2)) (hr : (Px.readF d).1 ≠ 0) : Un.keepF h s = .err (Px.readF d).1 := by unfold Un.keepF; rw [if_neg hx, ht]; simp only; rw [if_neg hr]
theorem keep_ok {h : H} {s : Un.St} {d r2 : List UInt8} (hx : ¬ s.ext ≠ []) (ht : Un.takeF h.size.toNat s.rest = some (d, r2)) (hr : (Px.readF d).1 = 0) : Un.keepF h s = .more ⟨r2, (Px.readF d).2, s.ents⟩ := by unfold Un.keepF; rw [if_neg hx, ht]; simp only; rw [if_pos hr]

set_option maxRecDepth 100000 in
set_option maxHeartbeats 8000000 in
theorem un_keep (w : World) (B r : Nat) (A : Option Addr) (n c : Nat) (xv ev : Value) (s : Un.St) (ha : ArAt w B r A n c xv ev s false) (h : H) (hs : SzOk h) (hn : s.rest.length ≤ 100000000) :
    Calls Tryz.prog 54 #[.pointer (some ⟨r, 0, none⟩), hdV h] w (OutIs w B r s.ents (Un.keepF h s)) := by
  have HA := Lib.hid ha
  have HB := Lib.hid ha.base
  have HNL := Lib.hid hn
  clear ha hn
  obtain ⟨Z, hZ⟩ : ∃ Z : Nat, h.size = Z := ⟨h.size.toNat, by have := hs.1; omega⟩
  have hZ2 : h.size.toNat = Z := by omega
  have hZb : Z ≤ 4611686018427387904 := by have := hs.2; omega
  have HZ2 := Lib.hid (And.intro hZ2 hZb)
  have eD : hdL h = [strV h.name, .int .i64 h.mode, .int .i64 h.uid, .int .i64 h.gid, .int .i64 (Z : Int), .int .i64 h.mtime, v8 h.typ, strV h.link, .int .i64 h.major, .int .i64 h.minor] := by rw [← hZ]; rfl
  rw [hdV_is]
  obtain ⟨D, hD⟩ : ∃ D, D = hdL h := ⟨_, rfl⟩
  rw [← hD]
  have R0 : Row (w.alloc (.cells D.toArray 57)) w.heap.size 57 D := Row.new _ _ _
  have d4 : (w.alloc (.cells D.toArray 57)).cell? ⟨w.heap.size, 4, none⟩ = some (.int .i64 (Z : Int)) := R0.cell (by rw [hD, eD]; rfl)
  have KA := Lib.hid (Below.alloc (Below.refl w.heap.size w) (Nat.le_refl _) (.cells D.toArray 57))
  have HA1 := Lib.hid (HA.out.below KA.out)
  have HW := Lib.hid (un_waits _ B r A n c xv ev s false HA1.out)
  have HTK := Lib.hid (un_take _ B r A n c xv ev s false HA1.out Z hZb)
  have KB := Lib.hid (KA.out.mono HB.out)
  clear hD eD R0 hZ hZ2 hZb hs HA
  go_enter Tryz.func54, Tryz.ntmps54
  go_upto_region 1 with fail
  generalize w.alloc _ = w1 at d4 KA HA1 HW HTK KB ⊢
  by_cases hx : s.ext ≠ []
  · have HN := Lib.hid (keep_form (h := h) hx)
    rw [decide_eq_true hx] at HW
    clear hx d4 HTK
    go_wp2_with (go_at_call 79; go_must (refine HW.out.mono ?_; rintro e w2 ⟨rfl, rfl⟩))
    go_ret
    exact OutIs.bad HN.out rfl rfl KB
  have HX := Lib.hid hx
  rw [decide_eq_false hx] at HW
  clear hx
  cases htf : Un.takeF Z s.rest with
  | none =>
    have HN := Lib.hid (keep_short (h := h) HX.out (by rw [HZ2.out.1]; exact htf))
    have HTN := Lib.hid (HTK.out.mono fun _ _ h => h.no htf)
    clear htf HTK
    go_wp2_with (first
      | (go_at_call 79; go_must (refine HW.out.mono ?_; rintro e w2 ⟨rfl, rfl⟩))
      | (go_at_call 50; go_must (refine HTN.out.mono ?_; rintro e w2 ⟨rfl, rfl⟩)))
    go_ret
    exact OutIs.bad HN.out rfl rfl KB
  | some dr =>
    obtain ⟨d, r2⟩ := dr
    have HTS := Lib.hid (HTK.out.mono fun _ _ h => h.yes htf)
    have HTF : Hid (Un.takeF h.size.toNat s.rest = some (d, r2)) := Lib.hid (by rw [HZ2.out.1]; exact htf)
    have HDL : Hid (d.length = Z ∧ Z ≤ 100000000) := Lib.hid (by
      have h1 := Un.take_len htf
      have h2 := HNL.out
      unfold Un.takeF at htf
      split at htf
      · have := Un.whole_le Z
        exact ⟨h1.1, by omega⟩
      · cases htf)
    clear htf HTK
    go_upto_region 4 with (first
      | (go_at_call 79; go_must (refine HW.out.mono ?_; rintro e w2 ⟨rfl, rfl⟩))
      | (go_at_call 50; go_must (refine HTS.out.mono ?_; rintro e w3 ⟨rfl, ⟨A2, n2, c2, HA3⟩, HB3, K3⟩)))
    have KC := Lib.hid (KB.out.trans (below_kept K3.out HA3.out.new HA1.out.base))
    have HPP := Lib.hid (px_parse w3 A Z c d HB3.out HDL.out.2)
    clear d4 K3 HW HTS HA1 KA
    by_cases hr : (Px.readF d).1 = 0
    · have HN := Lib.hid (keep_ok HX.out HTF.out hr)
      have HP2 : Hid (Calls Tryz.prog 39 #[.slice A Z c] w3 fun e w' => ∃ v, e = .returned (.tuple #[v, .int .i64 0]) ∧ Hid (OwnPairs w' B v (Px.readF d).2) ∧ Hid (Below w3.heap.size w3 w')) := Lib.hid (HPP.out.mono fun e w' ⟨v, h1, h2, h3⟩ => ⟨v, by rw [h1, hr]; rfl, Lib.hid (h2.out.low HA3.out.base), h3⟩)
      clear hr HPP HTF HX HDL
      go_upto_region 9 with (go_at_call 39; go_must (refine HP2.out.mono ?_; rintro e w4 ⟨xv2, rfl, O4, K4⟩))
      obtain ⟨Ax, cx, rfl, -, -, -, -⟩ := O4.out.pairs
      have HA4 := Lib.hid (HA3.out.below K4.out)
      have c1 := HA4.out.c1
      have f1 := HA4.out.fz 1
      go_wp2_with fail
      go_ret
      rw [HN.out]
      exact ⟨rfl, ⟨A2, n2, c2, _, ev, Lib.hid (HA4.out.set_ext O4.out)⟩, Lib.hid ((KC.out.trans (K4.out.mono HA3.out.base)).trans (below_kept (kept_set _) HA4.out.new HA4.out.base))⟩
    · have HN := Lib.hid (keep_bad HX.out HTF.out hr)
      obtain ⟨m, hm⟩ : ∃ m, (Px.readF d).1 = m := ⟨_, rfl⟩
      rw [hm] at HN
      have HP2 : Hid (Calls Tryz.prog 39 #[.slice A Z c] w3 fun e w' => ∃ v, e = .returned (.tuple #[v, .int .i64 (m : Nat)]) ∧ Hid (Below w3.heap.size w3 w')) := Lib.hid (HPP.out.mono fun e w' ⟨v, h1, _, h3⟩ => ⟨v, by rw [h1, hm], h3⟩)
      have hm0 : ((m : Int) != 0) = true := bne_iff_ne.2 (by omega)
      clear hr hm HPP HTF HX HDL
      go_wp2_with (go_at_call 39; go_must (refine HP2.out.mono ?_; rintro e w4 ⟨xv2, rfl, K4⟩))
      go_ret
      exact OutIs.bad HN.out rfl rfl (Lib.hid (KC.out.trans (K4.out.mono HA3.out.base)))
end Go.Proofs.YtpgaejalkbpbhaaGreatDoor

namespace Go.Proofs.YtpgaejalkbpbhaaGreatDoor
open Go.RowKit Sh Px Hd

theorem infoEZ : ∃ i, Tryz.prog.info? 30 = some i ∧ i.zero = some (.agg (entL zeroE).toArray) ∧ i.size = 11 ∧ i.bytes = 120 := by
  have h : (Tryz.prog.info? 30).map (fun i => (i.zero, i.size, i.bytes)) = some (some (.agg (entL zeroE).toArray), 11, 120) := by kernel_rfl
  obtain ⟨i, hi, hz⟩ := Option.map_eq_some_iff.1 h
  simp only [Prod.mk.injEq] at hz
  exact ⟨i, hi, hz.1, hz.2.1, hz.2.2⟩
/-- A step: a slice literal of one entry. -/
theorem wp_build_ent {o : Oper} {a : Act} {w : World} {K : Act → World → Prop} {Q : Exit → Act → World → Prop} (x : Operand) (ho : o.op = .buildSlice 22 1 #[(0, x)]) (e : Un.E) (hx : a.eval x = .agg (entL e).toArray)
    (h : ∀ w', Hid (Row w' w.heap.size 30 (entL e)) → Hid (Kept w w' (fun _ => False)) → K (a.put o.dst (.slice (some ⟨w.heap.size, 0, none⟩) 1 1)) w') : o.wp Tryz.prog a w K Q := by
  obtain ⟨i, hi, hz, hsz, _⟩ := infoEZ
  refine wp_buildSlice 22 30 1 #[(0, x)] ho (entL e).toArray i _ Tryz.underlying22 hi hz (by rw [hsz]; decide) (by rw [hsz]; decide) ?_ (h _ (Row.at_ _ _ _ rfl rfl) (kept_alloc _ _))
  rw [hsz]
  have e1 : (Array.map (fun (p : Nat × Operand) => (p.1, a.eval p.2)) #[(0, x)]).toList = [(0, .agg (entL e).toArray)] := by simp [hx]
  show Instr.fill _ _ (Array.map (fun (p : Nat × Operand) => (p.1, a.eval p.2)) #[(0, x)]).toList = _
  rw [e1, show Array.range (1 * 11) = #[0, 1, 2, 3, 4, 5, 6, 7, 8, 9, 10] from by decide]
  simp [Instr.fill, Value.cells, entL, nodeL]
/-- A step: one entry behind entries. -/
theorem wp_append_ent {w : World} {o : Oper} {a : Act} {K : Act → World → Prop} {Q : Exit → Act → World → Prop} (s x : Operand)
    (ho : o.op = .call { callee := .builtin .append, args := #[s, x], argTypes := #[22, 22] }) (B : Nat) (v : Value) (L : List Un.E) (hs : a.eval s = v) (hown : OwnEnts w B v L)
    (g : Nat) (e : Un.E) (hx : a.eval x = .slice (some ⟨g, 0, none⟩) 1 1) (hsrc : Row w g 30 (entL e)) (hb : L.length + 1 ≤ 1000000) (hB : B ≤ w.heap.size)
    (h : ∀ v' w', Hid (OwnEnts w' B v' (L ++ [e])) → Hid (Kept w w' (fun k => B ≤ k ∧ v.ownBlock = some k)) → K (a.put o.dst v') w') : o.wp Tryz.prog a w K Q := by
  obtain ⟨i, hi, hz, hsz, hby⟩ := infoEZ
  obtain ⟨v', w', hr, h2, h3, h4, h5⟩ := run_append_own_at (P := Tryz.prog) w B 22 o.type 30 i (.agg (entL zeroE).toArray) 11 120 Tryz.underlying22 hi hz hsz hby rfl (by decide) v L.length (entsL L) hown ⟨g, 0, none⟩ 1 1 (entL e)
      rfl (fun j u hj => by rw [Addr.add_mid]; exact hsrc.cell (by rw [Nat.zero_add]; exact hj)) (entL_one e) (by unfold maxLen; omega) (by omega) hB
  unfold Oper.wp execOp
  simp only [ho, resolve, invoke, builtin, Sem.run_bind, Sem.run_pure, Result.andThen_ok, List.map_toArray, List.map_cons, List.map_nil, hs, hx, hr]
  refine h v' w' ?_ ?_
  · show w'.ownsRow B _ 11 v' (L ++ [e]).length (entsL (L ++ [e]))
    rw [List.length_append, entsL_app, show entsL [e] = entL e from by simp [entsL]]
    exact h2
  · refine ⟨h3.os, h3.tape, h3.output, h3.size, fun k hk hn => h3.block k hk (fun e => hn ?_)⟩
    obtain ⟨_, ⟨rfl, _⟩ | ⟨g', cap, cur, rfl, hg, _⟩⟩ := hown
    · cases e
    · have e' : g' = k := by simpa [Value.ownBlock] using e.symm
      subst e'
      exact ⟨hg, rfl⟩
theorem ArAt.grown {w w' : World} {B r n c : Nat} {A : Option Addr} {xv ev ev2 : Value} {s : Un.St} {o : Bool} {L : List Un.E} (h : ArAt w B r A n c xv ev s o) (k : Kept w w' (fun b => B ≤ b ∧ ev.ownBlock = some b)) (hx : OwnEnts w' B ev2 L) :
    ArAt (w'.setCell ⟨r, 2, none⟩ ev2) B r A n c xv ev2 ⟨s.rest, s.ext, L⟩ o := by
  have hr := k.row h.row (fun e => h.ents_ne r e.2 rfl)
  have k2 : Kept w' (w'.setCell ⟨r, 2, none⟩ ev2) (· = r) := kept_set _
  have hn := h.new
  refine ⟨hr.set 2 _, hn, (h.rest.kept k (fun b p e _ hb => by have := h.low _ e; simp only at this; omega)).kept k2 (fun b p e _ eb => by have := h.low _ e; simp only at this; omega), h.low, h.cap, (h.ext.kept k (fun b e hb => own_apart h.ext h.ents (by decide) b e hb.2)).kept k2 (fun b e => h.ext_ne b e), hx.kept k2 (own_ne hx hr (by decide))⟩
theorem add_type {h : H} {s : Un.St} (hk : Un.kindF h.typ = none) : Un.addF h s = .err 6 := by unfold Un.addF; rw [hk]
theorem add_no {h : H} {s : Un.St} {k m : Nat} (hk : Un.kindF h.typ = some k) (he : Un.entryF h k s.ext s.rest = .no m) : Un.addF h s = .err m := by unfold Un.addF; rw [hk]; simp only; rw [he]
theorem add_full {h : H} {s : Un.St} {k : Nat} {e : Un.E} {r2 : List UInt8} (hk : Un.kindF h.typ = some k) (he : Un.entryF h k s.ext s.rest = .yes e r2) (hl : s.ents.length = 1000) : Un.addF h s = .err 2 := by unfold Un.addF; rw [hk]; simp only; rw [he]; simp only; rw [if_pos hl]
theorem add_ok {h : H} {s : Un.St} {k : Nat} {e : Un.E} {r2 : List UInt8} (hk : Un.kindF h.typ = some k) (he : Un.entryF h k s.ext s.rest = .yes e r2) (hl : ¬ s.ents.length = 1000) : Un.addF h s = .more ⟨r2, [], s.ents ++ [e]⟩ := by unfold Un.addF; rw [hk]; simp only; rw [he]; simp only; rw [if_neg hl]
theorem kindV_none {t : UInt8} (h : Un.kindF t = none) : kindV t = .tuple #[.int .i64 0, .bool false] := by rw [kindV, h]; rfl
theorem kindV_some {t : UInt8} {k : Nat} (h : Un.kindF t = some k) : kindV t = .tuple #[.int .i64 k, .bool true] := by rw [kindV, h]; rfl

set_option maxRecDepth 100000 in
set_option maxHeartbeats 16000000 in
theorem un_add (w : World) (B r : Nat) (A : Option Addr) (n c : Nat) (xv ev : Value) (s : Un.St) (ha : ArAt w B r A n c xv ev s false) (h : H) (hs : SzOk h) (hE : UnLow B w) (hx : (flat s.ext).length ≤ 100000000) (hnl : h.name.length ≤ 100000000) (hll : h.link.length ≤ 100000000) (hen : s.ents.length ≤ 1000) :
    Calls Tryz.prog 55 #[.pointer (some ⟨r, 0, none⟩), hdV h] w (OutIs w B r s.ents (Un.addF h s)) := by
  have HA := Lib.hid ha
  have HBS := Lib.hid ha.base
  have HEN := Lib.hid hen
  have hK := un_kindOf (w.alloc (.cells (hdL h).toArray 57)) h.typ
  have KA := Lib.hid (Below.alloc (Below.refl w.heap.size w) (Nat.le_refl _) (.cells (hdL h).toArray 57))
  have HA1 := Lib.hid (HA.out.below KA.out)
  have KB := Lib.hid (KA.out.mono HBS.out)
  have HEY : Hid (∀ k, Calls Tryz.prog 86 #[.pointer (some ⟨r, 0, none⟩), .agg (hdL h).toArray, .int .i64 (k : Nat)] (w.alloc (.cells (hdL h).toArray 57)) (EntryIs (w.alloc (.cells (hdL h).toArray 57)) B r xv ev s false h k)) := Lib.hid (fun k => by
    have := un_entry _ B r A n c xv ev s false HA1.out h k hs (hE.on KB.out) hx hnl hll
    rw [hdV_is] at this
    exact this)
  have HTY := Lib.hid (And.intro (show v8 h.typ = .int .u8 (n8 h.typ) from rfl) (info25 h))
  have R0 : Row (w.alloc (.cells (hdL h).toArray 57)) w.heap.size 57 (hdL h) := Row.new _ _ _
  have d6 : (w.alloc (.cells (hdL h).toArray 57)).cell? ⟨w.heap.size, 6, none⟩ = some (v8 h.typ) := R0.cell rfl
  have HR0 := Lib.hid R0
  rw [hdV_is]
  obtain ⟨D, hD⟩ : ∃ D, D = hdL h := ⟨_, rfl⟩
  rw [← hD] at hK KA HA1 KB HEY HTY d6 HR0 ⊢
  have HKO := Lib.hid hK
  clear hD R0 HA ha hE hx hnl hll hen hs hK
  go_enter Tryz.func55, Tryz.ntmps55
  go_upto_region 1 with fail
  generalize w.alloc _ = w1 at d6 KA HA1 KB HEY HR0 HKO ⊢
  have HLO : Hid (w.heap.size < w1.heap.size) := Lib.hid HR0.out.lt
  cases hkf : Un.kindF h.typ with
  | none =>
    have HN := Lib.hid (add_type (s := s) hkf)
    rw [kindV_none hkf] at HKO
    clear hkf HEY
    generalize v8 h.typ = y at *
    go_wp2_with (go_at_call 85; go_must (refine HKO.out.mono ?_; rintro e w2 ⟨rfl, rfl⟩))
    go_ret
    exact OutIs.bad HN.out rfl rfl KB
  | some k =>
    have HKF := Lib.hid hkf
    rw [kindV_some hkf] at HKO
    clear hkf
    have HE1 := Lib.hid (HEY.out k)
    clear HEY
    generalize v8 h.typ = y at *
    cases hef : Un.entryF h k s.ext s.rest with
    | no m =>
      have HN := Lib.hid (add_no HKF.out hef)
      have hm0 := Un.entry_err hef
      have HE2 : Hid (Calls Tryz.prog 86 #[.pointer (some ⟨r, 0, none⟩), .agg D.toArray, .int .i64 (k : Nat)] w1 fun e w' => e = .returned (.tuple #[.agg (entL zeroE).toArray, .int .i64 m]) ∧ Hid (Kept w1 w' (· = r))) := Lib.hid (HE1.out.mono fun e w' h => by unfold EntryIs at h; rw [hef] at h; exact h)
      have hmb : ((m : Int) != 0) = true := bne_iff_ne.2 (by omega)
      clear hef HE1 hm0
      go_wp2_with (first
        | (go_at_call 85; go_must (refine HKO.out.mono ?_; rintro e w2 ⟨rfl, rfl⟩))
        | ((with_reducible refine load_all ?_ 57 (.tmp 3) ?_ w.heap.size 0 D D.toArray ?_ _ ?_ Tryz.underlying57 ?_ ?_ ?_ ?_); rfl; rfl; go_must (rfl; exact rangeAt_row HR0.out; rfl; exact HTY.out.2; rfl))
        | (go_at_call 86; go_must (refine HE2.out.mono ?_; rintro e w3 ⟨rfl, K3⟩))
        | ((with_reducible refine store_all ?_ 30 (.tmp 7) (.tmp 22) ?_ w3.heap.size (entL zeroE) ?_ ?_ (entL zeroE) ?_ ?_ ?_ ?_ ?_); rfl; rfl; go_must (rfl; rfl; rfl; exact Row.at_ _ _ _ rfl rfl; exact infoE _; exact entL_all _; intro w4 R4 K4 E4)))
      go_ret
      exact OutIs.bad HN.out rfl rfl (Lib.hid ((KB.out.trans (below_kept K3.out HA1.out.new HA1.out.base)).trans ((kept_stored K4.out).below (Nat.le_trans HA1.out.base K3.out.size) (fun _ _ h => h))))
    | yes en r2 =>
      have HEF := Lib.hid hef
      have HE2 : Hid (Calls Tryz.prog 86 #[.pointer (some ⟨r, 0, none⟩), .agg D.toArray, .int .i64 (k : Nat)] w1 fun e w' => e = .returned (.tuple #[.agg (entL en).toArray, .int .i64 0]) ∧ (∃ A2 n2 c2, Hid (ArAt w' B r A2 n2 c2 xv ev ⟨r2, s.ext, s.ents⟩ false)) ∧ Hid (Kept w1 w' (· = r))) := Lib.hid (HE1.out.mono fun e w' h => by unfold EntryIs at h; rw [hef] at h; exact h)
      clear hef HE1
      have HED := Lib.hid (And.intro (infoE en) (entL_all en))
      have HEZ : Hid ((entL zeroE).length = (entL en).length) := Lib.hid rfl
      obtain ⟨ED, hED⟩ : ∃ ED, ED = entL en := ⟨_, rfl⟩
      rw [← hED] at HE2 HED HEZ
      have HEQ := Lib.hid hED
      clear hED
      go_upto_region 7 with (first
        | (go_at_call 85; go_must (refine HKO.out.mono ?_; rintro e w2 ⟨rfl, rfl⟩))
        | ((with_reducible refine load_all ?_ 57 (.tmp 3) ?_ w.heap.size 0 D D.toArray ?_ _ ?_ Tryz.underlying57 ?_ ?_ ?_ ?_); rfl; rfl; go_must (rfl; exact rangeAt_row HR0.out; rfl; exact HTY.out.2; rfl))
        | (go_at_call 86; go_must (refine HE2.out.mono ?_; rintro e w3 ⟨rfl, ⟨A2, n2, c2, HA3⟩, K3⟩))
        | ((with_reducible refine store_all ?_ 30 (.tmp 7) (.tmp 22) ?_ w3.heap.size ED ?_ ?_ (entL zeroE) ?_ ?_ ?_ ?_ ?_); rfl; rfl; go_must (rfl; rfl; exact HEZ.out; exact Row.at_ _ _ _ rfl rfl; exact HED.out.1; exact HED.out.2; intro w4 R4 K4 E4)))
      have KC := Lib.hid ((KB.out.trans (below_kept K3.out HA1.out.new HA1.out.base)).trans ((kept_stored K4.out).below (Nat.le_trans HA1.out.base K3.out.size) (fun _ _ h => h)))
      have HA4 := Lib.hid (HA3.out.below ((kept_stored K4.out).below (Nat.le_refl _) (fun _ _ h => h)))
      have HG : Hid (HA3.out.row.lt = HA3.out.row.lt) := Lib.hid rfl
      have hrg : r < w3.heap.size := HA3.out.row.lt
      have HRG := Lib.hid hrg
      have HEB := Lib.hid (fun b e => (HA3.out.ents.shape.elim fun _ h => h.elim fun _ h => h.2.2.2 b e))
      clear HE2 HKO K3 K4 E4 d6 HR0 HTY HEZ KB HA1 KA HLO HA3 HG hrg
      generalize w3.heap.size = g at R4 HRG HEB ⊢
      obtain ⟨Av, cv, hev, -, -, -⟩ := HA4.out.ents.shape
      have hev' : ev = .slice Av s.ents.length cv := hev
      subst hev'
      clear hev
      have hc2 := HA4.out.c2
      by_cases hfull : s.ents.length = 1000
      · have HN := Lib.hid (add_full HKF.out HEF.out hfull)
        have hf' : ((s.ents.length : Nat) : Int) = 1000 := by omega
        clear hfull
        go_wp2_with fail
        go_ret
        exact OutIs.bad HN.out rfl rfl KC
      have HN := Lib.hid (add_ok HKF.out HEF.out hfull)
      have hf' : ¬ ((s.ents.length : Nat) : Int) = 1000 := by omega
      clear hfull
      go_upto_region 9 with fail
      clear hf' hc2
      obtain ⟨EV, hEV⟩ : ∃ EV, EV = Value.slice Av s.ents.length cv := ⟨_, rfl⟩
      have HC2 : Hid (w4.cell? ⟨r, 2, none⟩ = some EV) := Lib.hid (by rw [hEV]; exact HA4.out.c2)
      rw [← hEV] at HA4 HEB ⊢
      clear hEV
      have HB := Lib.hid (show Kept w4 w4.drew (fun k => k = r ∨ EV.ownBlock = some k) from (Kept.refl w4 _).drewN 1)
      have HRD := Lib.hid (fun (v : World) (hv : Kept w4 v (fun k => k = r ∨ EV.ownBlock = some k)) => rangeAt_row (hv.row R4.out (fun e => e.elim (fun e => by have := HRG.out; omega) (fun e => by have := (HEB.out _ e).2; omega))))
      refine wp_region_held (S := fun v => Kept w4 v (fun k => k = r ∨ EV.ownBlock = some k)) (by kernel_rfl) ?_
      change wpAnyH _ _ _ _ _ _ _ _ (World.drew _)
      refine wpAnyH_take (i := 0) (v := ?_) rfl (by kernel_rfl) (by kernel_rfl) (by kernel_rfl) (fun _ _ _ h => h) (Or.inl ⟨by rfl, ?_⟩) HB.out ?_
      rotate_left
      · (intro v hv; go_simp <;> with_reducible rfl)
      simp only [List.getElem_toArray, List.getElem_cons_zero, Act.put, List.setIfInBounds_toArray, List.set_cons_zero, List.set_cons_succ]
      refine wpAnyH_take (i := 1) (v := ?_) rfl (by kernel_rfl) (by kernel_rfl) (by kernel_rfl) (fun _ _ _ h => h) (Or.inl ⟨by rfl, ?_⟩) HB.out ?_
      rotate_left
      · (intro v hv; go_simp <;> with_reducible rfl)
      simp only [List.getElem_toArray, List.getElem_cons_succ, List.getElem_cons_zero, Act.put, List.setIfInBounds_toArray, List.set_cons_zero, List.set_cons_succ]
      refine wpAnyH_take (i := 2) (v := ?_) rfl (by kernel_rfl) (by kernel_rfl) (by kernel_rfl) (fun _ _ _ h => h) (Or.inl ⟨by rfl, ?_⟩) HB.out ?_
      rotate_left
      · (intro v hv; go_simp <;> with_reducible rfl)
      simp only [List.getElem_toArray, List.getElem_cons_succ, List.getElem_cons_zero, Act.put, List.setIfInBounds_toArray, List.set_cons_zero, List.set_cons_succ]
      refine wpAnyH_take (i := 3) (v := ?_) rfl (by kernel_rfl) (by kernel_rfl) (by kernel_rfl) (fun _ _ _ h => h) (Or.inl ⟨by rfl, ?_⟩) HB.out ?_
      rotate_left
      · (intro v hv; go_simp <;> with_reducible rfl)
      simp only [List.getElem_toArray, List.getElem_cons_succ, List.getElem_cons_zero, Act.put, List.setIfInBounds_toArray, List.set_cons_zero, List.set_cons_succ]
      refine wpAnyH_take (i := 5) (v := .agg ED.toArray) rfl (by kernel_rfl) (by kernel_rfl) (by kernel_rfl) (fun _ _ _ h => h) (yieldsIf_load_mid (by rfl) 30 (.tmp 7) (by rfl) g 0 (by rfl) ED _ (fun v hv => HRD.out v hv) Tryz.underlying30 rfl HED.out.1) HB.out ?_
      simp only [List.getElem_toArray, List.getElem_cons_succ, List.getElem_cons_zero, Act.put, List.setIfInBounds_toArray, List.set_cons_zero, List.set_cons_succ]
      refine wpAnyH_ready (rs := [4, 6]) (by kernel_rfl) (by simp) ?_
      refine AllReadyH.cons rfl (fun K hK => ?_) (AllReadyH.cons rfl (fun K hK => ?_) AllReadyH.nil)
      · have hcx : w4.drew.cell? ⟨r, 2, none⟩ = some EV := HC2.out
        go_simp
        refine hK _ _ HB.out (fun _ => ?_)
        clear hK K hcx
        refine wpAnyH_ready (rs := [6]) (by kernel_rfl) (by simp) ?_
        refine AllReadyH.cons rfl (fun K hK => ?_) AllReadyH.nil
        rw [if_pos (by rfl)]
        simp only [List.getElem_toArray, List.getElem_cons_succ, List.getElem_cons_zero]
        with_reducible refine wp_build_ent (.tmp 38) ?_ en ?_ ?_
        · rfl
        · exact congrArg (fun l => Value.agg (List.toArray l)) HEQ.out
        intro w7 X7 K7
        have G7 := Lib.hid (show w4.heap.size ≤ (w4.drew).heap.size from Nat.le_refl _)
        generalize (w4.drew).heap.size = g7 at X7 G7 ⊢
        have C7 := Lib.hid (show Kept w4 w7 (fun _ => False) from ((Kept.refl w4 (fun _ => False)).drewN 1).trans K7.out)
        have HB := Lib.hid (show Kept w4 w7 (fun k => k = r ∨ EV.ownBlock = some k) from C7.out.mono (fun _ _ h => h.elim))
        refine hK _ _ HB.out (fun _ => ?_)
        clear hK K K7
        refine wpAnyH_ready (rs := [7]) (by kernel_rfl) (by simp) ?_
        refine AllReadyH.cons rfl (fun K hK => ?_) AllReadyH.nil
        rw [if_pos (by rfl)]
        simp only [List.getElem_toArray, List.getElem_cons_succ, List.getElem_cons_zero]
        with_reducible refine wp_append_ent (.tmp 37) (.tmp 39) ?_ B EV s.ents ?_ (HA4.out.ents.kept C7.out (fun _ _ h => h)) g7 en ?_ X7.out ?_ ?_ ?_
        · rfl
        · rfl
        · rfl
        · have := HEN.out
          omega
        · exact Nat.le_trans HA4.out.base C7.out.size
        intro v8' w8 O8 K8
        obtain ⟨A8, c8, e8, -, -, -⟩ := O8.out.shape
        obtain ⟨N8, hN8⟩ : ∃ N, (s.ents ++ [en]).length = N := ⟨_, rfl⟩
        rw [hN8] at e8
        clear hN8
        subst e8
        have C8 := Lib.hid (show Kept w4 w8 (fun b => B ≤ b ∧ EV.ownBlock = some b) from (C7.out.mono (fun _ _ h => h.elim)).trans K8.out)
        have HB := Lib.hid (show Kept w4 w8 (fun k => k = r ∨ EV.ownBlock = some k) from C8.out.mono (fun _ _ h => .inr h.2))
        refine hK _ _ HB.out (fun _ => ?_)
        clear hK K K8
        have R8 := Lib.hid (C8.out.row HA4.out.row (fun e => HA4.out.ents_ne r e.2 rfl))
        refine wpAnyH_take (i := 8) (v := ?_) rfl (by kernel_rfl) (by kernel_rfl) (by kernel_rfl) (fun _ _ _ h => h) (Or.inl ⟨by rfl, ?_⟩) HB.out ?_
        rotate_left
        · (intro v hv; go_simp <;> with_reducible rfl)
        simp only [List.getElem_toArray, List.getElem_cons_succ, List.getElem_cons_zero, Act.put, List.setIfInBounds_toArray, List.set_cons_zero, List.set_cons_succ]
        refine wpAnyH_take (i := 9) (v := ?_) rfl (by kernel_rfl) (by kernel_rfl) (by kernel_rfl) (fun _ _ _ h => h) (Or.inl ⟨by rfl, ?_⟩) HB.out ?_
        rotate_left
        · (intro v hv; go_simp <;> with_reducible rfl)
        simp only [List.getElem_toArray, List.getElem_cons_succ, List.getElem_cons_zero, Act.put, List.setIfInBounds_toArray, List.set_cons_zero, List.set_cons_succ]
        refine wpAnyH_ready (rs := [10]) (by kernel_rfl) (by simp) ?_
        refine AllReadyH.cons rfl (fun K hK => ?_) AllReadyH.nil
        have hcx : w8.cell? ⟨r, 2, none⟩ = some EV := R8.out.cell (i := 2) rfl
        have hfx := R8.out.frozen 2
        go_simp
        have HA9 := Lib.hid (HA4.out.grown C8.out O8.out)
        have HB := Lib.hid (show Kept w4 (w8.setCell ⟨r, 2, none⟩ (.slice A8 N8 c8)) (fun k => k = r ∨ EV.ownBlock = some k) from HB.out.trans ((Kept.refl w8 _).setCell (a := ⟨r, 2, none⟩) (.inr (.inl rfl)) _))
        have KD := Lib.hid (KC.out.trans (HB.out.below HA4.out.base (fun b hb h => h.elim (fun h => by have := HA4.out.new; omega) (fun h => by have := (HEB.out b h).1; omega))))
        refine hK _ _ HB.out (fun _ => ?_)
        clear hK K hcx hfx
        generalize w8.setCell _ _ = w9 at HB HA9 KD ⊢
        refine wpAnyH_done (by kernel_rfl) ?_ _
        have hc1 := HA9.out.c1
        obtain ⟨Ax, cx, ex, -⟩ := HA9.out.ext.pairs
        rw [ex] at hc1
        have hf1 := HA9.out.fz 1
        go_wp2_with fail
        go_ret
        rw [HN.out]
        exact ⟨rfl, ⟨A2, n2, c2, .slice none 0 0, _, Lib.hid (HA9.out.set_ext (OwnPairs.nil _ _))⟩, Lib.hid (KD.out.trans (below_kept (kept_set _) HA9.out.new HA9.out.base))⟩
      · rw [if_pos (by rfl)]
        simp only [List.getElem_toArray, List.getElem_cons_succ, List.getElem_cons_zero]
        with_reducible refine wp_build_ent (.tmp 38) ?_ en ?_ ?_
        · rfl
        · exact congrArg (fun l => Value.agg (List.toArray l)) HEQ.out
        intro w7 X7 K7
        have G7 := Lib.hid (show w4.heap.size ≤ (w4.drew).heap.size from Nat.le_refl _)
        generalize (w4.drew).heap.size = g7 at X7 G7 ⊢
        have C7 := Lib.hid (show Kept w4 w7 (fun _ => False) from ((Kept.refl w4 (fun _ => False)).drewN 1).trans K7.out)
        have HB := Lib.hid (show Kept w4 w7 (fun k => k = r ∨ EV.ownBlock = some k) from C7.out.mono (fun _ _ h => h.elim))
        refine hK _ _ HB.out (fun _ => ?_)
        clear hK K K7
        refine wpAnyH_ready (rs := [4]) (by kernel_rfl) (by simp) ?_
        refine AllReadyH.cons rfl (fun K hK => ?_) AllReadyH.nil
        have hcx : w7.cell? ⟨r, 2, none⟩ = some EV := C7.out.cell HC2.out (fun h => h)
        go_simp
        refine hK _ _ HB.out (fun _ => ?_)
        clear hK K hcx
        refine wpAnyH_ready (rs := [7]) (by kernel_rfl) (by simp) ?_
        refine AllReadyH.cons rfl (fun K hK => ?_) AllReadyH.nil
        rw [if_pos (by rfl)]
        simp only [List.getElem_toArray, List.getElem_cons_succ, List.getElem_cons_zero]
        with_reducible refine wp_append_ent (.tmp 37) (.tmp 39) ?_ B EV s.ents ?_ (HA4.out.ents.kept C7.out (fun _ _ h => h)) g7 en ?_ X7.out ?_ ?_ ?_
        · rfl
        · rfl
        · rfl
        · have := HEN.out
          omega
        · exact Nat.le_trans HA4.out.base C7.out.size
        intro v8' w8 O8 K8
        obtain ⟨A8, c8, e8, -, -, -⟩ := O8.out.shape
        obtain ⟨N8, hN8⟩ : ∃ N, (s.ents ++ [en]).length = N := ⟨_, rfl⟩
        rw [hN8] at e8
        clear hN8
        subst e8
        have C8 := Lib.hid (show Kept w4 w8 (fun b => B ≤ b ∧ EV.ownBlock = some b) from (C7.out.mono (fun _ _ h => h.elim)).trans K8.out)
        have HB := Lib.hid (show Kept w4 w8 (fun k => k = r ∨ EV.ownBlock = some k) from C8.out.mono (fun _ _ h => .inr h.2))
        refine hK _ _ HB.out (fun _ => ?_)
        clear hK K K8
        have R8 := Lib.hid (C8.out.row HA4.out.row (fun e => HA4.out.ents_ne r e.2 rfl))
        refine wpAnyH_take (i := 8) (v := ?_) rfl (by kernel_rfl) (by kernel_rfl) (by kernel_rfl) (fun _ _ _ h => h) (Or.inl ⟨by rfl, ?_⟩) HB.out ?_
        rotate_left
        · (intro v hv; go_simp <;> with_reducible rfl)
        simp only [List.getElem_toArray, List.getElem_cons_succ, List.getElem_cons_zero, Act.put, List.setIfInBounds_toArray, List.set_cons_zero, List.set_cons_succ]
        refine wpAnyH_take (i := 9) (v := ?_) rfl (by kernel_rfl) (by kernel_rfl) (by kernel_rfl) (fun _ _ _ h => h) (Or.inl ⟨by rfl, ?_⟩) HB.out ?_
        rotate_left
        · (intro v hv; go_simp <;> with_reducible rfl)
        simp only [List.getElem_toArray, List.getElem_cons_succ, List.getElem_cons_zero, Act.put, List.setIfInBounds_toArray, List.set_cons_zero, List.set_cons_succ]
        refine wpAnyH_ready (rs := [10]) (by kernel_rfl) (by simp) ?_
        refine AllReadyH.cons rfl (fun K hK => ?_) AllReadyH.nil
        have hcx : w8.cell? ⟨r, 2, none⟩ = some EV := R8.out.cell (i := 2) rfl
        have hfx := R8.out.frozen 2
        go_simp
        have HA9 := Lib.hid (HA4.out.grown C8.out O8.out)
        have HB := Lib.hid (show Kept w4 (w8.setCell ⟨r, 2, none⟩ (.slice A8 N8 c8)) (fun k => k = r ∨ EV.ownBlock = some k) from HB.out.trans ((Kept.refl w8 _).setCell (a := ⟨r, 2, none⟩) (.inr (.inl rfl)) _))
        have KD := Lib.hid (KC.out.trans (HB.out.below HA4.out.base (fun b hb h => h.elim (fun h => by have := HA4.out.new; omega) (fun h => by have := (HEB.out b h).1; omega))))
        refine hK _ _ HB.out (fun _ => ?_)
        clear hK K hcx hfx
        generalize w8.setCell _ _ = w9 at HB HA9 KD ⊢
        refine wpAnyH_done (by kernel_rfl) ?_ _
        have hc1 := HA9.out.c1
        obtain ⟨Ax, cx, ex, -⟩ := HA9.out.ext.pairs
        rw [ex] at hc1
        have hf1 := HA9.out.fz 1
        go_wp2_with fail
        go_ret
        rw [HN.out]
        exact ⟨rfl, ⟨A2, n2, c2, .slice none 0 0, _, Lib.hid (HA9.out.set_ext (OwnPairs.nil _ _))⟩, Lib.hid (KD.out.trans (below_kept (kept_set _) HA9.out.new HA9.out.base))⟩
end Go.Proofs.YtpgaejalkbpbhaaGreatDoor

namespace Go.Proofs.YtpgaejalkbpbhaaGreatDoor
open Go.RowKit Sh Px Hd

theorem results_tct {P : Program} {fn : Func} {a p u : Tmp} {ty : TypeId} (h : fn.results = #[.tmp a, .cell p ty, .tmp u]) (tmps : Array Value) (w : World) (g : Nat) (t : TypeId) (cs : Array Value) (fr : Nat × Nat) (d : TypeDesc)
    (hp : tmps.getD p undef = .pointer (some ⟨g, 0, none⟩)) (hrow : w.heap[g]? = some (.cells cs t fr)) (hu : P.underlying ty = some d) (hd : (match d with | .struct _ | .array _ _ => true | _ => false) = true) (hi : (P.info? ty).map (·.size) = some cs.size) :
    (results fn tmps).run P w = .ok (.tuple #[tmps.getD a undef, .agg cs, tmps.getD u undef]) w := by
  have h1 := run_loadVar_row w g t ty cs fr d hrow hu hd hi
  rw [Array.getD_eq_getD_getElem?] at hp
  simp only [results, h]
  simp [Result.andThen, hp, asAddr, h1]
/-- A method value of a reader. -/
def FnIs (f : Value) (k : FuncId) (r : Nat) : Prop := f = .func (.func k) #[.pointer (some ⟨r, 0, none⟩)] #[]
/-- What next answers: the step, the header, the error. -/
def nextV (f : Value) (h : H) (i : Int) : Value := .tuple #[f, .agg (hdL h).toArray, .int .i64 i]
set_option maxRecDepth 100000 in
set_option maxHeartbeats 8000000 in
theorem next_short (w : World) (B r : Nat) (A : Option Addr) (n c : Nat) (xv ev : Value) (s : Un.St) (ha : ArAt w B r A n c xv ev s false) (hl : s.rest.length < 512) :
    Calls Tryz.prog 32 #[.pointer (some ⟨r, 0, none⟩)] w fun e w' => e = .returned (nextV .nilFunc zeroH 4) ∧ Hid (Below B w w') := by
  have HA := Lib.hid ha
  have HBS := Lib.hid ha.base
  have hR1 : Row (w.alloc (.cells #[.string ⟨#[]⟩, .int .i64 0, .int .i64 0, .int .i64 0, .int .i64 0, .int .i64 0, .int .u8 0, .string ⟨#[]⟩, .int .i64 0, .int .i64 0] 57)) w.heap.size 57 (hdL zeroH) := Row.at_ _ _ _ rfl rfl
  have KA := Lib.hid (Below.alloc (Below.refl w.heap.size w) (Nat.le_refl _) (.cells #[.string ⟨#[]⟩, .int .i64 0, .int .i64 0, .int .i64 0, .int .i64 0, .int .i64 0, .int .u8 0, .string ⟨#[]⟩, .int .i64 0, .int .i64 0] 57))
  have HA1 := Lib.hid (HA.out.below KA.out)
  have KB := Lib.hid (KA.out.mono HBS.out)
  have R1 := Lib.hid hR1
  have HRL := Lib.hid HA.out.row.lt
  clear ha HA hR1
  go_enter Tryz.func32, Tryz.ntmps32
  go_upto_region 1 with fail
  generalize w.alloc _ = w1 at KA HA1 KB R1 ⊢
  have HTK := Lib.hid ((un_take w1 B r A n c xv ev s false HA1.out 512 (by decide)).mono fun _ _ h => h.no (take_512n hl))
  clear hl
  go_wp2_with (first
    | (go_at_call 50; go_must (refine HTK.out.mono ?_; rintro e w2 ⟨rfl, rfl⟩))
    | ((with_reducible refine build_all ?_ 57 #[] ?_ (hdL zeroH).toArray ?_ ?_); rfl; rfl; go_must (refine Eq.trans ?_ built25; kernel_rfl))
    | ((with_reducible refine store_all ?_ 57 (.tmp 3) (.tmp 16) ?_ w.heap.size (hdL zeroH) ?_ ?_ (hdL zeroH) ?_ R1.out ?_ ?_ ?_); rfl; rfl; go_must (rfl; rfl; rfl; exact info25 _; exact hdL_one _; intro w6 R6 K6 E6)))
  refine bodyPost_ret (v := .tuple #[.nilFunc, .agg (hdL zeroH).toArray, .int .i64 4]) (results_tct (fn := Tryz.f32) (a := 2) (p := 3) (u := 4) rfl _ _ w.heap.size _ (hdL zeroH).toArray _ _ rfl R6.out Tryz.underlying57 rfl (info25 _)) rfl ?_
  exact ⟨rfl, Lib.hid (KB.out.trans (K6.out.below HA1.out.base (fun b h1 h2 => by have := HBS.out; omega)))⟩
set_option maxRecDepth 100000 in
set_option maxHeartbeats 8000000 in
theorem next_end (w : World) (B r : Nat) (A : Option Addr) (n c : Nat) (xv ev : Value) (s : Un.St) (ha : ArAt w B r A n c xv ev s false) (hl : ¬ s.rest.length < 512) (he : emptyF (s.rest.take 512) = true) :
    ∃ f, FnIs f 52 r ∧ Calls Tryz.prog 32 #[.pointer (some ⟨r, 0, none⟩)] w fun e w' => e = .returned (nextV f zeroH 0) ∧ (∃ A2 n2 c2, Hid (ArAt w' B r A2 n2 c2 xv ev ⟨s.rest.drop 512, s.ext, s.ents⟩ false)) ∧ Hid (Below B w w') := by
  refine ⟨_, rfl, ?_⟩
  have HA := Lib.hid ha
  have HBS := Lib.hid ha.base
  have hR1 : Row (w.alloc (.cells #[.string ⟨#[]⟩, .int .i64 0, .int .i64 0, .int .i64 0, .int .i64 0, .int .i64 0, .int .u8 0, .string ⟨#[]⟩, .int .i64 0, .int .i64 0] 57)) w.heap.size 57 (hdL zeroH) := Row.at_ _ _ _ rfl rfl
  have KA := Lib.hid (Below.alloc (Below.refl w.heap.size w) (Nat.le_refl _) (.cells #[.string ⟨#[]⟩, .int .i64 0, .int .i64 0, .int .i64 0, .int .i64 0, .int .i64 0, .int .u8 0, .string ⟨#[]⟩, .int .i64 0, .int .i64 0] 57))
  have HA1 := Lib.hid (HA.out.below KA.out)
  have KB := Lib.hid (KA.out.mono HBS.out)
  have R1 := Lib.hid hR1
  have HRL := Lib.hid HA.out.row.lt
  clear ha HA hR1
  go_enter Tryz.func32, Tryz.ntmps32
  go_upto_region 1 with fail
  generalize w.alloc _ = w1 at KA HA1 KB R1 ⊢
  have HTK := Lib.hid ((un_take w1 B r A n c xv ev s false HA1.out 512 (by decide)).mono fun _ _ h => h.yes (take_512 hl))
  have HT5 : Hid ((s.rest.take 512).length = 512) := Lib.hid (by rw [List.length_take]; omega)
  clear hl
  generalize ht1 : s.rest.take 512 = t1 at *
  generalize ht2 : s.rest.drop 512 = t2 at *
  have HT1 := Lib.hid ht1
  have HT2 := Lib.hid ht2
  clear ht1 ht2
  go_upto_region 4 with (go_at_call 50; go_must (refine HTK.out.mono ?_; rintro e w2 ⟨rfl, ⟨A2, n2, c2, HA2⟩, HB2, K2⟩))
  have KC := Lib.hid (KB.out.trans (below_kept K2.out HA2.out.new HA1.out.base))
  have R2 := Lib.hid (K2.out.row R1.out (by have := HRL.out; omega))
  have HEM := Lib.hid (empty_any w2 A 512 c t1 HB2.out (by decide))
  rw [he] at HEM
  clear he
  go_upto_region 5 with (go_at_call 51; go_must (refine HEM.out.mono ?_; rintro e w3 ⟨rfl, rfl⟩))
  go_wp2_with (first
    | ((with_reducible refine build_all ?_ 57 #[] ?_ (hdL zeroH).toArray ?_ ?_); rfl; rfl; go_must (refine Eq.trans ?_ built25; kernel_rfl))
    | ((with_reducible refine store_all ?_ 57 (.tmp 3) (.tmp 21) ?_ w.heap.size (hdL zeroH) ?_ ?_ (hdL zeroH) ?_ R2.out ?_ ?_ ?_); rfl; rfl; go_must (rfl; rfl; rfl; exact info25 _; exact hdL_one _; intro w6 R6 K6 E6)))
  refine bodyPost_ret (v := .tuple #[.func (.func 52) #[.pointer (some ⟨r, 0, none⟩)] #[], .agg (hdL zeroH).toArray, .int .i64 0]) (results_tct (fn := Tryz.f32) (a := 2) (p := 3) (u := 4) rfl _ _ w.heap.size _ (hdL zeroH).toArray _ _ rfl R6.out Tryz.underlying57 rfl (info25 _)) rfl ?_
  exact ⟨rfl, ⟨A2, n2, c2, Lib.hid (by rw [HT2.out]; exact HA2.out.kept K6.out (by have := HRL.out; omega) (fun b hb => by have := HBS.out; omega) (own_ne HA2.out.ext R2.out (by decide)) (own_ne HA2.out.ents R2.out (by decide)))⟩, Lib.hid (KC.out.trans (K6.out.below HA2.out.base (fun b h1 h2 => by have := HBS.out; omega)))⟩
set_option maxRecDepth 100000 in
set_option maxHeartbeats 8000000 in
theorem next_bad (w : World) (B r : Nat) (A : Option Addr) (n c : Nat) (xv ev : Value) (s : Un.St) (ha : ArAt w B r A n c xv ev s false) (hE : UnLow B w) (hl : ¬ s.rest.length < 512) (he : emptyF (s.rest.take 512) = false) (hp : (Hd.parseF (s.rest.take 512)).2 ≠ 0) :
    Calls Tryz.prog 32 #[.pointer (some ⟨r, 0, none⟩)] w fun e w' => e = .returned (nextV .nilFunc zeroH (Hd.parseF (s.rest.take 512)).2) ∧ Hid (Below B w w') := by
  have HBMX := Lib.hid (And.intro ha.rest.cap ha.cap)
  have HA := Lib.hid ha
  have HBS := Lib.hid ha.base
  have hR1 : Row (w.alloc (.cells #[.string ⟨#[]⟩, .int .i64 0, .int .i64 0, .int .i64 0, .int .i64 0, .int .i64 0, .int .u8 0, .string ⟨#[]⟩, .int .i64 0, .int .i64 0] 57)) w.heap.size 57 (hdL zeroH) := Row.at_ _ _ _ rfl rfl
  have KA := Lib.hid (Below.alloc (Below.refl w.heap.size w) (Nat.le_refl _) (.cells #[.string ⟨#[]⟩, .int .i64 0, .int .i64 0, .int .i64 0, .int .i64 0, .int .i64 0, .int .u8 0, .string ⟨#[]⟩, .int .i64 0, .int .i64 0] 57))
  have HA1 := Lib.hid (HA.out.below KA.out)
  have KB := Lib.hid (KA.out.mono HBS.out)
  have R1 := Lib.hid hR1
  have HRL := Lib.hid HA.out.row.lt
  clear ha HA hR1
  go_enter Tryz.func32, Tryz.ntmps32
  go_upto_region 1 with fail
  generalize w.alloc _ = w1 at KA HA1 KB R1 ⊢
  have HTK := Lib.hid ((un_take w1 B r A n c xv ev s false HA1.out 512 (by decide)).mono fun _ _ h => h.yes (take_512 hl))
  have HT5 : Hid ((s.rest.take 512).length = 512) := Lib.hid (by rw [List.length_take]; omega)
  clear hl
  generalize ht1 : s.rest.take 512 = t1 at *
  generalize ht2 : s.rest.drop 512 = t2 at *
  have HT1 := Lib.hid ht1
  have HT2 := Lib.hid ht2
  clear ht1 ht2
  go_upto_region 4 with (go_at_call 50; go_must (refine HTK.out.mono ?_; rintro e w2 ⟨rfl, ⟨A2, n2, c2, HA2⟩, HB2, K2⟩))
  have KC := Lib.hid (KB.out.trans (below_kept K2.out HA2.out.new HA1.out.base))
  have R2 := Lib.hid (K2.out.row R1.out (by have := HRL.out; omega))
  have HEM := Lib.hid (empty_any w2 A 512 c t1 HB2.out (by decide))
  rw [he] at HEM
  clear he
  go_upto_region 6 with (go_at_call 51; go_must (refine HEM.out.mono ?_; rintro e w3 ⟨rfl, rfl⟩))
  have HPA := Lib.hid (parse_any w3 A 512 c t1 HB2.out HBMX.out.2 (hE.on KC.out).here.ft)
  change Hid (Calls Tryz.prog _ _ w3 fun e w' => e = .returned (.tuple #[.agg (hdL (Hd.parseF t1).1).toArray, .int .i64 (Hd.parseF t1).2]) ∧ _) at HPA
  obtain ⟨ED, hED⟩ : ∃ ED, ED = hdL (Hd.parseF t1).1 := ⟨_, rfl⟩
  have HEI : Hid ((Tryz.prog.info? 57).map (·.size) = some ED.length ∧ ED.toArray.all (·.oneCell') = true ∧ (hdL zeroH).length = ED.length) := Lib.hid (by rw [hED]; exact ⟨info25 _, hdL_one _, rfl⟩)
  rw [← hED] at HPA
  obtain ⟨i, hi⟩ : ∃ i, (Hd.parseF t1).2 = i := ⟨_, rfl⟩
  rw [hi] at HPA hp
  have HI := Lib.hid (show (Hd.parseF (s.rest.take 512)).2 = i by rw [HT1.out, hi])
  have hib : (i != 0) = true := bne_iff_ne.2 hp
  clear hED hi hp
  go_wp2_with (first
    | (go_at_call 53; go_must (refine HPA.out.mono ?_; rintro e w4 ⟨rfl, K4⟩))
    | ((with_reducible refine store_all ?_ 57 (.tmp 7) (.tmp 25) ?_ w4.heap.size ED ?_ ?_ (hdL zeroH) ?_ (Row.at_ _ _ _ rfl rfl) ?_ ?_ ?_); rfl; rfl; go_must (rfl; rfl; exact HEI.out.2.2; exact HEI.out.1; exact HEI.out.2.1; intro w5 R5 K5 E5))
    | ((with_reducible refine build_all ?_ 57 #[] ?_ (hdL zeroH).toArray ?_ ?_); rfl; rfl; go_must (refine Eq.trans ?_ built25; kernel_rfl))
    | ((with_reducible refine store_all ?_ 57 (.tmp 3) (.tmp 29) ?_ w.heap.size (hdL zeroH) ?_ ?_ (hdL zeroH) ?_ (Lib.hid ((kept_trans (kept_below K4.out) (kept_stored K5.out)).row R2.out (fun h => h))).out ?_ ?_ ?_); rfl; rfl; go_must (rfl; rfl; rfl; exact info25 _; exact hdL_one _; intro w6 R6 K6 E6)))
  refine bodyPost_ret (v := .tuple #[.nilFunc, .agg (hdL zeroH).toArray, .int .i64 i]) (results_tct (fn := Tryz.f32) (a := 2) (p := 3) (u := 4) rfl _ _ w.heap.size _ (hdL zeroH).toArray _ _ rfl R6.out Tryz.underlying57 rfl (info25 _)) rfl ?_
  exact ⟨by rw [HI.out]; rfl, Lib.hid ((KC.out.trans ((kept_trans (kept_below K4.out) (kept_stored K5.out)).below HA2.out.base (fun _ _ h => h))).trans (K6.out.below (Nat.le_trans HA2.out.base (kept_trans (kept_below K4.out) (kept_stored K5.out)).size) (fun b h1 h2 => by have := HBS.out; omega)))⟩
set_option maxRecDepth 100000 in
set_option maxHeartbeats 8000000 in
theorem next_keep (w : World) (B r : Nat) (A : Option Addr) (n c : Nat) (xv ev : Value) (s : Un.St) (ha : ArAt w B r A n c xv ev s false) (hE : UnLow B w) (hl : ¬ s.rest.length < 512) (he : emptyF (s.rest.take 512) = false) (hp : (Hd.parseF (s.rest.take 512)).2 = 0) (ht : (Hd.parseF (s.rest.take 512)).1.typ = 120) :
    ∃ f, FnIs f 54 r ∧ Calls Tryz.prog 32 #[.pointer (some ⟨r, 0, none⟩)] w fun e w' => e = .returned (nextV f (Hd.parseF (s.rest.take 512)).1 0) ∧ (∃ A2 n2 c2, Hid (ArAt w' B r A2 n2 c2 xv ev ⟨s.rest.drop 512, s.ext, s.ents⟩ false)) ∧ Hid (Below B w w') := by
  refine ⟨_, rfl, ?_⟩
  have HBMX := Lib.hid (And.intro ha.rest.cap ha.cap)
  have HA := Lib.hid ha
  have HBS := Lib.hid ha.base
  have hR1 : Row (w.alloc (.cells #[.string ⟨#[]⟩, .int .i64 0, .int .i64 0, .int .i64 0, .int .i64 0, .int .i64 0, .int .u8 0, .string ⟨#[]⟩, .int .i64 0, .int .i64 0] 57)) w.heap.size 57 (hdL zeroH) := Row.at_ _ _ _ rfl rfl
  have KA := Lib.hid (Below.alloc (Below.refl w.heap.size w) (Nat.le_refl _) (.cells #[.string ⟨#[]⟩, .int .i64 0, .int .i64 0, .int .i64 0, .int .i64 0, .int .i64 0, .int .u8 0, .string ⟨#[]⟩, .int .i64 0, .int .i64 0] 57))
  have HA1 := Lib.hid (HA.out.below KA.out)
  have KB := Lib.hid (KA.out.mono HBS.out)
  have R1 := Lib.hid hR1
  have HRL := Lib.hid HA.out.row.lt
  clear ha HA hR1
  go_enter Tryz.func32, Tryz.ntmps32
  go_upto_region 1 with fail
  generalize w.alloc _ = w1 at KA HA1 KB R1 ⊢
  have HTK := Lib.hid ((un_take w1 B r A n c xv ev s false HA1.out 512 (by decide)).mono fun _ _ h => h.yes (take_512 hl))
  have HT5 : Hid ((s.rest.take 512).length = 512) := Lib.hid (by rw [List.length_take]; omega)
  clear hl
  generalize ht1 : s.rest.take 512 = t1 at *
  generalize ht2 : s.rest.drop 512 = t2 at *
  have HT1 := Lib.hid ht1
  have HT2 := Lib.hid ht2
  clear ht1 ht2
  go_upto_region 4 with (go_at_call 50; go_must (refine HTK.out.mono ?_; rintro e w2 ⟨rfl, ⟨A2, n2, c2, HA2⟩, HB2, K2⟩))
  have KC := Lib.hid (KB.out.trans (below_kept K2.out HA2.out.new HA1.out.base))
  have R2 := Lib.hid (K2.out.row R1.out (by have := HRL.out; omega))
  have HEM := Lib.hid (empty_any w2 A 512 c t1 HB2.out (by decide))
  rw [he] at HEM
  clear he
  go_upto_region 6 with (go_at_call 51; go_must (refine HEM.out.mono ?_; rintro e w3 ⟨rfl, rfl⟩))
  have HPA := Lib.hid (parse_any w3 A 512 c t1 HB2.out HBMX.out.2 (hE.on KC.out).here.ft)
  change Hid (Calls Tryz.prog _ _ w3 fun e w' => e = .returned (.tuple #[.agg (hdL (Hd.parseF t1).1).toArray, .int .i64 (Hd.parseF t1).2]) ∧ _) at HPA
  obtain ⟨ED, hED⟩ : ∃ ED, ED = hdL (Hd.parseF t1).1 := ⟨_, rfl⟩
  have HEI : Hid ((Tryz.prog.info? 57).map (·.size) = some ED.length ∧ ED.toArray.all (·.oneCell') = true ∧ (hdL zeroH).length = ED.length) := Lib.hid (by rw [hED]; exact ⟨info25 _, hdL_one _, rfl⟩)
  rw [← hED] at HPA
  rw [hp] at HPA
  have ht6 : n8 (Hd.parseF t1).1.typ = 120 := by rw [ht]; rfl
  have HED := Lib.hid hED
  have HH := Lib.hid (show (Hd.parseF (s.rest.take 512)).1 = (Hd.parseF t1).1 by rw [HT1.out])
  have d6 : ED[6]? = some (v8 (Hd.parseF t1).1.typ) := by rw [hED]; rfl
  clear hp ht hED
  generalize hty : n8 (Hd.parseF t1).1.typ = y at *
  rw [v8, hty] at d6
  clear hty
  go_upto_region 9 with (first
    | (go_at_call 53; go_must (refine HPA.out.mono ?_; rintro e w4 ⟨rfl, K4⟩))
    | ((with_reducible refine store_all ?_ 57 (.tmp 7) (.tmp 25) ?_ w4.heap.size ED ?_ ?_ (hdL zeroH) ?_ (Row.at_ _ _ _ rfl rfl) ?_ ?_ ?_); rfl; rfl; go_must (rfl; rfl; exact HEI.out.2.2; exact HEI.out.1; exact HEI.out.2.1; intro w5 R5 K5 E5)))
  have KD := Lib.hid (kept_trans (kept_below K4.out) (kept_stored K5.out))
  have HA5 := Lib.hid (HA2.out.below (KD.out.below (Nat.le_refl _) (fun _ _ h => h)))
  have HG : Hid (w3.heap.size ≤ w4.heap.size) := Lib.hid K4.out.size
  have RZ := Lib.hid (KD.out.row R2.out (fun h => h))
  have HLT : Hid (w.heap.size < w3.heap.size) := Lib.hid R2.out.lt
  clear R2 K4 K5 E5 HPA HEM
  generalize w4.heap.size = g at R5 HG ⊢
  have c6 := R5.out.cell d6
  go_upto_region 10 with fail
  clear c6 d6 ht6
  have HB := Lib.hid (show Kept w5 w5.drew (· = w.heap.size) from (Kept.refl w5 _).drewN 1)
  have HRD := Lib.hid (fun (v : World) (hv : Kept w5 v (· = w.heap.size)) => rangeAt_row (hv.row R5.out (by have := HLT.out; have := HG.out; omega)))
  refine wp_region_held (S := fun v => Kept w5 v (· = w.heap.size)) (by kernel_rfl) ?_
  change wpAnyH _ _ _ _ _ _ _ _ (World.drew _)
  have RZ2 : Hid (Row w5.drew w.heap.size 57 (hdL zeroH)) := Lib.hid (RZ.out.drewN 1)
  generalize w5.drew = w6 at HB RZ2 ⊢
  refine wpAnyH_take (i := 0) (v := ?_) rfl (by kernel_rfl) (by kernel_rfl) (by kernel_rfl) (fun _ _ _ h => h) (Or.inl ⟨by rfl, ?_⟩) HB.out ?_
  rotate_left
  · (intro v hv; go_simp <;> with_reducible rfl)
  simp only [List.getElem_toArray, List.getElem_cons_zero, Act.put, List.setIfInBounds_toArray, List.set_cons_zero, List.set_cons_succ]
  refine wpAnyH_take (i := 1) (v := ?_) rfl (by kernel_rfl) (by kernel_rfl) (by kernel_rfl) (fun _ _ _ h => h) (Or.inl ⟨by rfl, ?_⟩) HB.out ?_
  rotate_left
  · (intro v hv; go_simp <;> with_reducible rfl)
  simp only [List.getElem_toArray, List.getElem_cons_succ, List.getElem_cons_zero, Act.put, List.setIfInBounds_toArray, List.set_cons_zero, List.set_cons_succ]
  refine wpAnyH_take (i := 2) (v := .agg ED.toArray) rfl (by kernel_rfl) (by kernel_rfl) (by kernel_rfl) (fun _ _ _ h => h) (yieldsIf_load_mid (by rfl) 57 (.tmp 7) (by rfl) g 0 (by rfl) ED _ (fun v hv => HRD.out v hv) Tryz.underlying57 rfl HEI.out.1) HB.out ?_
  simp only [List.getElem_toArray, List.getElem_cons_succ, List.getElem_cons_zero, Act.put, List.setIfInBounds_toArray, List.set_cons_zero, List.set_cons_succ]
  refine wpAnyH_take (i := 3) (v := ?_) rfl (by kernel_rfl) (by kernel_rfl) (by kernel_rfl) (fun _ _ _ h => h) (Or.inl ⟨by rfl, ?_⟩) HB.out ?_
  rotate_left
  · (intro v hv; go_simp <;> with_reducible rfl)
  simp only [List.getElem_toArray, List.getElem_cons_succ, List.getElem_cons_zero, Act.put, List.setIfInBounds_toArray, List.set_cons_zero, List.set_cons_succ]
  refine wpAnyH_ready (rs := [4]) (by kernel_rfl) (by simp) ?_
  refine AllReadyH.cons rfl (fun K hK => ?_) AllReadyH.nil
  rw [if_pos (by rfl)]
  refine wp_store_row 57 (.tmp 3) (.tmp 36) (by rfl) w.heap.size ED.toArray (by rfl) (by rfl) 57 (hdL zeroH).toArray RZ2.out (by rw [List.size_toArray]; exact HEI.out.1) (by rw [List.size_toArray, List.size_toArray]; exact HEI.out.2.2) HEI.out.2.1 ?_
  have RZ3 : Hid (Row (w6.setRow w.heap.size ED.toArray) w.heap.size 57 ED) := Lib.hid (RZ2.out.setRow _)
  have HB3 : Hid (Kept w5 (w6.setRow w.heap.size ED.toArray) (· = w.heap.size)) := Lib.hid (kept_eq HB.out ((Kept.refl w6 (· = w.heap.size)).setRow (b := w.heap.size) (.inr rfl) _))
  clear HB RZ2
  generalize w6.setRow _ _ = w7 at RZ3 HB3 ⊢
  have HB := HB3
  refine hK _ _ HB.out (fun _ => ?_)
  clear hK K
  simp only [List.getElem_toArray, List.getElem_cons_succ, List.getElem_cons_zero, Act.put]
  refine wpAnyH_take (i := 5) (v := ?_) rfl (by kernel_rfl) (by kernel_rfl) (by kernel_rfl) (fun _ _ _ h => h) (Or.inl ⟨by rfl, ?_⟩) HB.out ?_
  rotate_left
  · (intro v hv; go_simp <;> with_reducible rfl)
  simp only [List.getElem_toArray, List.getElem_cons_succ, List.getElem_cons_zero, Act.put, List.setIfInBounds_toArray, List.set_cons_zero, List.set_cons_succ]
  refine wpAnyH_done (by kernel_rfl) ?_ _
  go_wp2_with fail
  refine bodyPost_ret (v := .tuple #[.func (.func 54) #[.pointer (some ⟨r, 0, none⟩)] #[], .agg ED.toArray, .int .i64 0]) (results_tct (fn := Tryz.f32) (a := 2) (p := 3) (u := 4) rfl _ _ w.heap.size _ ED.toArray _ _ rfl RZ3.out Tryz.underlying57 rfl (by rw [List.size_toArray]; exact HEI.out.1)) rfl ?_
  exact ⟨by unfold nextV; rw [HH.out, ← HED.out], ⟨A2, n2, c2, Lib.hid (by rw [HT2.out]; exact HA5.out.kept HB3.out (by have := HRL.out; omega) (fun b hb => by have := HBS.out; omega) (own_ne HA5.out.ext RZ.out (by decide)) (own_ne HA5.out.ents RZ.out (by decide)))⟩, Lib.hid ((KC.out.trans (KD.out.below HA2.out.base (fun _ _ h => h))).trans (HB3.out.below HA5.out.base (fun b h1 h2 => by have := HBS.out; omega)))⟩
set_option maxRecDepth 100000 in
set_option maxHeartbeats 8000000 in
theorem next_add (w : World) (B r : Nat) (A : Option Addr) (n c : Nat) (xv ev : Value) (s : Un.St) (ha : ArAt w B r A n c xv ev s false) (hE : UnLow B w) (hl : ¬ s.rest.length < 512) (he : emptyF (s.rest.take 512) = false) (hp : (Hd.parseF (s.rest.take 512)).2 = 0) (ht : (Hd.parseF (s.rest.take 512)).1.typ ≠ 120) :
    ∃ f, FnIs f 55 r ∧ Calls Tryz.prog 32 #[.pointer (some ⟨r, 0, none⟩)] w fun e w' => e = .returned (nextV f (Hd.parseF (s.rest.take 512)).1 0) ∧ (∃ A2 n2 c2, Hid (ArAt w' B r A2 n2 c2 xv ev ⟨s.rest.drop 512, s.ext, s.ents⟩ false)) ∧ Hid (Below B w w') := by
  refine ⟨_, rfl, ?_⟩
  have HBMX := Lib.hid (And.intro ha.rest.cap ha.cap)
  have HA := Lib.hid ha
  have HBS := Lib.hid ha.base
  have hR1 : Row (w.alloc (.cells #[.string ⟨#[]⟩, .int .i64 0, .int .i64 0, .int .i64 0, .int .i64 0, .int .i64 0, .int .u8 0, .string ⟨#[]⟩, .int .i64 0, .int .i64 0] 57)) w.heap.size 57 (hdL zeroH) := Row.at_ _ _ _ rfl rfl
  have KA := Lib.hid (Below.alloc (Below.refl w.heap.size w) (Nat.le_refl _) (.cells #[.string ⟨#[]⟩, .int .i64 0, .int .i64 0, .int .i64 0, .int .i64 0, .int .i64 0, .int .u8 0, .string ⟨#[]⟩, .int .i64 0, .int .i64 0] 57))
  have HA1 := Lib.hid (HA.out.below KA.out)
  have KB := Lib.hid (KA.out.mono HBS.out)
  have R1 := Lib.hid hR1
  have HRL := Lib.hid HA.out.row.lt
  clear ha HA hR1
  go_enter Tryz.func32, Tryz.ntmps32
  go_upto_region 1 with fail
  generalize w.alloc _ = w1 at KA HA1 KB R1 ⊢
  have HTK := Lib.hid ((un_take w1 B r A n c xv ev s false HA1.out 512 (by decide)).mono fun _ _ h => h.yes (take_512 hl))
  have HT5 : Hid ((s.rest.take 512).length = 512) := Lib.hid (by rw [List.length_take]; omega)
  clear hl
  generalize ht1 : s.rest.take 512 = t1 at *
  generalize ht2 : s.rest.drop 512 = t2 at *
  have HT1 := Lib.hid ht1
  have HT2 := Lib.hid ht2
  clear ht1 ht2
  go_upto_region 4 with (go_at_call 50; go_must (refine HTK.out.mono ?_; rintro e w2 ⟨rfl, ⟨A2, n2, c2, HA2⟩, HB2, K2⟩))
  have KC := Lib.hid (KB.out.trans (below_kept K2.out HA2.out.new HA1.out.base))
  have R2 := Lib.hid (K2.out.row R1.out (by have := HRL.out; omega))
  have HEM := Lib.hid (empty_any w2 A 512 c t1 HB2.out (by decide))
  rw [he] at HEM
  clear he
  go_upto_region 6 with (go_at_call 51; go_must (refine HEM.out.mono ?_; rintro e w3 ⟨rfl, rfl⟩))
  have HPA := Lib.hid (parse_any w3 A 512 c t1 HB2.out HBMX.out.2 (hE.on KC.out).here.ft)
  change Hid (Calls Tryz.prog _ _ w3 fun e w' => e = .returned (.tuple #[.agg (hdL (Hd.parseF t1).1).toArray, .int .i64 (Hd.parseF t1).2]) ∧ _) at HPA
  obtain ⟨ED, hED⟩ : ∃ ED, ED = hdL (Hd.parseF t1).1 := ⟨_, rfl⟩
  have HEI : Hid ((Tryz.prog.info? 57).map (·.size) = some ED.length ∧ ED.toArray.all (·.oneCell') = true ∧ (hdL zeroH).length = ED.length) := Lib.hid (by rw [hED]; exact ⟨info25 _, hdL_one _, rfl⟩)
  rw [← hED] at HPA
  rw [hp] at HPA
  have ht6 : ¬ n8 (Hd.parseF t1).1.typ = 120 := fun e => ht (n8_is (c := 120) e)
  have HED := Lib.hid hED
  have HH := Lib.hid (show (Hd.parseF (s.rest.take 512)).1 = (Hd.parseF t1).1 by rw [HT1.out])
  have d6 : ED[6]? = some (v8 (Hd.parseF t1).1.typ) := by rw [hED]; rfl
  clear hp ht hED
  generalize hty : n8 (Hd.parseF t1).1.typ = y at *
  rw [v8, hty] at d6
  clear hty
  go_upto_region 9 with (first
    | (go_at_call 53; go_must (refine HPA.out.mono ?_; rintro e w4 ⟨rfl, K4⟩))
    | ((with_reducible refine store_all ?_ 57 (.tmp 7) (.tmp 25) ?_ w4.heap.size ED ?_ ?_ (hdL zeroH) ?_ (Row.at_ _ _ _ rfl rfl) ?_ ?_ ?_); rfl; rfl; go_must (rfl; rfl; exact HEI.out.2.2; exact HEI.out.1; exact HEI.out.2.1; intro w5 R5 K5 E5)))
  have KD := Lib.hid (kept_trans (kept_below K4.out) (kept_stored K5.out))
  have HA5 := Lib.hid (HA2.out.below (KD.out.below (Nat.le_refl _) (fun _ _ h => h)))
  have HG : Hid (w3.heap.size ≤ w4.heap.size) := Lib.hid K4.out.size
  have RZ := Lib.hid (KD.out.row R2.out (fun h => h))
  have HLT : Hid (w.heap.size < w3.heap.size) := Lib.hid R2.out.lt
  clear R2 K4 K5 E5 HPA HEM
  generalize w4.heap.size = g at R5 HG ⊢
  have c6 := R5.out.cell d6
  go_upto_region 11 with fail
  clear c6 d6 ht6
  have HB := Lib.hid (show Kept w5 w5.drew (· = w.heap.size) from (Kept.refl w5 _).drewN 1)
  have HRD := Lib.hid (fun (v : World) (hv : Kept w5 v (· = w.heap.size)) => rangeAt_row (hv.row R5.out (by have := HLT.out; have := HG.out; omega)))
  refine wp_region_held (S := fun v => Kept w5 v (· = w.heap.size)) (by kernel_rfl) ?_
  change wpAnyH _ _ _ _ _ _ _ _ (World.drew _)
  have RZ2 : Hid (Row w5.drew w.heap.size 57 (hdL zeroH)) := Lib.hid (RZ.out.drewN 1)
  generalize w5.drew = w6 at HB RZ2 ⊢
  refine wpAnyH_take (i := 0) (v := ?_) rfl (by kernel_rfl) (by kernel_rfl) (by kernel_rfl) (fun _ _ _ h => h) (Or.inl ⟨by rfl, ?_⟩) HB.out ?_
  rotate_left
  · (intro v hv; go_simp <;> with_reducible rfl)
  simp only [List.getElem_toArray, List.getElem_cons_zero, Act.put, List.setIfInBounds_toArray, List.set_cons_zero, List.set_cons_succ]
  refine wpAnyH_take (i := 1) (v := ?_) rfl (by kernel_rfl) (by kernel_rfl) (by kernel_rfl) (fun _ _ _ h => h) (Or.inl ⟨by rfl, ?_⟩) HB.out ?_
  rotate_left
  · (intro v hv; go_simp <;> with_reducible rfl)
  simp only [List.getElem_toArray, List.getElem_cons_succ, List.getElem_cons_zero, Act.put, List.setIfInBounds_toArray, List.set_cons_zero, List.set_cons_succ]
  refine wpAnyH_take (i := 2) (v := .agg ED.toArray) rfl (by kernel_rfl) (by kernel_rfl) (by kernel_rfl) (fun _ _ _ h => h) (yieldsIf_load_mid (by rfl) 57 (.tmp 7) (by rfl) g 0 (by rfl) ED _ (fun v hv => HRD.out v hv) Tryz.underlying57 rfl HEI.out.1) HB.out ?_
  simp only [List.getElem_toArray, List.getElem_cons_succ, List.getElem_cons_zero, Act.put, List.setIfInBounds_toArray, List.set_cons_zero, List.set_cons_succ]
  refine wpAnyH_take (i := 3) (v := ?_) rfl (by kernel_rfl) (by kernel_rfl) (by kernel_rfl) (fun _ _ _ h => h) (Or.inl ⟨by rfl, ?_⟩) HB.out ?_
  rotate_left
  · (intro v hv; go_simp <;> with_reducible rfl)
  simp only [List.getElem_toArray, List.getElem_cons_succ, List.getElem_cons_zero, Act.put, List.setIfInBounds_toArray, List.set_cons_zero, List.set_cons_succ]
  refine wpAnyH_ready (rs := [4]) (by kernel_rfl) (by simp) ?_
  refine AllReadyH.cons rfl (fun K hK => ?_) AllReadyH.nil
  rw [if_pos (by rfl)]
  refine wp_store_row 57 (.tmp 3) (.tmp 39) (by rfl) w.heap.size ED.toArray (by rfl) (by rfl) 57 (hdL zeroH).toArray RZ2.out (by rw [List.size_toArray]; exact HEI.out.1) (by rw [List.size_toArray, List.size_toArray]; exact HEI.out.2.2) HEI.out.2.1 ?_
  have RZ3 : Hid (Row (w6.setRow w.heap.size ED.toArray) w.heap.size 57 ED) := Lib.hid (RZ2.out.setRow _)
  have HB3 : Hid (Kept w5 (w6.setRow w.heap.size ED.toArray) (· = w.heap.size)) := Lib.hid (kept_eq HB.out ((Kept.refl w6 (· = w.heap.size)).setRow (b := w.heap.size) (.inr rfl) _))
  clear HB RZ2
  generalize w6.setRow _ _ = w7 at RZ3 HB3 ⊢
  have HB := HB3
  refine hK _ _ HB.out (fun _ => ?_)
  clear hK K
  simp only [List.getElem_toArray, List.getElem_cons_succ, List.getElem_cons_zero, Act.put]
  refine wpAnyH_take (i := 5) (v := ?_) rfl (by kernel_rfl) (by kernel_rfl) (by kernel_rfl) (fun _ _ _ h => h) (Or.inl ⟨by rfl, ?_⟩) HB.out ?_
  rotate_left
  · (intro v hv; go_simp <;> with_reducible rfl)
  simp only [List.getElem_toArray, List.getElem_cons_succ, List.getElem_cons_zero, Act.put, List.setIfInBounds_toArray, List.set_cons_zero, List.set_cons_succ]
  refine wpAnyH_done (by kernel_rfl) ?_ _
  go_wp2_with fail
  refine bodyPost_ret (v := .tuple #[.func (.func 55) #[.pointer (some ⟨r, 0, none⟩)] #[], .agg ED.toArray, .int .i64 0]) (results_tct (fn := Tryz.f32) (a := 2) (p := 3) (u := 4) rfl _ _ w.heap.size _ ED.toArray _ _ rfl RZ3.out Tryz.underlying57 rfl (by rw [List.size_toArray]; exact HEI.out.1)) rfl ?_
  exact ⟨by unfold nextV; rw [HH.out, ← HED.out], ⟨A2, n2, c2, Lib.hid (by rw [HT2.out]; exact HA5.out.kept HB3.out (by have := HRL.out; omega) (fun b hb => by have := HBS.out; omega) (own_ne HA5.out.ext RZ.out (by decide)) (own_ne HA5.out.ents RZ.out (by decide)))⟩, Lib.hid ((KC.out.trans (KD.out.below HA2.out.base (fun _ _ h => h))).trans (HB3.out.below HA5.out.base (fun b h1 h2 => by have := HBS.out; omega)))⟩
end Go.Proofs.YtpgaejalkbpbhaaGreatDoor

namespace Go.Proofs.YtpgaejalkbpbhaaGreatDoor
open Go.RowKit Sh Px Hd

/-! What a block tells may be asked for. -/
theorem octal_le {l : List UInt8} {n : Nat} (h : Oc.readF l = some n) : n ≤ 4611686018427387904 := by
  have key : ∀ B m, Oc.num B m = some n → n ≤ 4611686018427387904 := fun B m e => by
    unfold Oc.num at e
    split at e
    · rename_i hv
      rw [← Option.some.inj e]
      exact hv
    · cases e
  unfold Oc.readF at h
  split at h
  · cases h
  · split at h
    · exact key _ _ h
    · split at h
      · exact key _ _ h
      · cases h
theorem seg_le (f k : Nat) (l : List UInt8) : (seg f k l).length ≤ k := by rw [seg, List.length_take]; exact Nat.min_le_left _ _
theorem txOf_le (bs : List UInt8) (k : Nat) : (txOf bs k).length ≤ ct k := by
  unfold txOf
  split
  · exact Nat.le_trans (cut_le _) (seg_le _ _ _)
  · split
    · exact seg_le _ _ _
    · exact Nat.zero_le _
theorem ct_small (k : Nat) : ct k ≤ 155 := by
  unfold ct
  split <;> decide
theorem hdOf_ok (bs : List UInt8) : SzOk (hdOf bs) ∧ (hdOf bs).name.length ≤ 100000000 ∧ (hdOf bs).link.length ≤ 100000000 := by
  have e : (hdOf bs).size = (((Oc.readF (seg (fr 4) (ct 4) bs)).getD 0 : Nat) : Int) := rfl
  refine ⟨?_, ?_, ?_⟩
  · unfold SzOk
    rw [e]
    cases h : Oc.readF (seg (fr 4) (ct 4) bs) with
    | none => exact ⟨Int.natCast_nonneg _, by decide⟩
    | some m =>
      have := octal_le h
      rw [Option.getD_some]
      omega
  · show (nameOf (txOf bs)).length ≤ _
    have h0 := Nat.le_trans (txOf_le bs 0) (ct_small 0)
    have h12 := Nat.le_trans (txOf_le bs 12) (ct_small 12)
    unfold nameOf
    split
    · omega
    · rw [List.length_append, List.length_cons]
      omega
  · show (txOf bs 8).length ≤ _
    have := Nat.le_trans (txOf_le bs 8) (ct_small 8)
    omega
theorem zeroH_ok : SzOk zeroH ∧ zeroH.name.length ≤ 100000000 ∧ zeroH.link.length ≤ 100000000 := ⟨⟨by decide, by decide⟩, by decide, by decide⟩
theorem parse_hdr (bs : List UInt8) : SzOk (Hd.parseF bs).1 ∧ (Hd.parseF bs).1.name.length ≤ 100000000 ∧ (Hd.parseF bs).1.link.length ≤ 100000000 := by
  unfold Hd.parseF
  split
  · split
    · split
      · exact hdOf_ok bs
      · exact zeroH_ok
    · exact zeroH_ok
  · exact zeroH_ok
theorem readF_flat (d : List UInt8) : (flat (Px.readF d).2).length ≤ d.length := by
  unfold Px.readF
  split
  · exact Nat.zero_le _
  · rename_i l hl
    obtain ⟨_, hf⟩ := parse_is d l hl
    split
    · rw [hf]; exact Nat.le_refl _
    · exact Nat.zero_le _

/-- What the reading has come to. -/
structure RInv (bs : List UInt8) (s : Un.St) (o : Bool) : Prop where
  go : o = false → Un.run s = Un.untarF bs
  over : o = true → Un.untarF bs = (0, s.ents)
  rest : o = false → s.rest.length ≤ 100000000
  ext : o = false → (flat s.ext).length ≤ 100000000
  ents : o = false → s.ents.length ≤ 1000
theorem keep_inv {s s' : Un.St} {h : H} (hk : Un.keepF h s = .more s') (h1 : s.rest.length ≤ 100000000) (h2 : s.ents.length ≤ 1000) : s'.rest.length ≤ 100000000 ∧ (flat s'.ext).length ≤ 100000000 ∧ s'.ents.length ≤ 1000 := by
  unfold Un.keepF at hk
  split at hk
  · cases hk
  · split at hk
    · cases hk
    · rename_i d r2 ht
      split at hk
      · cases hk
        have h3 := Un.take_len ht
        have h4 : d.length ≤ s.rest.length := by
          unfold Un.takeF at ht
          split at ht
          · simp only [Option.some.injEq, Prod.mk.injEq] at ht
            rw [← ht.1, List.length_take]
            omega
          · cases ht
        have h5 := readF_flat d
        exact ⟨by simp only; omega, by simp only; omega, h2⟩
      · cases hk
theorem add_inv {s s' : Un.St} {h : H} (hk : Un.addF h s = .more s') (h1 : s.rest.length ≤ 100000000) (h2 : s.ents.length ≤ 1000) : s'.rest.length ≤ 100000000 ∧ (flat s'.ext).length ≤ 100000000 ∧ s'.ents.length ≤ 1000 := by
  unfold Un.addF at hk
  split at hk
  · cases hk
  · split at hk
    · cases hk
    · rename_i e r2 he
      split at hk
      · cases hk
      · cases hk
        have h3 := Un.entry_len he
        refine ⟨by simp only; omega, by simp [flat], ?_⟩
        simp only [List.length_append, List.length_singleton]
        omega
def UReadIs (w : World) (bs : List UInt8) (e : Ending) (w' : World) : Prop := ∃ v, e = .returned (.tuple #[v, .int .i64 ((Un.untarF bs).1 : Nat)]) ∧ Hid (OwnEnts w' w.heap.size v (Un.untarF bs).2) ∧ Hid (Below w.heap.size w w')
theorem UReadIs.bad {w w' : World} {bs : List UInt8} {m : Nat} {i : Int} (h : Un.untarF bs = (m, [])) (hi : i = (m : Nat)) (hb : Hid (Below w.heap.size w w')) : UReadIs w bs (.returned (.tuple #[.slice none 0 0, .int .i64 i])) w' :=
  ⟨_, by rw [h, hi], Lib.hid (by rw [h]; exact OwnEnts.nil _ _), hb⟩
theorem step_short {s : Un.St} (hl : s.rest.length < 512) : Un.stepF s = .err 4 := by unfold Un.stepF; rw [if_pos hl]
theorem step_end {s : Un.St} (hl : ¬ s.rest.length < 512) (he : emptyF (s.rest.take 512) = true) : Un.stepF s = Un.endF ⟨s.rest.drop 512, s.ext, s.ents⟩ := by unfold Un.stepF; rw [if_neg hl, if_pos he]
theorem step_bad {s : Un.St} (hl : ¬ s.rest.length < 512) (he : emptyF (s.rest.take 512) = false) (hp : (Hd.parseF (s.rest.take 512)).2 ≠ 0) : Un.stepF s = .err (Hd.parseF (s.rest.take 512)).2.toNat := by unfold Un.stepF; rw [if_neg hl, if_neg (by rw [he]; decide), if_pos hp]
theorem step_keep {s : Un.St} (hl : ¬ s.rest.length < 512) (he : emptyF (s.rest.take 512) = false) (hp : (Hd.parseF (s.rest.take 512)).2 = 0) (ht : (Hd.parseF (s.rest.take 512)).1.typ = 120) : Un.stepF s = Un.keepF (Hd.parseF (s.rest.take 512)).1 ⟨s.rest.drop 512, s.ext, s.ents⟩ := by unfold Un.stepF; rw [if_neg hl, if_neg (by rw [he]; decide), if_neg (fun h => h hp), if_pos ht]
theorem step_add {s : Un.St} (hl : ¬ s.rest.length < 512) (he : emptyF (s.rest.take 512) = false) (hp : (Hd.parseF (s.rest.take 512)).2 = 0) (ht : (Hd.parseF (s.rest.take 512)).1.typ ≠ 120) : Un.stepF s = Un.addF (Hd.parseF (s.rest.take 512)).1 ⟨s.rest.drop 512, s.ext, s.ents⟩ := by unfold Un.stepF; rw [if_neg hl, if_neg (by rw [he]; decide), if_neg (fun h => h hp), if_neg ht]

set_option maxRecDepth 100000 in
set_option maxHeartbeats 16000000 in
theorem un_read (w : World) (A : Option Addr) (n c : Nat) (bs : List UInt8) (S : BytesAt w A n c bs) (hA : ∀ a, A = some a → a.block < w.heap.size) (hm : c ≤ maxLen) (hn : n ≤ 100000000) (hE : UnEnv w) :
    Calls Tryz.prog 14 #[.slice A n c] w (UReadIs w bs) := by
  have HE := Lib.hid hE.toLow
  have P0 : Hid (ArAt (w.alloc (.cells #[.slice A n c, .slice none 0 0, .slice none 0 0, .bool false] 53)) w.heap.size w.heap.size A n c (.slice none 0 0) (.slice none 0 0) ⟨bs, [], []⟩ false) := Lib.hid
    ⟨Row.at_ _ _ _ rfl rfl, Nat.le_refl _, S.kept (kept_alloc _ _) (fun _ _ _ _ h => h), hA, hm, OwnPairs.nil _ _, OwnEnts.nil _ _⟩
  have K0 := Lib.hid (Below.alloc (Below.refl w.heap.size w) (Nat.le_refl _) (.cells #[.slice A n c, .slice none 0 0, .slice none 0 0, .bool false] 53))
  have I0 : Hid (RInv bs ⟨bs, [], []⟩ false) := Lib.hid ⟨fun _ => rfl, (fun h => by cases h), fun _ => by simp only; rw [S.len]; exact hn, fun _ => by simp [flat], fun _ => by simp⟩
  clear S hA hm hn hE
  go_enter Tryz.func14, Tryz.ntmps14
  go_wp2_with fail
  generalize w.alloc _ = w1 at P0 K0 ⊢
  go_loopg [7] (bs.length + 2) (fun gg v7 wr => ∃ (s : Un.St) (o : Bool) (A : Option Addr) (n c : Nat) (xv ev : Value), Hid (ArAt wr w.heap.size w.heap.size A n c xv ev s o) ∧ Hid (Below w.heap.size w wr) ∧ Hid (RInv bs s o) ∧ (o = false → s.rest.length + 1 < gg) ∧ 0 < gg)
  case atStart => exact ⟨⟨bs, [], []⟩, false, A, n, c, _, _, P0, K0, I0, (fun _ => by simp), by omega⟩
  case round =>
    clear P0 K0 I0
    obtain ⟨s, o, A, n, c, xv, ev, HA, HB, HI, hgg, hg0⟩ := hrel
    cases o with
    | true =>
      have c3 := HA.out.c3
      have c2 := HA.out.c2
      have HV := Lib.hid (HI.out.over rfl)
      obtain ⟨Av, cv, hev, -, -, -⟩ := HA.out.ents.shape
      have HO := Lib.hid HA.out.ents
      have hev' : ev = .slice Av s.ents.length cv := hev
      subst hev'
      clear hev hgg HA HI
      go_wp2_with fail
      go_ret2
      exact ⟨_, by rw [HV.out]; rfl, Lib.hid (by rw [HV.out]; exact HO.out), HB⟩
    | false =>
      have c3 := HA.out.c3
      have hg1 := hgg rfl
      have HG := Lib.hid hg1
      have HRN := Lib.hid (HI.out.go rfl)
      have HRB := Lib.hid (And.intro (HI.out.rest rfl) (And.intro (HI.out.ext rfl) (HI.out.ents rfl)))
      clear hgg hg0 HI hg1
      have HWB := Lib.hid HA.out.base
      have HEW := Lib.hid (HE.out.on HB.out)
      by_cases hl : s.rest.length < 512
      · have HS := Lib.hid (Un.run_err (step_short hl))
        rw [HRN.out] at HS
        have HNX := Lib.hid (next_short wr w.heap.size w.heap.size A n c xv ev s HA.out hl)
        clear hl
        unfold nextV at HNX
        go_wp2_with (first
          | (go_at_call 32; go_must (refine HNX.out.mono ?_; rintro e w2 ⟨rfl, K2⟩))
          | ((with_reducible refine store_all ?_ 57 (.tmp 6) (.tmp 20) ?_ w2.heap.size (hdL zeroH) ?_ ?_ (hdL zeroH) ?_ (Row.at_ _ _ _ rfl rfl) ?_ ?_ ?_); rfl; rfl; go_must (rfl; rfl; rfl; exact info25 _; exact hdL_one _; intro w3 R3 K3 E3)))
        go_ret2
        exact UReadIs.bad HS.out rfl (Lib.hid ((HB.out.trans K2.out).trans ((kept_stored K3.out).below (Nat.le_trans HWB.out K2.out.size) (fun _ _ h => h))))
      by_cases he : emptyF (s.rest.take 512) = true
      · have HST := Lib.hid (step_end hl he)
        obtain ⟨f, hf, hnx⟩ := next_end wr w.heap.size w.heap.size A n c xv ev s HA.out hl he
        unfold FnIs at hf
        subst hf
        have HNX := Lib.hid hnx
        unfold nextV at HNX
        have HDO : Hid (∀ (w4 : World) (A2 : Option Addr) (n2 c2 : Nat), Hid (ArAt w4 w.heap.size w.heap.size A2 n2 c2 xv ev ⟨s.rest.drop 512, s.ext, s.ents⟩ false) → Hid (UnLow w.heap.size w4) → Calls Tryz.prog 52 #[.pointer (some ⟨w.heap.size, 0, none⟩), .agg (hdL zeroH).toArray] w4 (OutIs w4 w.heap.size w.heap.size s.ents (Un.endF ⟨s.rest.drop 512, s.ext, s.ents⟩))) := Lib.hid (fun w4 A2 n2 c2 h4 hE4 => by
          have h5 := un_end w4 w.heap.size w.heap.size A2 n2 c2 xv ev ⟨s.rest.drop 512, s.ext, s.ents⟩ h4.out zeroH
          rw [hdV_is] at h5
          exact h5)
        obtain ⟨D, hD⟩ : ∃ D, D = hdL zeroH := ⟨_, rfl⟩
        have HEI : Hid ((Tryz.prog.info? 57).map (·.size) = some D.length ∧ D.toArray.all (·.oneCell') = true ∧ (hdL zeroH).length = D.length) := Lib.hid (by rw [hD]; exact ⟨info25 _, hdL_one _, rfl⟩)
        rw [← hD] at HNX HDO
        clear hD hnx
        go_upto_region 5 with (first
          | (go_at_call 32; go_must (refine HNX.out.mono ?_; rintro e w2 ⟨rfl, ⟨A2, n2, c2, HA2⟩, K2⟩))
          | ((with_reducible refine store_all ?_ 57 (.tmp 6) (.tmp 20) ?_ w2.heap.size D ?_ ?_ (hdL zeroH) ?_ (Row.at_ _ _ _ rfl rfl) ?_ ?_ ?_); rfl; rfl; go_must (rfl; rfl; exact HEI.out.2.2; exact HEI.out.1; exact HEI.out.2.1; intro w3 R3 K3 E3)))
        have K4 := Lib.hid (kept_stored K3.out)
        have HA3 := Lib.hid (HA2.out.below (K4.out.below (Nat.le_refl _) (fun _ _ h => h)))
        have KB := Lib.hid ((HB.out.trans K2.out).trans (K4.out.below (Nat.le_trans HWB.out K2.out.size) (fun _ _ h => h)))
        have HC := Lib.hid (HDO.out w3 A2 n2 c2 HA3 (Lib.hid (HE.out.on KB.out)))
        clear c3 HNX HDO K3 E3 HA2 K2 K4 HEW HA
        generalize w2.heap.size = g at R3 ⊢
        cases hout : Un.endF ⟨s.rest.drop 512, s.ext, s.ents⟩ with
        | err m =>
          have HS := Lib.hid (Un.run_err (HST.out.trans hout))
          rw [HRN.out] at HS
          have hm : ((m : Int) != 0) = true := bne_iff_ne.2 (by have := Un.step_err (HST.out.trans hout); omega)
          have HC2 : Hid (Calls Tryz.prog 52 #[.pointer (some ⟨w.heap.size, 0, none⟩), .agg D.toArray] w3 fun e w' => e = .returned (.int .i64 m) ∧ Hid (Below w.heap.size w3 w')) := Lib.hid (HC.out.mono fun e w' h => by unfold OutIs at h; rw [hout] at h; exact h)
          clear hout HC
          go_wp2_with (first
                  | ((with_reducible refine load_all ?_ 57 (.tmp 6) ?_ g 0 D D.toArray ?_ _ ?_ Tryz.underlying57 ?_ ?_ ?_ ?_); rfl; rfl; go_must (rfl; exact rangeAt_row R3.out; rfl; exact HEI.out.1; rfl))
                  | (go_at_call 52; go_must (refine HC2.out.mono ?_; rintro e w5 ⟨rfl, K5⟩)))
          go_ret2
          exact UReadIs.bad HS.out rfl (Lib.hid (KB.out.trans K5.out))
        | more s2 =>
          have HS := Lib.hid (Un.run_more (HST.out.trans hout))
          have hln := Un.step_len (HST.out.trans hout)
          have HNV : Hid (s2.rest.length ≤ 100000000 ∧ (flat s2.ext).length ≤ 100000000 ∧ s2.ents.length ≤ 1000) := Lib.hid ((Un.end_more hout).elim)
          have HC2 : Hid (Calls Tryz.prog 52 #[.pointer (some ⟨w.heap.size, 0, none⟩), .agg D.toArray] w3 fun e w' => e = .returned (.int .i64 0) ∧ (∃ A n c xv ev, Hid (ArAt w' w.heap.size w.heap.size A n c xv ev s2 false)) ∧ Hid (Below w.heap.size w3 w')) := Lib.hid (HC.out.mono fun e w' h => by unfold OutIs at h; rw [hout] at h; exact h)
          have HLN := Lib.hid hln
          clear hout HC hln
          go_wp2_with (first
                  | ((with_reducible refine load_all ?_ 57 (.tmp 6) ?_ g 0 D D.toArray ?_ _ ?_ Tryz.underlying57 ?_ ?_ ?_ ?_); rfl; rfl; go_must (rfl; exact rangeAt_row R3.out; rfl; exact HEI.out.1; rfl))
                  | (go_at_call 52; go_must (refine HC2.out.mono ?_; rintro e w5 ⟨rfl, ⟨A5, n5, c5, xv5, ev5, HA5⟩, K5⟩)))
          go_roundg (gk - 1)
          case rel => exact ⟨s2, false, A5, n5, c5, xv5, ev5, HA5, Lib.hid (KB.out.trans K5.out), Lib.hid ⟨fun _ => by rw [← HS.out]; exact HRN.out, (fun h => by cases h), fun _ => HNV.out.1, fun _ => HNV.out.2.1, fun _ => HNV.out.2.2⟩, (fun _ => by have := HLN.out; have := HG.out; omega), by have := HG.out; omega⟩
          case measure => have := HG.out; omega
        | done =>
          have HS := Lib.hid (Un.run_done (HST.out.trans hout))
          have HC2 : Hid (Calls Tryz.prog 52 #[.pointer (some ⟨w.heap.size, 0, none⟩), .agg D.toArray] w3 fun e w' => e = .returned (.int .i64 0) ∧ (∃ A n c xv ev t x, Hid (ArAt w' w.heap.size w.heap.size A n c xv ev ⟨t, x, s.ents⟩ true)) ∧ Hid (Below w.heap.size w3 w')) := Lib.hid (HC.out.mono fun e w' h => by unfold OutIs at h; rw [hout] at h; exact h)
          clear hout HC
          go_wp2_with (first
                  | ((with_reducible refine load_all ?_ 57 (.tmp 6) ?_ g 0 D D.toArray ?_ _ ?_ Tryz.underlying57 ?_ ?_ ?_ ?_); rfl; rfl; go_must (rfl; exact rangeAt_row R3.out; rfl; exact HEI.out.1; rfl))
                  | (go_at_call 52; go_must (refine HC2.out.mono ?_; rintro e w5 ⟨rfl, ⟨A5, n5, c5, xv5, ev5, t5, x5, HA5⟩, K5⟩)))
          go_roundg (gk - 1)
          case rel => exact ⟨⟨t5, x5, s.ents⟩, true, A5, n5, c5, xv5, ev5, HA5, Lib.hid (KB.out.trans K5.out), Lib.hid ⟨(fun h => by cases h), (fun _ => by rw [← HRN.out]; exact HS.out), (fun h => by cases h), (fun h => by cases h), (fun h => by cases h)⟩, (fun h => by cases h), by have := HG.out; omega⟩
          case measure => have := HG.out; omega
      have he' : emptyF (s.rest.take 512) = false := by simpa using he
      clear he
      by_cases hp : (Hd.parseF (s.rest.take 512)).2 ≠ 0
      · have HS := Lib.hid (Un.run_err (step_bad hl he' hp))
        rw [HRN.out] at HS
        have HNX := Lib.hid (next_bad wr w.heap.size w.heap.size A n c xv ev s HA.out HEW.out hl he' hp)
        have HPE := Lib.hid (Un.parse_err (s.rest.take 512))
        obtain ⟨i, hi⟩ : ∃ i, (Hd.parseF (s.rest.take 512)).2 = i := ⟨_, rfl⟩
        rw [hi] at HNX HS HPE hp
        have hib : (i != 0) = true := bne_iff_ne.2 hp
        clear hl he' hp hi
        unfold nextV at HNX
        go_wp2_with (first
          | (go_at_call 32; go_must (refine HNX.out.mono ?_; rintro e w2 ⟨rfl, K2⟩))
          | ((with_reducible refine store_all ?_ 57 (.tmp 6) (.tmp 20) ?_ w2.heap.size (hdL zeroH) ?_ ?_ (hdL zeroH) ?_ (Row.at_ _ _ _ rfl rfl) ?_ ?_ ?_); rfl; rfl; go_must (rfl; rfl; rfl; exact info25 _; exact hdL_one _; intro w3 R3 K3 E3)))
        go_ret2
        exact UReadIs.bad HS.out (by have := HPE.out; omega) (Lib.hid ((HB.out.trans K2.out).trans ((kept_stored K3.out).below (Nat.le_trans HWB.out K2.out.size) (fun _ _ h => h))))
      have hp' : (Hd.parseF (s.rest.take 512)).2 = 0 := Classical.byContradiction hp
      clear hp
      have HPH := Lib.hid (parse_hdr (s.rest.take 512))
      have HDR : Hid ((s.rest.drop 512).length ≤ 100000000) := Lib.hid (by rw [List.length_drop]; have := HRB.out.1; omega)
      by_cases ht : (Hd.parseF (s.rest.take 512)).1.typ = 120
      · have HST := Lib.hid (step_keep hl he' hp' ht)
        obtain ⟨f, hf, hnx⟩ := next_keep wr w.heap.size w.heap.size A n c xv ev s HA.out HEW.out hl he' hp' ht
        unfold FnIs at hf
        subst hf
        have HNX := Lib.hid hnx
        unfold nextV at HNX
        have HDO : Hid (∀ (w4 : World) (A2 : Option Addr) (n2 c2 : Nat), Hid (ArAt w4 w.heap.size w.heap.size A2 n2 c2 xv ev ⟨s.rest.drop 512, s.ext, s.ents⟩ false) → Hid (UnLow w.heap.size w4) → Calls Tryz.prog 54 #[.pointer (some ⟨w.heap.size, 0, none⟩), .agg (hdL (Hd.parseF (s.rest.take 512)).1).toArray] w4 (OutIs w4 w.heap.size w.heap.size s.ents (Un.keepF (Hd.parseF (s.rest.take 512)).1 ⟨s.rest.drop 512, s.ext, s.ents⟩))) := Lib.hid (fun w4 A2 n2 c2 h4 hE4 => by
          have h5 := un_keep w4 w.heap.size w.heap.size A2 n2 c2 xv ev ⟨s.rest.drop 512, s.ext, s.ents⟩ h4.out (Hd.parseF (s.rest.take 512)).1 HPH.out.1 HDR.out
          rw [hdV_is] at h5
          exact h5)
        obtain ⟨D, hD⟩ : ∃ D, D = hdL (Hd.parseF (s.rest.take 512)).1 := ⟨_, rfl⟩
        have HEI : Hid ((Tryz.prog.info? 57).map (·.size) = some D.length ∧ D.toArray.all (·.oneCell') = true ∧ (hdL zeroH).length = D.length) := Lib.hid (by rw [hD]; exact ⟨info25 _, hdL_one _, rfl⟩)
        rw [← hD] at HNX HDO
        clear hD hnx
        go_upto_region 5 with (first
          | (go_at_call 32; go_must (refine HNX.out.mono ?_; rintro e w2 ⟨rfl, ⟨A2, n2, c2, HA2⟩, K2⟩))
          | ((with_reducible refine store_all ?_ 57 (.tmp 6) (.tmp 20) ?_ w2.heap.size D ?_ ?_ (hdL zeroH) ?_ (Row.at_ _ _ _ rfl rfl) ?_ ?_ ?_); rfl; rfl; go_must (rfl; rfl; exact HEI.out.2.2; exact HEI.out.1; exact HEI.out.2.1; intro w3 R3 K3 E3)))
        have K4 := Lib.hid (kept_stored K3.out)
        have HA3 := Lib.hid (HA2.out.below (K4.out.below (Nat.le_refl _) (fun _ _ h => h)))
        have KB := Lib.hid ((HB.out.trans K2.out).trans (K4.out.below (Nat.le_trans HWB.out K2.out.size) (fun _ _ h => h)))
        have HC := Lib.hid (HDO.out w3 A2 n2 c2 HA3 (Lib.hid (HE.out.on KB.out)))
        clear c3 HNX HDO K3 E3 HA2 K2 K4 HEW HA
        generalize w2.heap.size = g at R3 ⊢
        cases hout : Un.keepF (Hd.parseF (s.rest.take 512)).1 ⟨s.rest.drop 512, s.ext, s.ents⟩ with
        | err m =>
          have HS := Lib.hid (Un.run_err (HST.out.trans hout))
          rw [HRN.out] at HS
          have hm : ((m : Int) != 0) = true := bne_iff_ne.2 (by have := Un.step_err (HST.out.trans hout); omega)
          have HC2 : Hid (Calls Tryz.prog 54 #[.pointer (some ⟨w.heap.size, 0, none⟩), .agg D.toArray] w3 fun e w' => e = .returned (.int .i64 m) ∧ Hid (Below w.heap.size w3 w')) := Lib.hid (HC.out.mono fun e w' h => by unfold OutIs at h; rw [hout] at h; exact h)
          clear hout HC
          go_wp2_with (first
                  | ((with_reducible refine load_all ?_ 57 (.tmp 6) ?_ g 0 D D.toArray ?_ _ ?_ Tryz.underlying57 ?_ ?_ ?_ ?_); rfl; rfl; go_must (rfl; exact rangeAt_row R3.out; rfl; exact HEI.out.1; rfl))
                  | (go_at_call 54; go_must (refine HC2.out.mono ?_; rintro e w5 ⟨rfl, K5⟩)))
          go_ret2
          exact UReadIs.bad HS.out rfl (Lib.hid (KB.out.trans K5.out))
        | more s2 =>
          have HS := Lib.hid (Un.run_more (HST.out.trans hout))
          have hln := Un.step_len (HST.out.trans hout)
          have HNV : Hid (s2.rest.length ≤ 100000000 ∧ (flat s2.ext).length ≤ 100000000 ∧ s2.ents.length ≤ 1000) := Lib.hid (keep_inv hout HDR.out HRB.out.2.2)
          have HC2 : Hid (Calls Tryz.prog 54 #[.pointer (some ⟨w.heap.size, 0, none⟩), .agg D.toArray] w3 fun e w' => e = .returned (.int .i64 0) ∧ (∃ A n c xv ev, Hid (ArAt w' w.heap.size w.heap.size A n c xv ev s2 false)) ∧ Hid (Below w.heap.size w3 w')) := Lib.hid (HC.out.mono fun e w' h => by unfold OutIs at h; rw [hout] at h; exact h)
          have HLN := Lib.hid hln
          clear hout HC hln
          go_wp2_with (first
                  | ((with_reducible refine load_all ?_ 57 (.tmp 6) ?_ g 0 D D.toArray ?_ _ ?_ Tryz.underlying57 ?_ ?_ ?_ ?_); rfl; rfl; go_must (rfl; exact rangeAt_row R3.out; rfl; exact HEI.out.1; rfl))
                  | (go_at_call 54; go_must (refine HC2.out.mono ?_; rintro e w5 ⟨rfl, ⟨A5, n5, c5, xv5, ev5, HA5⟩, K5⟩)))
          go_roundg (gk - 1)
          case rel => exact ⟨s2, false, A5, n5, c5, xv5, ev5, HA5, Lib.hid (KB.out.trans K5.out), Lib.hid ⟨fun _ => by rw [← HS.out]; exact HRN.out, (fun h => by cases h), fun _ => HNV.out.1, fun _ => HNV.out.2.1, fun _ => HNV.out.2.2⟩, (fun _ => by have := HLN.out; have := HG.out; omega), by have := HG.out; omega⟩
          case measure => have := HG.out; omega
        | done =>
          have HS := Lib.hid (Un.run_done (HST.out.trans hout))
          have HC2 : Hid (Calls Tryz.prog 54 #[.pointer (some ⟨w.heap.size, 0, none⟩), .agg D.toArray] w3 fun e w' => e = .returned (.int .i64 0) ∧ (∃ A n c xv ev t x, Hid (ArAt w' w.heap.size w.heap.size A n c xv ev ⟨t, x, s.ents⟩ true)) ∧ Hid (Below w.heap.size w3 w')) := Lib.hid (HC.out.mono fun e w' h => by unfold OutIs at h; rw [hout] at h; exact h)
          clear hout HC
          go_wp2_with (first
                  | ((with_reducible refine load_all ?_ 57 (.tmp 6) ?_ g 0 D D.toArray ?_ _ ?_ Tryz.underlying57 ?_ ?_ ?_ ?_); rfl; rfl; go_must (rfl; exact rangeAt_row R3.out; rfl; exact HEI.out.1; rfl))
                  | (go_at_call 54; go_must (refine HC2.out.mono ?_; rintro e w5 ⟨rfl, ⟨A5, n5, c5, xv5, ev5, t5, x5, HA5⟩, K5⟩)))
          go_roundg (gk - 1)
          case rel => exact ⟨⟨t5, x5, s.ents⟩, true, A5, n5, c5, xv5, ev5, HA5, Lib.hid (KB.out.trans K5.out), Lib.hid ⟨(fun h => by cases h), (fun _ => by rw [← HRN.out]; exact HS.out), (fun h => by cases h), (fun h => by cases h), (fun h => by cases h)⟩, (fun h => by cases h), by have := HG.out; omega⟩
          case measure => have := HG.out; omega
      · have HST := Lib.hid (step_add hl he' hp' ht)
        obtain ⟨f, hf, hnx⟩ := next_add wr w.heap.size w.heap.size A n c xv ev s HA.out HEW.out hl he' hp' ht
        unfold FnIs at hf
        subst hf
        have HNX := Lib.hid hnx
        unfold nextV at HNX
        have HDO : Hid (∀ (w4 : World) (A2 : Option Addr) (n2 c2 : Nat), Hid (ArAt w4 w.heap.size w.heap.size A2 n2 c2 xv ev ⟨s.rest.drop 512, s.ext, s.ents⟩ false) → Hid (UnLow w.heap.size w4) → Calls Tryz.prog 55 #[.pointer (some ⟨w.heap.size, 0, none⟩), .agg (hdL (Hd.parseF (s.rest.take 512)).1).toArray] w4 (OutIs w4 w.heap.size w.heap.size s.ents (Un.addF (Hd.parseF (s.rest.take 512)).1 ⟨s.rest.drop 512, s.ext, s.ents⟩))) := Lib.hid (fun w4 A2 n2 c2 h4 hE4 => by
          have h5 := un_add w4 w.heap.size w.heap.size A2 n2 c2 xv ev ⟨s.rest.drop 512, s.ext, s.ents⟩ h4.out (Hd.parseF (s.rest.take 512)).1 HPH.out.1 hE4.out HRB.out.2.1 HPH.out.2.1 HPH.out.2.2 HRB.out.2.2
          rw [hdV_is] at h5
          exact h5)
        obtain ⟨D, hD⟩ : ∃ D, D = hdL (Hd.parseF (s.rest.take 512)).1 := ⟨_, rfl⟩
        have HEI : Hid ((Tryz.prog.info? 57).map (·.size) = some D.length ∧ D.toArray.all (·.oneCell') = true ∧ (hdL zeroH).length = D.length) := Lib.hid (by rw [hD]; exact ⟨info25 _, hdL_one _, rfl⟩)
        rw [← hD] at HNX HDO
        clear hD hnx
        go_upto_region 5 with (first
          | (go_at_call 32; go_must (refine HNX.out.mono ?_; rintro e w2 ⟨rfl, ⟨A2, n2, c2, HA2⟩, K2⟩))
          | ((with_reducible refine store_all ?_ 57 (.tmp 6) (.tmp 20) ?_ w2.heap.size D ?_ ?_ (hdL zeroH) ?_ (Row.at_ _ _ _ rfl rfl) ?_ ?_ ?_); rfl; rfl; go_must (rfl; rfl; exact HEI.out.2.2; exact HEI.out.1; exact HEI.out.2.1; intro w3 R3 K3 E3)))
        have K4 := Lib.hid (kept_stored K3.out)
        have HA3 := Lib.hid (HA2.out.below (K4.out.below (Nat.le_refl _) (fun _ _ h => h)))
        have KB := Lib.hid ((HB.out.trans K2.out).trans (K4.out.below (Nat.le_trans HWB.out K2.out.size) (fun _ _ h => h)))
        have HC := Lib.hid (HDO.out w3 A2 n2 c2 HA3 (Lib.hid (HE.out.on KB.out)))
        clear c3 HNX HDO K3 E3 HA2 K2 K4 HEW HA
        generalize w2.heap.size = g at R3 ⊢
        cases hout : Un.addF (Hd.parseF (s.rest.take 512)).1 ⟨s.rest.drop 512, s.ext, s.ents⟩ with
        | err m =>
          have HS := Lib.hid (Un.run_err (HST.out.trans hout))
          rw [HRN.out] at HS
          have hm : ((m : Int) != 0) = true := bne_iff_ne.2 (by have := Un.step_err (HST.out.trans hout); omega)
          have HC2 : Hid (Calls Tryz.prog 55 #[.pointer (some ⟨w.heap.size, 0, none⟩), .agg D.toArray] w3 fun e w' => e = .returned (.int .i64 m) ∧ Hid (Below w.heap.size w3 w')) := Lib.hid (HC.out.mono fun e w' h => by unfold OutIs at h; rw [hout] at h; exact h)
          clear hout HC
          go_wp2_with (first
                  | ((with_reducible refine load_all ?_ 57 (.tmp 6) ?_ g 0 D D.toArray ?_ _ ?_ Tryz.underlying57 ?_ ?_ ?_ ?_); rfl; rfl; go_must (rfl; exact rangeAt_row R3.out; rfl; exact HEI.out.1; rfl))
                  | (go_at_call 55; go_must (refine HC2.out.mono ?_; rintro e w5 ⟨rfl, K5⟩)))
          go_ret2
          exact UReadIs.bad HS.out rfl (Lib.hid (KB.out.trans K5.out))
        | more s2 =>
          have HS := Lib.hid (Un.run_more (HST.out.trans hout))
          have hln := Un.step_len (HST.out.trans hout)
          have HNV : Hid (s2.rest.length ≤ 100000000 ∧ (flat s2.ext).length ≤ 100000000 ∧ s2.ents.length ≤ 1000) := Lib.hid (add_inv hout HDR.out HRB.out.2.2)
          have HC2 : Hid (Calls Tryz.prog 55 #[.pointer (some ⟨w.heap.size, 0, none⟩), .agg D.toArray] w3 fun e w' => e = .returned (.int .i64 0) ∧ (∃ A n c xv ev, Hid (ArAt w' w.heap.size w.heap.size A n c xv ev s2 false)) ∧ Hid (Below w.heap.size w3 w')) := Lib.hid (HC.out.mono fun e w' h => by unfold OutIs at h; rw [hout] at h; exact h)
          have HLN := Lib.hid hln
          clear hout HC hln
          go_wp2_with (first
                  | ((with_reducible refine load_all ?_ 57 (.tmp 6) ?_ g 0 D D.toArray ?_ _ ?_ Tryz.underlying57 ?_ ?_ ?_ ?_); rfl; rfl; go_must (rfl; exact rangeAt_row R3.out; rfl; exact HEI.out.1; rfl))
                  | (go_at_call 55; go_must (refine HC2.out.mono ?_; rintro e w5 ⟨rfl, ⟨A5, n5, c5, xv5, ev5, HA5⟩, K5⟩)))
          go_roundg (gk - 1)
          case rel => exact ⟨s2, false, A5, n5, c5, xv5, ev5, HA5, Lib.hid (KB.out.trans K5.out), Lib.hid ⟨fun _ => by rw [← HS.out]; exact HRN.out, (fun h => by cases h), fun _ => HNV.out.1, fun _ => HNV.out.2.1, fun _ => HNV.out.2.2⟩, (fun _ => by have := HLN.out; have := HG.out; omega), by have := HG.out; omega⟩
          case measure => have := HG.out; omega
        | done =>
          have HS := Lib.hid (Un.run_done (HST.out.trans hout))
          have HC2 : Hid (Calls Tryz.prog 55 #[.pointer (some ⟨w.heap.size, 0, none⟩), .agg D.toArray] w3 fun e w' => e = .returned (.int .i64 0) ∧ (∃ A n c xv ev t x, Hid (ArAt w' w.heap.size w.heap.size A n c xv ev ⟨t, x, s.ents⟩ true)) ∧ Hid (Below w.heap.size w3 w')) := Lib.hid (HC.out.mono fun e w' h => by unfold OutIs at h; rw [hout] at h; exact h)
          clear hout HC
          go_wp2_with (first
                  | ((with_reducible refine load_all ?_ 57 (.tmp 6) ?_ g 0 D D.toArray ?_ _ ?_ Tryz.underlying57 ?_ ?_ ?_ ?_); rfl; rfl; go_must (rfl; exact rangeAt_row R3.out; rfl; exact HEI.out.1; rfl))
                  | (go_at_call 55; go_must (refine HC2.out.mono ?_; rintro e w5 ⟨rfl, ⟨A5, n5, c5, xv5, ev5, t5, x5, HA5⟩, K5⟩)))
          go_roundg (gk - 1)
          case rel => exact ⟨⟨t5, x5, s.ents⟩, true, A5, n5, c5, xv5, ev5, HA5, Lib.hid (KB.out.trans K5.out), Lib.hid ⟨(fun h => by cases h), (fun _ => by rw [← HRN.out]; exact HS.out), (fun h => by cases h), (fun h => by cases h), (fun h => by cases h)⟩, (fun h => by cases h), by have := HG.out; omega⟩
          case measure => have := HG.out; omega
end Go.Proofs.YtpgaejalkbpbhaaGreatDoor
