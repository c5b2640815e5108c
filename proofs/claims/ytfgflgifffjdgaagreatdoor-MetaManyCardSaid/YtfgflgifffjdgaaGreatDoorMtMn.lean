/-
  MetaMany: a manifest of n layers, and its cells.
-/
import Derived.Test.YtfgflgifffjdgaaGreatDoorMtLa
import Derived.Test.YtfgflgifffjdgaaGreatDoorMtPa
import Derived.Test.YtfgflgifffjdgaaGreatDoorJoStrs
import Derived.Laws.MakeOwn
import Derived.Orders
import Derived.RegionTactic
namespace Go.Proofs.YtfgflgifffjdgaaGreatDoor
open Go.RowKit Sh Jt Js Jo
set_option maxRecDepth 100000
namespace Jo
def R1 : List V := [⟨6, [], [], 1⟩, ⟨3, schemaK, [50], 0⟩]
def P1 : List (List V) := [[⟨3, schemaK, [50], 0⟩]]
/-- A manifest of n layers. -/
def mN (n : Nat) : Man := ⟨noD, List.replicate n noD, R1⟩
theorem parts1 : Parts 1 true [schemaK] P1 := .cons (one_num (by decide) (fun h => by cases h) schema_valid (by decide) (by decide)) .nil
theorem right1 : rightPF R1 = true := whole_right (v := ⟨6, [], [], 1⟩) (P := P1) (own_obj 1) parts1 rfl (fun _ => by decide) (by decide)
theorem is1 : ObjIs R1 P1 := ObjIs.of (P := P1) (n := 1) rfl right1 (parts_ends parts1)
theorem obj1 : objA [schemaK] [[⟨3, [], [50], 0⟩]] = R1 := by
  unfold objA fineF
  rw [if_pos ⟨by rw [List.all_cons, show rightPF [⟨3, [], [50], 0⟩] = true from right_one (one_num (by decide) (fun _ => rfl) valid_nil (by decide) (by decide)) (by decide)]; rfl, rfl⟩]
  exact if_pos right1
theorem rest1 : restOk R1 = true := by
  refine is_rest is1 ?_ (by decide) (by decide) rfl
  unfold hasF memF
  rw [ObjIs.key is1]
  rfl
theorem okN : okD noD = true := by
  unfold okD
  rw [show validF noD.media = true from valid_nil]
  rfl
theorem len_mN (n : Nat) : (mN n).layers.length = n := List.length_replicate
theorem lay_mN {n : Nat} {d : Desc} (h : d ∈ (mN n).layers) : d = noD := (List.mem_replicate.1 h).2
theorem ok_mN {n : Nat} (h : n ≤ 60) : OkM (mN n) := ⟨rest1, by rw [len_mN]; exact h, okN, fun d hd => by rw [lay_mN hd]; exact okN, by
  rw [len_mN]
  show 2 + (4 + (4 * n + 1)) ≤ 5000
  omega⟩
theorem dig_mN (n : Nat) : DigM (mN n) := ⟨rfl, fun d hd => by rw [lay_mN hd]; rfl⟩
theorem sh_R1 {k : Nat} (hk : 100 ≤ k) : Short k R1 := by
  intro v hv
  unfold R1 at hv
  simp only [List.mem_cons, List.not_mem_nil, or_false] at hv
  rcases hv with rfl | rfl
  · exact ⟨Nat.zero_le _, Nat.zero_le _⟩
  · exact ⟨Nat.le_trans (show (13 : Nat) ≤ 100 by decide) hk, Nat.le_trans (show (1 : Nat) ≤ 100 by decide) hk⟩
theorem fit_noD : FitD noD := ⟨by decide, by decide, by decide⟩
theorem fit_mN (n : Nat) : FitM (mN n) := ⟨fit_noD, fun d hd => by rw [lay_mN hd]; exact fit_noD, sh_R1 (by decide), by show (2 : Nat) ≤ _; decide⟩
theorem prints_mN {n : Nat} (h : n ≤ 60) : ∃ t, Prints (mN n) t := prints (ok_mN h) (dig_mN n) (Nat.zero_le _) (fun d hd => by rw [lay_mN hd]; exact Nat.zero_le _) (sh_R1 (by decide))
end Jo
theorem mt_infoN : ∃ i z, Tryz.prog.info? 27 = some i ∧ i.zero = some z ∧ i.size = 34 ∧ i.bytes = 56 ∧ z.cells = (dv noD).toArray := by
  have h : (Tryz.prog.info? 27).map (fun i => (i.zero.map (fun z => z.cells), i.size, i.bytes)) = some (some (dv noD).toArray, 34, 56) := by kernel_rfl
  obtain ⟨i, hi, hz⟩ := Option.map_eq_some_iff.1 h
  simp only [Prod.mk.injEq] at hz
  obtain ⟨z, h1, h2⟩ := Option.map_eq_some_iff.1 hz.1
  exact ⟨i, z, hi, h1, hz.2.1, hz.2.2, h2⟩
theorem dig_rep (n : Nat) : Dig32 (List.replicate n noD) := fun d hd => by rw [(List.mem_replicate.1 hd).2]; rfl
theorem made_cells (n : Nat) : madeCells (dv noD).toArray (n * 34) = (cellsD (List.replicate n noD)).toArray := by
  apply Array.ext
  · rw [size_madeCells, List.size_toArray, cellsD_len (dig_rep n), List.length_replicate]
  · intro i h1 h2
    rw [size_madeCells] at h1
    have hi : i / 34 < n := by omega
    have hj : i % 34 < 34 := by omega
    have hc := cellsD_at (dig_rep n) (i / 34) (i % 34) (by rw [List.length_replicate]; exact hi) hj
    rw [show i / 34 * 34 + i % 34 = i by omega, List.getElem_replicate] at hc
    have h3 : (cellsD (List.replicate n noD))[i]? = some ((cellsD (List.replicate n noD)).toArray[i]) := by
      rw [List.getElem_toArray]
      exact List.getElem?_eq_getElem _
    rw [h3] at hc
    have h4 : (madeCells (dv noD).toArray (n * 34))[i] = (dv noD).toArray[i % 34]! := by
      simp only [madeCells, Array.getElem_map, Array.getElem_range, List.size_toArray, dv_len noD_len]
    rw [h4]
    have h5 : i % 34 < (dv noD).toArray.size := by rw [List.size_toArray, dv_len noD_len]; exact hj
    rw [getElem!_pos (dv noD).toArray (i % 34) h5, List.getElem_toArray]
    rw [List.getElem?_eq_getElem (by rw [dv_len noD_len]; exact hj)] at hc
    exact (Option.some.inj hc).symm
theorem run_make_descs (W : World) (n : Nat) (hn : n ≤ 100) : (Instr.makeSlice 28 (.int .i64 (n : Int)) (.int .i64 (n : Int))).run Tryz.prog W = .ok (.slice (some ⟨W.heap.size, 0, none⟩) n n) (W.alloc (.cells (cellsD (List.replicate n noD)).toArray 27)) := by
  obtain ⟨i, z, hi, hz, hsz, hbz, hzc⟩ := mt_infoN
  have h := run_makeSlice (P := Tryz.prog) W 28 27 i z Tryz.underlying28 hi hz .i64 .i64 n n (by omega) (Int.le_refl _) (by rw [hsz, Int.toNat_natCast]; omega) (by rw [hbz]; omega) (by omega)
  rw [Int.toNat_natCast, hsz, hzc, made_cells] at h
  exact h
theorem descs_new (W : World) (n : Nat) : DescsAt (W.alloc (.cells (cellsD (List.replicate n noD)).toArray 27)) (some ⟨W.heap.size, 0, none⟩) n n (List.replicate n noD) := by
  have r := Row.new W 27 (cellsD (List.replicate n noD))
  exact ⟨List.length_replicate, Nat.le_refl _, dig_rep n, fun _ => ⟨_, 0, rfl, r.lt, r.range 0 _ (fun j v hj => by rw [Nat.zero_add]; exact hj)⟩⟩
theorem SlsAt.new1 (w : World) {a : Addr} {n c : Nat} {L : List V} (hL : ValsAt w (some a) n c L) : SlsAt (w.alloc (.cells #[.slice (some a) n c] 29)) (some ⟨w.heap.size, 0, none⟩) 1 1 [⟨some a, c, L⟩] := by
  have h1 := hL.len
  refine SlsAt.new w [⟨some a, c, L⟩] (fun p hp => ?_) _ (by rw [List.map_cons, List.map_nil]; unfold Pc.enc; dsimp only; rw [h1]) 1 rfl
  rw [List.mem_singleton.1 hp]
  dsimp only
  rw [h1]
  exact hL
theorem built_manN (A1 A2 : Option Addr) (n1 c1 n2 c2 : Nat) : Tryz.prog.built 31 [(1, .slice A1 n1 c1), (2, .slice A2 n2 c2)] = some (mv noD (.slice A1 n1 c1) (.slice A2 n2 c2)).toArray := by kernel_rfl
end Go.Proofs.YtfgflgifffjdgaaGreatDoor

namespace Go.Proofs.YtfgflgifffjdgaaGreatDoor
open Go.RowKit Sh Jt Js Jo
set_option maxRecDepth 100000

/-- A region of any order, by an invariant of what is listed. -/
theorem any_inv {P : Program} {md : Region.Mode} {ops : Array Oper} {Q : Exit → Act → World → Prop} (Inv : Array Bool → Act → World → Prop)
    (step : ∀ (listed : Array Bool) (a : Act) (w : World) (i : Nat), i ∈ Region.ready md ops listed → Inv listed a w → wpOp P ops Q i (Inv (listed.setIfInBounds i true)) a w)
    (stop : ∀ (listed : Array Bool) (a : Act) (w : World), Region.ready md ops listed = [] → Inv listed a w → Q .normal a w) :
    ∀ (fuel : Nat) (listed : Array Bool) (a : Act) (w : World), listed.toList.count false ≤ fuel → Inv listed a w → wpAny P md ops Q fuel listed a w
  | 0, listed, a, w, hf, h => by
    have hr : Region.ready md ops listed = [] := by
      cases e : Region.ready md ops listed with
      | nil => rfl
      | cons i r =>
        have hi : i ∈ Region.ready md ops listed := by rw [e]; exact List.mem_cons_self
        have h1 := (mem_ready.1 hi).1
        have hlt : i < listed.size := by
          rcases Nat.lt_or_ge i listed.size with h' | h'
          · exact h'
          · rw [Array.getD_eq_getD_getElem?, Array.getElem?_eq_none h'] at h1
            cases h1
        rw [Array.getD_eq_getD_getElem?, Array.getElem?_eq_getElem hlt] at h1
        have h2 : false ∈ listed.toList := by
          have h3 : listed[i] = false := h1
          rw [← h3]
          exact Array.getElem_mem_toList hlt
        have := List.count_pos_iff.2 h2
        omega
    exact ⟨hr, stop _ _ _ hr h⟩
  | fuel + 1, listed, a, w, hf, h => by
    refine ⟨fun hr => stop _ _ _ hr h, fun i hi => ?_⟩
    refine wpOp_mono (fun a' w' h' => any_inv Inv step stop fuel _ a' w' ?_ h') (step _ _ _ _ hi h)
    have h1 := (mem_ready.1 hi).1
    have hlt : i < listed.size := by
      rcases Nat.lt_or_ge i listed.size with h' | h'
      · exact h'
      · rw [Array.getD_eq_getD_getElem?, Array.getElem?_eq_none h'] at h1
        cases h1
    rw [Array.getD_eq_getD_getElem?, Array.getElem?_eq_getElem hlt] at h1
    have h3 : listed.toList[i] = false := h1
    rw [Array.toList_setIfInBounds, List.count_set hlt, h3]
    have h4 : 0 < listed.toList.count false := List.count_pos_iff.2 (by rw [← h3]; exact List.getElem_mem _)
    simp only [beq_self_eq_true, if_true, show (true == false) = false from rfl, Bool.false_eq_true, if_false]
    omega
theorem op_run {o : Oper} {a : Act} {w : World} {K : Act → World → Prop} {Q : Exit → Act → World → Prop} (v : Value) (w' : World) (hrun : (execOp a.eval o).run Tryz.prog w = .ok (.value v) w') (h : K (a.put o.dst v) w') : o.wp Tryz.prog a w K Q := by
  unfold Oper.wp
  rw [hrun]
  exact h
theorem run_v {s : Sem Value} {w w' : World} {v : Value} (h : s.run Tryz.prog w = .ok v w') : (do let x ← s; pure (Next.value x) : Sem Next).run Tryz.prog w = .ok (.value v) w' := by
  rw [Sem.run_bind, h]
  rfl
/-- The act as the region has it. -/
def actM (N : Int) (t4 t17 t18 t19 t20 t21 t22 t23 : Value) : Act := { tmps := #[.int .i64 N, undef, .bool false, .bool true, t4, undef, undef, undef, undef, .bool true, .int .i64 N, .bool false, .bool false, .int .i64 N, .bool false, .bool false, undef, t17, t18, t19, t20, t21, t22, t23, undef, undef, undef, undef, undef, undef, undef, undef, undef, undef, undef, undef, undef, undef, undef, undef, undef, undef, undef, undef, undef, undef, undef, undef, undef, undef, undef, undef, undef, undef, undef, undef, undef, undef, undef, undef, undef], defers := [] }
def oM0 : Oper := { dst := some 17, op := .move (.tmp 0), type := 3, pos := "law.go:112", after := #[], guard := none }
def oM1 : Oper := { dst := some 18, op := .makeSlice 28 (.tmp 17) (.tmp 17), type := 28, pos := "law.go:112", after := #[{ on := 0, ground := Ground.data }, { on := 0, ground := Ground.data }], guard := none }
def oM2 : Oper := { dst := some 19, op := .buildSlice 50 1 #[(0, .const (.string ⟨#[115, 99, 104, 101, 109, 97, 86, 101, 114, 115, 105, 111, 110]⟩))], type := 50, pos := "law.go:112", after := #[], guard := none }
def oM3 : Oper := { dst := some 20, op := .call { callee := .value (.func 24), args := #[.const (.int .i64 2)], argTypes := #[3] }, type := 29, pos := "law.go:112", after := #[], guard := none }
def oM4 : Oper := { dst := some 21, op := .buildSlice 74 1 #[(0, .tmp 20)], type := 74, pos := "law.go:112", after := #[{ on := 3, ground := Ground.data }], guard := none }
def oM5 : Oper := { dst := some 22, op := .call { callee := .value (.func 23), args := #[.tmp 19, .tmp 21], argTypes := #[50, 74] }, type := 29, pos := "law.go:112", after := #[{ on := 2, ground := Ground.data }, { on := 4, ground := Ground.data }, { on := 3, ground := Ground.chain }], guard := none }
def oM6 : Oper := { dst := some 23, op := .build 31 #[(1, .tmp 18), (2, .tmp 22)], type := 31, pos := "law.go:112", after := #[{ on := 1, ground := Ground.data }, { on := 5, ground := Ground.data }], guard := none }
def oM7 : Oper := { dst := some 4, op := .alloc 31, type := 0, pos := "law.go:112", after := #[], guard := none }
def oM8 : Oper := { dst := none, op := .store 31 (.tmp 4) (.tmp 23), type := 0, pos := "law.go:112", after := #[{ on := 7, ground := Ground.data }, { on := 6, ground := Ground.data }, { on := 5, ground := Ground.chain }, { on := 0, ground := Ground.phase }, { on := 1, ground := Ground.phase }, { on := 2, ground := Ground.phase }, { on := 3, ground := Ground.phase }, { on := 4, ground := Ground.phase }, { on := 5, ground := Ground.phase }, { on := 6, ground := Ground.phase }, { on := 7, ground := Ground.phase }], guard := none }
def opsM : Array Oper := #[oM0, oM1, oM2, oM3, oM4, oM5, oM6, oM7, oM8]
structure FactsM (w1 W : World) (N : Nat) (c0 c1 c2 c3 c4 c5 c6 c7 c8 : Bool) (t4 t17 t18 t19 t20 t21 t22 t23 : Value) (b4 b18 b22 k22 : Nat) : Prop where
  below : Below w1.heap.size w1 W
  f0 : c0 = true → t17 = .int .i64 (N : Int)
  f1 : c1 = true → t18 = .slice (some ⟨b18, 0, none⟩) N N ∧ DescsAt W (some ⟨b18, 0, none⟩) N N (List.replicate N noD) ∧ b18 < W.heap.size
  f2 : c2 = true → c8 = false → ∃ A, t19 = .slice A 1 1 ∧ StrsAt W A 1 1 [schemaK]
  f3 : c3 = true → c8 = false → ∃ g k, t20 = .slice (some ⟨g, 0, none⟩) 1 k ∧ ValsAt W (some ⟨g, 0, none⟩) 1 k [⟨3, [], [50], 0⟩]
  f4 : c4 = true → c8 = false → ∃ A p, t21 = .slice A 1 1 ∧ SlsAt W A 1 1 [p] ∧ p.row = [⟨3, [], [50], 0⟩]
  f5 : c5 = true → t22 = .slice (some ⟨b22, 0, none⟩) 2 k22 ∧ ValsAt W (some ⟨b22, 0, none⟩) 2 k22 R1 ∧ b22 < W.heap.size
  f6 : c6 = true → t23 = .agg (mv noD t18 t22).toArray
  f7 : c7 = true → t4 = .pointer (some ⟨b4, 0, none⟩) ∧ b4 < W.heap.size ∧ w1.heap.size ≤ b4
  f7r : c7 = true → c8 = false → Row W b4 31 (mv noD (.slice none 0 0) (.slice none 0 0))
  f71 : c7 = true → c1 = true → b4 ≠ b18
  f75 : c7 = true → c5 = true → b4 ≠ b22
  f8 : c8 = true → Row W b4 31 (mv noD t18 t22)
  k6 : c6 = true → c1 = true ∧ c5 = true
  k8 : c8 = true → c6 = true ∧ c7 = true ∧ c4 = true ∧ c2 = true
def InvM (w1 : World) (N : Nat) (listed : Array Bool) (a : Act) (W : World) : Prop :=
  ∃ (c0 c1 c2 c3 c4 c5 c6 c7 c8 : Bool) (t4 t17 t18 t19 t20 t21 t22 t23 : Value) (b4 b18 b22 k22 : Nat), listed = #[c0, c1, c2, c3, c4, c5, c6, c7, c8] ∧ a = actM N t4 t17 t18 t19 t20 t21 t22 t23 ∧ FactsM w1 W N c0 c1 c2 c3 c4 c5 c6 c7 c8 t4 t17 t18 t19 t20 t21 t22 t23 b4 b18 b22 k22
theorem FactsM.go {w1 W W' : World} {N : Nat} {c0 c1 c2 c3 c4 c5 c6 c7 c8 : Bool} {t4 t17 t18 t19 t20 t21 t22 t23 : Value} {b4 b18 b22 k22 : Nat} (F : FactsM w1 W N c0 c1 c2 c3 c4 c5 c6 c7 c8 t4 t17 t18 t19 t20 t21 t22 t23 b4 b18 b22 k22) (k : Below W.heap.size W W') : FactsM w1 W' N c0 c1 c2 c3 c4 c5 c6 c7 c8 t4 t17 t18 t19 t20 t21 t22 t23 b4 b18 b22 k22 :=
  ⟨F.below.trans (k.mono F.below.size), F.f0, fun h => ⟨(F.f1 h).1, (F.f1 h).2.1.below k, Nat.lt_of_lt_of_le (F.f1 h).2.2 k.size⟩, fun h h8 => by obtain ⟨A, e, q⟩ := F.f2 h h8; exact ⟨A, e, q.below k⟩, fun h h8 => by obtain ⟨g, c, e, q⟩ := F.f3 h h8; exact ⟨g, c, e, q.below k⟩,
    fun h h8 => by obtain ⟨A, p, e, q, r⟩ := F.f4 h h8; exact ⟨A, p, e, q.below k, r⟩, fun h => ⟨(F.f5 h).1, (F.f5 h).2.1.below k, Nat.lt_of_lt_of_le (F.f5 h).2.2 k.size⟩, F.f6, fun h => ⟨(F.f7 h).1, Nat.lt_of_lt_of_le (F.f7 h).2.1 k.size, (F.f7 h).2.2⟩,
    fun h h8 => Row.below (F.f7r h h8) k (F.f7 h).2.1, F.f71, F.f75, fun h => Row.below (F.f8 h) k (F.f7 (F.k8 h).2.1).2.1, F.k6, F.k8⟩
theorem run_alloc_man (W : World) : (Instr.alloc 31 true (.tuple #[])).run Tryz.prog W = .ok (.pointer (some ⟨W.heap.size, 0, none⟩)) (W.alloc (.cells (mv noD (.slice none 0 0) (.slice none 0 0)).toArray 31)) := by kernel_rfl
/-! Each operation's own fact. -/
theorem FactsM.s0 {w1 W : World} {N : Nat} {c0 c1 c2 c3 c4 c5 c6 c7 c8 : Bool} {t4 t17 t18 t19 t20 t21 t22 t23 : Value} {b4 b18 b22 k22 : Nat} (F : FactsM w1 W N c0 c1 c2 c3 c4 c5 c6 c7 c8 t4 t17 t18 t19 t20 t21 t22 t23 b4 b18 b22 k22) : FactsM w1 W N true c1 c2 c3 c4 c5 c6 c7 c8 t4 (.int .i64 (N : Int)) t18 t19 t20 t21 t22 t23 b4 b18 b22 k22 := ⟨F.below, (fun _ => rfl), F.f1, F.f2, F.f3, F.f4, F.f5, F.f6, F.f7, F.f7r, F.f71, F.f75, F.f8, F.k6, F.k8⟩
theorem FactsM.s1 {w1 W : World} {N : Nat} {c0 c1 c2 c3 c4 c5 c6 c7 c8 : Bool} {t4 t17 t18 t19 t20 t21 t22 t23 : Value} {b4 b18 b22 k22 : Nat} (F : FactsM w1 W N c0 c1 c2 c3 c4 c5 c6 c7 c8 t4 t17 t18 t19 t20 t21 t22 t23 b4 b18 b22 k22) (h1 : c1 = false) (b : Nat) (hd : DescsAt W (some ⟨b, 0, none⟩) N N (List.replicate N noD)) (hb : b < W.heap.size) (hn : c7 = true → b4 ≠ b) : FactsM w1 W N c0 true c2 c3 c4 c5 c6 c7 c8 t4 t17 (.slice (some ⟨b, 0, none⟩) N N) t19 t20 t21 t22 t23 b4 b b22 k22 := ⟨F.below, F.f0, (fun _ => ⟨rfl, hd, hb⟩), F.f2, F.f3, F.f4, F.f5, (fun h => absurd (F.k6 h).1 (by rw [h1]; decide)), F.f7, F.f7r, (fun h _ => hn h), F.f75, (fun h => absurd (F.k6 (F.k8 h).1).1 (by rw [h1]; decide)), (fun h => ⟨rfl, (F.k6 h).2⟩), F.k8⟩
theorem FactsM.s2 {w1 W : World} {N : Nat} {c0 c1 c2 c3 c4 c5 c6 c7 c8 : Bool} {t4 t17 t18 t19 t20 t21 t22 t23 : Value} {b4 b18 b22 k22 : Nat} (F : FactsM w1 W N c0 c1 c2 c3 c4 c5 c6 c7 c8 t4 t17 t18 t19 t20 t21 t22 t23 b4 b18 b22 k22) (A : Option Addr) (h : StrsAt W A 1 1 [schemaK]) : FactsM w1 W N c0 c1 true c3 c4 c5 c6 c7 c8 t4 t17 t18 (.slice A 1 1) t20 t21 t22 t23 b4 b18 b22 k22 := ⟨F.below, F.f0, F.f1, (fun _ _ => ⟨A, rfl, h⟩), F.f3, F.f4, F.f5, F.f6, F.f7, F.f7r, F.f71, F.f75, F.f8, F.k6, (fun h => ⟨(F.k8 h).1, (F.k8 h).2.1, (F.k8 h).2.2.1, rfl⟩)⟩
theorem FactsM.s3 {w1 W : World} {N : Nat} {c0 c1 c2 c3 c4 c5 c6 c7 c8 : Bool} {t4 t17 t18 t19 t20 t21 t22 t23 : Value} {b4 b18 b22 k22 : Nat} (F : FactsM w1 W N c0 c1 c2 c3 c4 c5 c6 c7 c8 t4 t17 t18 t19 t20 t21 t22 t23 b4 b18 b22 k22) (g k : Nat) (h : ValsAt W (some ⟨g, 0, none⟩) 1 k [⟨3, [], [50], 0⟩]) : FactsM w1 W N c0 c1 c2 true c4 c5 c6 c7 c8 t4 t17 t18 t19 (.slice (some ⟨g, 0, none⟩) 1 k) t21 t22 t23 b4 b18 b22 k22 := ⟨F.below, F.f0, F.f1, F.f2, (fun _ _ => ⟨g, k, rfl, h⟩), F.f4, F.f5, F.f6, F.f7, F.f7r, F.f71, F.f75, F.f8, F.k6, F.k8⟩
theorem FactsM.s4 {w1 W : World} {N : Nat} {c0 c1 c2 c3 c4 c5 c6 c7 c8 : Bool} {t4 t17 t18 t19 t20 t21 t22 t23 : Value} {b4 b18 b22 k22 : Nat} (F : FactsM w1 W N c0 c1 c2 c3 c4 c5 c6 c7 c8 t4 t17 t18 t19 t20 t21 t22 t23 b4 b18 b22 k22) (A : Option Addr) (p : Pc) (h : SlsAt W A 1 1 [p]) (hp : p.row = [⟨3, [], [50], 0⟩]) : FactsM w1 W N c0 c1 c2 c3 true c5 c6 c7 c8 t4 t17 t18 t19 t20 (.slice A 1 1) t22 t23 b4 b18 b22 k22 := ⟨F.below, F.f0, F.f1, F.f2, F.f3, (fun _ _ => ⟨A, p, rfl, h, hp⟩), F.f5, F.f6, F.f7, F.f7r, F.f71, F.f75, F.f8, F.k6, (fun h => ⟨(F.k8 h).1, (F.k8 h).2.1, rfl, (F.k8 h).2.2.2⟩)⟩
theorem FactsM.s5 {w1 W : World} {N : Nat} {c0 c1 c2 c3 c4 c5 c6 c7 c8 : Bool} {t4 t17 t18 t19 t20 t21 t22 t23 : Value} {b4 b18 b22 k22 : Nat} (F : FactsM w1 W N c0 c1 c2 c3 c4 c5 c6 c7 c8 t4 t17 t18 t19 t20 t21 t22 t23 b4 b18 b22 k22) (h5 : c5 = false) (g k : Nat) (h : ValsAt W (some ⟨g, 0, none⟩) 2 k R1) (hb : g < W.heap.size) (hn : c7 = true → b4 ≠ g) : FactsM w1 W N c0 c1 c2 c3 c4 true c6 c7 c8 t4 t17 t18 t19 t20 t21 (.slice (some ⟨g, 0, none⟩) 2 k) t23 b4 b18 g k := ⟨F.below, F.f0, F.f1, F.f2, F.f3, F.f4, (fun _ => ⟨rfl, h, hb⟩), (fun h => absurd (F.k6 h).2 (by rw [h5]; decide)), F.f7, F.f7r, F.f71, (fun h _ => hn h), (fun h => absurd (F.k6 (F.k8 h).1).2 (by rw [h5]; decide)), (fun h => ⟨(F.k6 h).1, rfl⟩), F.k8⟩
theorem FactsM.s6 {w1 W : World} {N : Nat} {c0 c1 c2 c3 c4 c5 c6 c7 c8 : Bool} {t4 t17 t18 t19 t20 t21 t22 t23 : Value} {b4 b18 b22 k22 : Nat} (F : FactsM w1 W N c0 c1 c2 c3 c4 c5 c6 c7 c8 t4 t17 t18 t19 t20 t21 t22 t23 b4 b18 b22 k22) (h1 : c1 = true) (h5 : c5 = true) : FactsM w1 W N c0 c1 c2 c3 c4 c5 true c7 c8 t4 t17 t18 t19 t20 t21 t22 (.agg (mv noD t18 t22).toArray) b4 b18 b22 k22 := ⟨F.below, F.f0, F.f1, F.f2, F.f3, F.f4, F.f5, (fun _ => rfl), F.f7, F.f7r, F.f71, F.f75, F.f8, (fun _ => ⟨h1, h5⟩), (fun h => ⟨rfl, (F.k8 h).2⟩)⟩
theorem FactsM.s7 {w1 W : World} {N : Nat} {c0 c1 c2 c3 c4 c5 c6 c7 c8 : Bool} {t4 t17 t18 t19 t20 t21 t22 t23 : Value} {b4 b18 b22 k22 : Nat} (F : FactsM w1 W N c0 c1 c2 c3 c4 c5 c6 c7 c8 t4 t17 t18 t19 t20 t21 t22 t23 b4 b18 b22 k22) (h7 : c7 = false) (b : Nat) (hb : b < W.heap.size) (hw : w1.heap.size ≤ b) (hr : Row W b 31 (mv noD (.slice none 0 0) (.slice none 0 0))) (n1 : c1 = true → b ≠ b18) (n5 : c5 = true → b ≠ b22) : FactsM w1 W N c0 c1 c2 c3 c4 c5 c6 true c8 (.pointer (some ⟨b, 0, none⟩)) t17 t18 t19 t20 t21 t22 t23 b b18 b22 k22 := ⟨F.below, F.f0, F.f1, F.f2, F.f3, F.f4, F.f5, F.f6, (fun _ => ⟨rfl, hb, hw⟩), (fun _ _ => hr), (fun _ h => n1 h), (fun _ h => n5 h), (fun h => absurd (F.k8 h).2.1 (by rw [h7]; decide)), F.k6, (fun h => ⟨(F.k8 h).1, rfl, (F.k8 h).2.2⟩)⟩
theorem ready_lt {c0 c1 c2 c3 c4 c5 c6 c7 c8 : Bool} {i : Nat} (hi : i ∈ Region.ready .any opsM #[c0, c1, c2, c3, c4, c5, c6, c7, c8]) : i < 9 := by
  have h1 := (mem_ready.1 hi).1
  rcases Nat.lt_or_ge i 9 with h | h
  · exact h
  · rw [Array.getD_eq_getD_getElem?, Array.getElem?_eq_none (by simpa using h)] at h1
    cases h1
theorem ready_0 {c0 c1 c2 c3 c4 c5 c6 c7 c8 : Bool} (hi : 0 ∈ Region.ready .any opsM #[c0, c1, c2, c3, c4, c5, c6, c7, c8]) : c0 = false := by
  obtain ⟨h1, o, ho, hd⟩ := mem_ready.1 hi
  obtain rfl : oM0 = o := Option.some.inj ho
  exact h1
theorem ready_1 {c0 c1 c2 c3 c4 c5 c6 c7 c8 : Bool} (hi : 1 ∈ Region.ready .any opsM #[c0, c1, c2, c3, c4, c5, c6, c7, c8]) : c1 = false ∧ c0 = true := by
  obtain ⟨h1, o, ho, hd⟩ := mem_ready.1 hi
  obtain rfl : oM1 = o := Option.some.inj ho
  exact ⟨h1, hd ⟨0, .data⟩ (by simp [oM1]) rfl⟩
theorem ready_2 {c0 c1 c2 c3 c4 c5 c6 c7 c8 : Bool} (hi : 2 ∈ Region.ready .any opsM #[c0, c1, c2, c3, c4, c5, c6, c7, c8]) : c2 = false := by
  obtain ⟨h1, o, ho, hd⟩ := mem_ready.1 hi
  obtain rfl : oM2 = o := Option.some.inj ho
  exact h1
theorem ready_3 {c0 c1 c2 c3 c4 c5 c6 c7 c8 : Bool} (hi : 3 ∈ Region.ready .any opsM #[c0, c1, c2, c3, c4, c5, c6, c7, c8]) : c3 = false := by
  obtain ⟨h1, o, ho, hd⟩ := mem_ready.1 hi
  obtain rfl : oM3 = o := Option.some.inj ho
  exact h1
theorem ready_4 {c0 c1 c2 c3 c4 c5 c6 c7 c8 : Bool} (hi : 4 ∈ Region.ready .any opsM #[c0, c1, c2, c3, c4, c5, c6, c7, c8]) : c4 = false ∧ c3 = true := by
  obtain ⟨h1, o, ho, hd⟩ := mem_ready.1 hi
  obtain rfl : oM4 = o := Option.some.inj ho
  exact ⟨h1, hd ⟨3, .data⟩ (by simp [oM4]) rfl⟩
theorem ready_5 {c0 c1 c2 c3 c4 c5 c6 c7 c8 : Bool} (hi : 5 ∈ Region.ready .any opsM #[c0, c1, c2, c3, c4, c5, c6, c7, c8]) : c5 = false ∧ c2 = true ∧ c4 = true ∧ c3 = true := by
  obtain ⟨h1, o, ho, hd⟩ := mem_ready.1 hi
  obtain rfl : oM5 = o := Option.some.inj ho
  exact ⟨h1, hd ⟨2, .data⟩ (by simp [oM5]) rfl, hd ⟨4, .data⟩ (by simp [oM5]) rfl, hd ⟨3, .chain⟩ (by simp [oM5]) rfl⟩
theorem ready_6 {c0 c1 c2 c3 c4 c5 c6 c7 c8 : Bool} (hi : 6 ∈ Region.ready .any opsM #[c0, c1, c2, c3, c4, c5, c6, c7, c8]) : c6 = false ∧ c1 = true ∧ c5 = true := by
  obtain ⟨h1, o, ho, hd⟩ := mem_ready.1 hi
  obtain rfl : oM6 = o := Option.some.inj ho
  exact ⟨h1, hd ⟨1, .data⟩ (by simp [oM6]) rfl, hd ⟨5, .data⟩ (by simp [oM6]) rfl⟩
theorem ready_7 {c0 c1 c2 c3 c4 c5 c6 c7 c8 : Bool} (hi : 7 ∈ Region.ready .any opsM #[c0, c1, c2, c3, c4, c5, c6, c7, c8]) : c7 = false := by
  obtain ⟨h1, o, ho, hd⟩ := mem_ready.1 hi
  obtain rfl : oM7 = o := Option.some.inj ho
  exact h1
theorem ready_8 {c0 c1 c2 c3 c4 c5 c6 c7 c8 : Bool} (hi : 8 ∈ Region.ready .any opsM #[c0, c1, c2, c3, c4, c5, c6, c7, c8]) : c8 = false ∧ c7 = true ∧ c6 = true ∧ c5 = true ∧ c0 = true ∧ c1 = true ∧ c2 = true ∧ c3 = true ∧ c4 = true := by
  obtain ⟨h1, o, ho, hd⟩ := mem_ready.1 hi
  obtain rfl : oM8 = o := Option.some.inj ho
  exact ⟨h1, hd ⟨7, .data⟩ (by simp [oM8]) rfl, hd ⟨6, .data⟩ (by simp [oM8]) rfl, hd ⟨5, .chain⟩ (by simp [oM8]) rfl, hd ⟨0, .phase⟩ (by simp [oM8]) rfl, hd ⟨1, .phase⟩ (by simp [oM8]) rfl, hd ⟨2, .phase⟩ (by simp [oM8]) rfl, hd ⟨3, .phase⟩ (by simp [oM8]) rfl, hd ⟨4, .phase⟩ (by simp [oM8]) rfl⟩
set_option maxHeartbeats 4000000 in
theorem step_M {Q : Exit → Act → World → Prop} (w1 : World) (N : Nat) (hN : N ≤ 100) (hE : ∀ W, Below w1.heap.size w1 W → MEnv W) (listed : Array Bool) (a : Act) (W : World) (i : Nat) (hi : i ∈ Region.ready .any opsM listed) (hI : InvM w1 N listed a W) : wpOp Tryz.prog opsM Q i (InvM w1 N (listed.setIfInBounds i true)) a W := by
  obtain ⟨c0, c1, c2, c3, c4, c5, c6, c7, c8, t4, t17, t18, t19, t20, t21, t22, t23, b4, b18, b22, k22, rfl, rfl, F⟩ := hI
  have h9 := ready_lt hi
  have hcase : i = 0 ∨ i = 1 ∨ i = 2 ∨ i = 3 ∨ i = 4 ∨ i = 5 ∨ i = 6 ∨ i = 7 ∨ i = 8 := by omega
  rcases hcase with rfl | rfl | rfl | rfl | rfl | rfl | rfl | rfl | rfl
  · obtain h0 := ready_0 hi
    refine wpOp_step (o := oM0) rfl (fun K hK => ?_)
    rw [if_pos (by rfl)]
    exact op_run (.int .i64 (N : Int)) W rfl (hK _ _ ⟨true, c1, c2, c3, c4, c5, c6, c7, c8, t4, _, t18, t19, t20, t21, t22, t23, b4, b18, b22, k22, rfl, rfl, F.s0⟩)
  · obtain ⟨h1, h0⟩ := ready_1 hi
    refine wpOp_step (o := oM1) rfl (fun K hK => ?_)
    rw [if_pos (by rfl)]
    have e17 := F.f0 h0
    have k := below_alloc' W (.cells (cellsD (List.replicate N noD)).toArray 27)
    exact op_run _ _ (run_v (by show (Instr.makeSlice _ t17 t17).run _ _ = _; rw [e17]; exact run_make_descs W N hN)) (hK _ _ ⟨c0, true, c2, c3, c4, c5, c6, c7, c8, t4, t17, _, t19, t20, t21, t22, t23, b4, _, b22, k22, rfl, rfl, (F.go k).s1 h1 W.heap.size (descs_new W N) (by simp) (fun h => by have := (F.f7 h).2.1; omega)⟩)
  · obtain h2 := ready_2 hi
    refine wpOp_step (o := oM2) rfl (fun K hK => ?_)
    rw [if_pos (by rfl)]
    have k := below_alloc' W (.cells #[.string (sb schemaK)] 9)
    exact op_run _ _ (run_v (by simp only [List.map_toArray, List.map_cons, List.map_nil]; exact run_build_str1 W _)) (hK _ _ ⟨c0, c1, true, c3, c4, c5, c6, c7, c8, t4, t17, t18, _, t20, t21, t22, t23, b4, b18, b22, k22, rfl, rfl, (F.go k).s2 _ (StrsAt.new1 W schemaK)⟩)
  · obtain h3 := ready_3 hi
    refine wpOp_step (o := oM3) rfl (fun K hK => ?_)
    rw [if_pos (by rfl)]
    refine js_enterP 24 #[.int .i64 2] (by kernel_rfl) (own_form (L := [⟨3, [], [50], 0⟩]) (n := 1) rfl (by decide) (by have := jo_int W 2 (by decide) (by decide) (hE W F.below).j; rw [t_two] at this; exact this)) ?_
    rintro e W' ⟨g, k, rfl, H⟩
    exact ⟨_, rfl, hK _ _ ⟨c0, c1, c2, true, c4, c5, c6, c7, c8, t4, t17, t18, t19, _, t21, t22, t23, b4, b18, b22, k22, rfl, rfl, (F.go H.out.2.2).s3 g k H.out.2.1⟩⟩
  · obtain ⟨h4, h3⟩ := ready_4 hi
    refine wpOp_step (o := oM4) rfl (fun K hK => ?_)
    rw [if_pos (by rfl)]
    have h8 : c8 = false := by
      cases c8 with
      | false => rfl
      | true => rw [(F.k8 rfl).2.2.1] at h4; cases h4
    obtain ⟨g, k, e20, hv⟩ := F.f3 h3 h8
    have kk := below_alloc' W (.cells #[.slice (some ⟨g, 0, none⟩) 1 k] 29)
    exact op_run _ _ (run_v (by simp only [List.map_toArray, List.map_cons, List.map_nil]; show (Instr.buildSlice _ _ #[(0, t20)]).run _ _ = _; rw [e20]; exact run_build_sls1 W _ _ _)) (hK _ _ ⟨c0, c1, c2, c3, true, c5, c6, c7, c8, t4, t17, t18, t19, t20, _, t22, t23, b4, b18, b22, k22, rfl, rfl, (F.go kk).s4 _ _ (SlsAt.new1 W hv) rfl⟩)
  · obtain ⟨h5, h2, h4, h3⟩ := ready_5 hi
    refine wpOp_step (o := oM5) rfl (fun K hK => ?_)
    rw [if_pos (by rfl)]
    have h8 : c8 = false := by
      cases c8 with
      | false => rfl
      | true => rw [(F.k6 (F.k8 rfl).1).2] at h5; cases h5
    obtain ⟨A, e19, hs⟩ := F.f2 h2 h8
    obtain ⟨A2, p, e21, hp, hr⟩ := F.f4 h4 h8
    subst e19 e21
    refine js_enterP 23 #[.slice A 1 1, .slice A2 1 1] (by kernel_rfl) (own_form (L := R1) (n := 2) rfl (by decide) (by
      have := jo_object W A 1 1 [schemaK] hs (by decide) (by decide) A2 1 1 [p] hp (by decide) (fun q hq => by rw [List.mem_singleton.1 hq, hr]; exact sh_two (by decide)) (by show (rowsOf [p]).flatten.length ≤ _; rw [show rowsOf [p] = [p.row] from rfl, hr]; exact Nat.le_of_ble_eq_true rfl) (hE W F.below).j.tab
      rw [show rowsOf [p] = [p.row] from rfl, hr, obj1] at this
      exact this)) ?_
    rintro e W' ⟨g, k, rfl, H⟩
    obtain ⟨g', k', e, hg, hlt, _⟩ := H.out.1.got (by decide)
    have hgg : g = g' := by simpa using congrArg (fun v => match v with | Value.slice (some x) _ _ => x.block | _ => 0) e
    exact ⟨_, rfl, hK _ _ ⟨c0, c1, c2, c3, c4, true, c6, c7, c8, t4, t17, t18, _, t20, _, _, t23, b4, b18, _, _, rfl, rfl, (F.go H.out.2.2).s5 h5 g k H.out.2.1 (by omega) (fun h => by have := (F.f7 h).2.1; omega)⟩⟩
  · obtain ⟨h6, h1, h5⟩ := ready_6 hi
    refine wpOp_step (o := oM6) rfl (fun K hK => ?_)
    rw [if_pos (by rfl)]
    have e18 := (F.f1 h1).1
    have e22 := (F.f5 h5).1
    have hb : Tryz.prog.built 31 ((#[(1, Operand.tmp 18), (2, .tmp 22)] : Array (Nat × Operand)).map fun (i, x) => (i, (actM N t4 t17 t18 t19 t20 t21 t22 t23).eval x)).toList = some (mv noD t18 t22).toArray := by
      simp only [List.map_toArray, List.map_cons, List.map_nil]
      show Tryz.prog.built 31 [(1, t18), (2, t22)] = _
      rw [e18, e22]
      exact built_manN _ _ _ _ _ _
    refine wp_build 31 #[(1, .tmp 18), (2, .tmp 22)] rfl (by rw [hb]; rfl) ?_
    rw [hb]
    exact hK _ _ ⟨c0, c1, c2, c3, c4, c5, true, c7, c8, t4, t17, t18, t19, t20, t21, t22, _, b4, b18, b22, k22, rfl, rfl, F.s6 h1 h5⟩
  · obtain h7 := ready_7 hi
    refine wpOp_step (o := oM7) rfl (fun K hK => ?_)
    rw [if_pos (by rfl)]
    have k := below_alloc' W (.cells (mv noD (.slice none 0 0) (.slice none 0 0)).toArray 31)
    exact op_run _ _ (run_v (run_alloc_man W)) (hK _ _ ⟨c0, c1, c2, c3, c4, c5, c6, true, c8, _, t17, t18, t19, t20, t21, t22, t23, _, b18, b22, k22, rfl, rfl, (F.go k).s7 h7 W.heap.size (by simp) F.below.size (Row.new W _ _) (fun h => by have := (F.f1 h).2.2; omega) (fun h => by have := (F.f5 h).2.2; omega)⟩)
  · obtain ⟨h8, h7, h6, h5, h0, h1, h2, h3, h4⟩ := ready_8 hi
    refine wpOp_step (o := oM8) rfl (fun K hK => ?_)
    rw [if_pos (by rfl)]
    obtain ⟨e4, hlt, hw⟩ := F.f7 h7
    subst e4
    have e23 := F.f6 h6
    subst e23
    have hr := F.f7r h7 h8
    have e18 := (F.f1 h1).1
    have e22 := (F.f5 h5).1
    have hl : (mv noD t18 t22).length = 36 := mv_len noD_len _ _
    refine wp_store_row 31 (.tmp 4) (.tmp 23) rfl b4 (mv noD t18 t22).toArray rfl rfl 31 _ hr (by rw [List.size_toArray, hl]; exact mt_sizeM) (by rw [List.size_toArray, List.size_toArray, hl]; rfl) (mv_one (by rw [e18]; rfl) (by rw [e22]; rfl)) ?_
    have hK2 : Kept W (W.setRow b4 (mv noD t18 t22).toArray) (· = b4) := (Kept.refl W (· = b4)).setRow (b := b4) (.inr rfl) _
    have hsz := setRow_size W b4 (mv noD t18 t22).toArray
    have hR : Row (W.setRow b4 (mv noD t18 t22).toArray) b4 31 (mv noD t18 t22) := Row.setRow hr _
    have hB : Below w1.heap.size w1 (W.setRow b4 (mv noD t18 t22).toArray) := by
      refine ⟨hK2.os.trans F.below.os, hK2.tape.trans F.below.tape, hK2.output.trans F.below.output, by rw [hsz]; exact F.below.size, fun j hj => (hK2.block j (Nat.lt_of_lt_of_le hj F.below.size) (by omega)).trans (F.below.block j hj)⟩
    refine hK _ _ ⟨c0, c1, c2, c3, c4, c5, c6, c7, true, _, t17, t18, t19, t20, t21, t22, _, b4, b18, b22, k22, rfl, rfl, ?_⟩
    exact ⟨hB, F.f0, fun h => ⟨(F.f1 h).1, (F.f1 h).2.1.kept hK2 (fun b o e _ h9 => F.f71 h7 h (by simp only [Option.some.injEq, Addr.mk.injEq] at e; omega)), by rw [hsz]; exact (F.f1 h).2.2⟩, (fun _ h => by cases h), (fun _ h => by cases h), (fun _ h => by cases h),
      fun h => ⟨(F.f5 h).1, (F.f5 h).2.1.kept hK2 (fun b o e _ h9 => F.f75 h7 h (by simp only [Option.some.injEq, Addr.mk.injEq] at e; omega)), by rw [hsz]; exact (F.f5 h).2.2⟩, fun _ => rfl, fun _ => ⟨rfl, by rw [hsz]; exact hlt, hw⟩, (fun _ h => by cases h), F.f71, F.f75, fun _ => hR, F.k6, fun _ => ⟨h6, h7, h4, h2⟩⟩
end Go.Proofs.YtfgflgifffjdgaaGreatDoor

namespace Go.Proofs.YtfgflgifffjdgaaGreatDoor
open Go.RowKit Sh Jt Js Jo
set_option maxRecDepth 100000

theorem all_M {c0 c1 c2 c3 c4 c5 c6 c7 c8 : Bool} (h : Region.ready .any opsM #[c0, c1, c2, c3, c4, c5, c6, c7, c8] = []) : c0 = true ∧ c1 = true ∧ c2 = true ∧ c3 = true ∧ c4 = true ∧ c5 = true ∧ c6 = true ∧ c7 = true ∧ c8 = true := by
  have n0 : c0 = true := by
    cases c0 with
    | true => rfl
    | false =>
      have hm : 0 ∈ Region.ready .any opsM #[false, c1, c2, c3, c4, c5, c6, c7, c8] := mem_ready.2 ⟨rfl, oM0, rfl, fun e he _ => by
        simp only [oM0, List.mem_toArray, List.not_mem_nil] at he⟩
      rw [h] at hm
      cases hm
  have n1 : c1 = true := by
    cases c1 with
    | true => rfl
    | false =>
      have hm : 1 ∈ Region.ready .any opsM #[c0, false, c2, c3, c4, c5, c6, c7, c8] := mem_ready.2 ⟨rfl, oM1, rfl, fun e he _ => by
        simp only [oM1, List.mem_toArray, List.mem_cons, List.not_mem_nil, or_false] at he
        rcases he with rfl | rfl
        · exact n0
        · exact n0⟩
      rw [h] at hm
      cases hm
  have n2 : c2 = true := by
    cases c2 with
    | true => rfl
    | false =>
      have hm : 2 ∈ Region.ready .any opsM #[c0, c1, false, c3, c4, c5, c6, c7, c8] := mem_ready.2 ⟨rfl, oM2, rfl, fun e he _ => by
        simp only [oM2, List.mem_toArray, List.not_mem_nil] at he⟩
      rw [h] at hm
      cases hm
  have n3 : c3 = true := by
    cases c3 with
    | true => rfl
    | false =>
      have hm : 3 ∈ Region.ready .any opsM #[c0, c1, c2, false, c4, c5, c6, c7, c8] := mem_ready.2 ⟨rfl, oM3, rfl, fun e he _ => by
        simp only [oM3, List.mem_toArray, List.not_mem_nil] at he⟩
      rw [h] at hm
      cases hm
  have n4 : c4 = true := by
    cases c4 with
    | true => rfl
    | false =>
      have hm : 4 ∈ Region.ready .any opsM #[c0, c1, c2, c3, false, c5, c6, c7, c8] := mem_ready.2 ⟨rfl, oM4, rfl, fun e he _ => by
        simp only [oM4, List.mem_toArray, List.mem_cons, List.not_mem_nil, or_false] at he
        rcases he with rfl
        · exact n3⟩
      rw [h] at hm
      cases hm
  have n5 : c5 = true := by
    cases c5 with
    | true => rfl
    | false =>
      have hm : 5 ∈ Region.ready .any opsM #[c0, c1, c2, c3, c4, false, c6, c7, c8] := mem_ready.2 ⟨rfl, oM5, rfl, fun e he _ => by
        simp only [oM5, List.mem_toArray, List.mem_cons, List.not_mem_nil, or_false] at he
        rcases he with rfl | rfl | rfl
        · exact n2
        · exact n4
        · exact n3⟩
      rw [h] at hm
      cases hm
  have n6 : c6 = true := by
    cases c6 with
    | true => rfl
    | false =>
      have hm : 6 ∈ Region.ready .any opsM #[c0, c1, c2, c3, c4, c5, false, c7, c8] := mem_ready.2 ⟨rfl, oM6, rfl, fun e he _ => by
        simp only [oM6, List.mem_toArray, List.mem_cons, List.not_mem_nil, or_false] at he
        rcases he with rfl | rfl
        · exact n1
        · exact n5⟩
      rw [h] at hm
      cases hm
  have n7 : c7 = true := by
    cases c7 with
    | true => rfl
    | false =>
      have hm : 7 ∈ Region.ready .any opsM #[c0, c1, c2, c3, c4, c5, c6, false, c8] := mem_ready.2 ⟨rfl, oM7, rfl, fun e he _ => by
        simp only [oM7, List.mem_toArray, List.not_mem_nil] at he⟩
      rw [h] at hm
      cases hm
  have n8 : c8 = true := by
    cases c8 with
    | true => rfl
    | false =>
      have hm : 8 ∈ Region.ready .any opsM #[c0, c1, c2, c3, c4, c5, c6, c7, false] := mem_ready.2 ⟨rfl, oM8, rfl, fun e he _ => by
        simp only [oM8, List.mem_toArray, List.mem_cons, List.not_mem_nil, or_false] at he
        rcases he with rfl | rfl | rfl | rfl | rfl | rfl | rfl | rfl | rfl | rfl | rfl
        · exact n7
        · exact n6
        · exact n5
        · exact n0
        · exact n1
        · exact n2
        · exact n3
        · exact n4
        · exact n5
        · exact n6
        · exact n7⟩
      rw [h] at hm
      cases hm
  exact ⟨n0, n1, n2, n3, n4, n5, n6, n7, n8⟩
theorem many_region {Q : Exit → Act → World → Prop} (w1 : World) (N : Nat) (hN : N ≤ 100) (hE : ∀ W, Below w1.heap.size w1 W → MEnv W)
    (hK : ∀ (W : World) (t4 t17 t18 t19 t20 t21 t22 t23 : Value) (b4 b18 b22 k22 : Nat), FactsM w1 W N true true true true true true true true true t4 t17 t18 t19 t20 t21 t22 t23 b4 b18 b22 k22 → Q .normal (actM N t4 t17 t18 t19 t20 t21 t22 t23) W) :
    wpAny Tryz.prog .any opsM Q 9 (Array.replicate 9 false) (actM N undef undef undef undef undef undef undef undef) { w1 with drawn := w1.drawn + 1 } := by
  refine any_inv (InvM w1 N) (fun listed a W i hi hI => step_M w1 N hN hE listed a W i hi hI) (fun listed a W hr hI => ?_) _ _ _ _ (by decide) ?_
  · obtain ⟨c0, c1, c2, c3, c4, c5, c6, c7, c8, t4, t17, t18, t19, t20, t21, t22, t23, b4, b18, b22, k22, rfl, rfl, F⟩ := hI
    obtain ⟨rfl, rfl, rfl, rfl, rfl, rfl, rfl, rfl, rfl⟩ := all_M hr
    exact hK _ _ _ _ _ _ _ _ _ _ _ _ _ F
  · have hB : Below w1.heap.size w1 { w1 with drawn := w1.drawn + 1 } := below_drewN (Below.refl _ _) 1
    exact ⟨false, false, false, false, false, false, false, false, false, undef, undef, undef, undef, undef, undef, undef, undef, 0, 0, 0, 0, rfl, rfl, ⟨hB, (fun h => by cases h), (fun h => by cases h), (fun h => by cases h), (fun h => by cases h), (fun h => by cases h), (fun h => by cases h), (fun h => by cases h), (fun h => by cases h), (fun h => by cases h), (fun h => by cases h), (fun h => by cases h), (fun h => by cases h), (fun h => by cases h), (fun h => by cases h)⟩⟩
set_option maxHeartbeats 40000000 in
theorem metaMany_all (w : World) (n : Int) (hE : MEnv w) :
    Calls Tryz.prog 7 #[.int .i64 n] w fun e w' => e = .returned (.bool true) ∧ Hid (Below w.heap.size w w') := by
  have HE := Lib.hid (fun W (q : Below w.heap.size w W) => hE.below q)
  go_enter Tryz.func7, Tryz.ntmps7
  go_wp2_with fail
  refine (mt_small _ hE).mono ?_
  rintro e w1 ⟨rfl, HB⟩
  clear hE
  by_cases h0 : n < 0
  · go_wp2_with fail
    go_ret
    exact ⟨rfl, HB⟩
  by_cases h7 : 70 < n
  · go_wp2_with fail
    go_ret
    exact ⟨rfl, HB⟩
  obtain ⟨N, rfl⟩ : ∃ N : Nat, n = (N : Int) := ⟨n.toNat, by omega⟩
  have hN : N ≤ 70 := by omega
  have hd0 : decide ((N : Int) < 0) = false := decide_eq_false h0
  have hd7 : decide ((70 : Int) < (N : Int)) = false := decide_eq_false h7
  go_wp2_with fail
  refine wp_region_noPanic ?_
  refine wp_region_any (by kernel_rfl) ?_
  refine many_region w1 N (by omega) (fun W q => HE.out W (HB.out.trans (q.mono HB.out.size))) ?_
  intro W t4 t17 t18 t19 t20 t21 t22 t23 b4 b18 b22 k22 F
  obtain ⟨rfl, hdn, _⟩ := F.f1 rfl
  obtain ⟨rfl, hvn, _⟩ := F.f5 rfl
  obtain ⟨rfl, _, _⟩ := F.f7 rfl
  have HIN := Lib.hid (show ManIn W (mN N) (some ⟨b18, 0, none⟩) N N (some ⟨b22, 0, none⟩) 2 k22 from ⟨hdn, hvn, rfl⟩)
  have HQ := Lib.hid (F.f8 rfl)
  replace HB := Lib.hid (HB.out.trans (F.below.mono HB.out.size))
  clear F hdn hvn
  obtain ⟨MV, hMV⟩ : ∃ MV, MV = mv noD (.slice (some ⟨b18, 0, none⟩) N N) (.slice (some ⟨b22, 0, none⟩) 2 k22) := ⟨_, rfl⟩
  have HML := Lib.hid (mv_len noD_len (.slice (some ⟨b18, 0, none⟩) N N) (.slice (some ⟨b22, 0, none⟩) 2 k22))
  rw [← hMV] at HQ HML
  have HMV := Lib.hid hMV
  clear hMV
  refine NoPanic.normal ?_
  unfold actM
  by_cases h6 : 60 < N
  · have hg : (60 : Int) < (N : Int) := by omega
    have HPN := Lib.hid (mt_print_no W (mN N) (some ⟨b18, 0, none⟩) N N (some ⟨b22, 0, none⟩) 2 k22 HIN.out (by omega) (fit_mN N) (HE.out _ HB.out) (row_not (.inr (by rw [len_mN]; exact h6))))
    change Hid (Calls _ _ #[.agg (mv noD (.slice (some ⟨b18, 0, none⟩) N N) (.slice (some ⟨b22, 0, none⟩) 2 k22)).toArray] _ _) at HPN
    rw [← HMV.out] at HPN
    go_wp2_with ((with_reducible refine load_all ?_ 31 (.tmp 4) ?_ b4 0 MV MV.toArray ?_ _ ?_ Tryz.underlying31 ?_ ?_ ?_ ?_); rfl; rfl; go_must (rfl; exact rangeAt_row HQ.out; rfl; (rw [HML.out]; exact mt_sizeM); rfl))
    refine HPN.out.mono ?_
    rintro e w3 ⟨rfl, K3⟩
    replace HB := Lib.hid (HB.out.trans (K3.out.mono HB.out.size))
    clear HPN K3 HQ HIN
    go_wp2_with fail
    go_ret
    exact ⟨rfl, HB⟩
  have hg : ¬ (60 : Int) < (N : Int) := by omega
  have hgd : decide ((60 : Int) < (N : Int)) = false := decide_eq_false hg
  obtain ⟨t, hpr⟩ := prints_mN (n := N) (by omega)
  have HPM := Lib.hid hpr
  have HPN := Lib.hid (mt_print W (mN N) (some ⟨b18, 0, none⟩) N N (some ⟨b22, 0, none⟩) 2 k22 HIN.out (by omega) (fit_mN N) (HE.out _ HB.out) hpr.row)
  change Hid (Calls _ _ #[.agg (mv noD (.slice (some ⟨b18, 0, none⟩) N N) (.slice (some ⟨b22, 0, none⟩) 2 k22)).toArray] _ _) at HPN
  rw [← HMV.out] at HPN
  clear hpr
  go_wp2_with ((with_reducible refine load_all ?_ 31 (.tmp 4) ?_ b4 0 MV MV.toArray ?_ _ ?_ Tryz.underlying31 ?_ ?_ ?_ ?_); rfl; rfl; go_must (rfl; exact rangeAt_row HQ.out; rfl; (rw [HML.out]; exact mt_sizeM); rfl))
  refine HPN.out.mono ?_
  rintro e w3 ⟨v3, rfl, K3⟩
  obtain ⟨A9, c9, rfl, hby, _⟩ := K3.out.1.bytes
  have HBT := Lib.hid hby
  replace HB := Lib.hid (HB.out.trans (K3.out.2.mono HB.out.size))
  clear hby HPN K3 HQ HIN
  have HPX := Lib.hid (mt_parseS w3 A9 t.length c9 t HBT.out HPM.out.len HPM.out.short (HE.out _ HB.out))
  rw [HPM.out.back] at HPX
  go_wp2_with fail
  refine HPX.out.mono ?_
  rintro e w4 ⟨A10, c10, A11, c11, rfl, OD, OV, hxd, K4⟩
  clear HPX HBT
  replace HB := Lib.hid (HB.out.trans (K4.mono HB.out.size))
  rw [show (mN N).layers.length = N from len_mN N]
  have HXL := Lib.hid (mv_len hxd (.slice A10 N c10) (.slice A11 (mN N).rest.length c11))
  have HX1 := Lib.hid (mv_one (c := (mN N).config) (a := .slice A10 N c10) (b := .slice A11 (mN N).rest.length c11) rfl rfl)
  have HX34 := Lib.hid (mv_at hxd (.slice A10 N c10) (.slice A11 (mN N).rest.length c11)).1
  obtain ⟨MX, hMX⟩ : ∃ MX, MX = mv (mN N).config (.slice A10 N c10) (.slice A11 (mN N).rest.length c11) := ⟨_, rfl⟩
  rw [← hMX] at HXL HX1 HX34 ⊢
  clear OD OV hxd hMX K4
  go_upto_region 9 with (first
    | ((with_reducible refine store_all ?_ 31 (.tmp 7) (.tmp 44) ?_ w4.heap.size MX ?_ ?_ (mv noD (.slice none 0 0) (.slice none 0 0)) ?_ ?_ ?_ ?_ ?_); rfl; rfl; go_must (rfl; rfl; (rw [HXL.out]; rfl); exact Row.at_ _ _ _ rfl rfl; (rw [HXL.out]; exact mt_sizeM); exact HX1.out; intro w5 Rn Kn En)))
  have K5 := Lib.hid (show Below w4.heap.size w4 w5 from (kept_stored Kn.out).below (Nat.le_refl _) (fun _ _ h => h))
  replace HB := Lib.hid (HB.out.trans (K5.out.mono HB.out.size))
  generalize w4.heap.size = bx at *
  have hc34 : w5.cell? ⟨bx, 34, none⟩ = some (.slice A10 N c10) := Rn.out.cell HX34.out
  clear Kn En K5
  go_wp2_with fail
  go_ret
  exact ⟨rfl, HB⟩
end Go.Proofs.YtfgflgifffjdgaaGreatDoor
