/-
  The reference's digits and Write.
-/
import Derived.Test.YthakeahpaogikaaDoorOcWrite
import Derived.Great.BuildSlice
namespace Go.Proofs.YthakeahpaogikaaDoor
open Go.RowKit Sh Oc

def vI (x : Nat) : Value := .int .i64 (x : Int)
theorem infoInt : ∃ i, Tryd.prog.info? 3 = some i ∧ i.zero = some (.int .i64 0) ∧ i.size = 1 ∧ i.bytes = 8 := by
  have h : (Tryd.prog.info? 3).map (fun i => (i.zero, i.size, i.bytes)) = some (some (.int .i64 0), 1, 8) := by kernel_rfl
  obtain ⟨i, hi, hz⟩ := Option.map_eq_some_iff.1 h
  simp only [Prod.mk.injEq] at hz
  exact ⟨i, hi, hz.1, hz.2.1, hz.2.2⟩
theorem build_int {ops : Array Oper} {rest : List Oper} {o : Oper} {a : Act} {w : World} {Q : Exit → Act → World → Prop} (hg : o.guard = none) (x : Operand) (ho : o.op = .buildSlice 65 1 #[(0, x)]) (k : Int) (hx : a.eval x = .int .i64 k)
    (h : wpList Tryd.prog ops Q rest (a.put o.dst (.slice (some ⟨w.heap.size, 0, none⟩) 1 1)) (w.alloc (.cells #[.int .i64 k] 3))) : wpList Tryd.prog ops Q (o :: rest) a w := by
  obtain ⟨i, hi, hz, hsz, _⟩ := infoInt
  refine wpList_buildSlice hg 65 3 1 #[(0, x)] ho #[.int .i64 k] i (.int .i64 0) Tryd.underlying65 hi hz (by rw [hsz]; decide) (by rw [hsz]; decide) ?_ h
  rw [hsz]
  have e : (Array.map (fun (p : Nat × Operand) => (p.1, a.eval p.2)) #[(0, x)]).toList = [(0, .int .i64 k)] := by simp [hx]
  show Instr.fill _ _ (Array.map (fun (p : Nat × Operand) => (p.1, a.eval p.2)) #[(0, x)]).toList = _
  rw [e]
  rw [show Array.range (1 * 1) = #[0] from by decide]
  simp [Instr.fill, Value.cells]
/-- v is a slice of the call's own (its block from B on) that holds these numbers. -/
def OwnInts (w : World) (B : Nat) (v : Value) (l : List Nat) : Prop := w.ownsRow B 3 1 v l.length (l.map vI)
theorem OwnInts.nil (w : World) (B : Nat) : OwnInts w B (.slice none 0 0) [] := ⟨rfl, .inl ⟨rfl, rfl⟩⟩
theorem OwnInts.kept {w w' : World} {S : Nat → Prop} {B : Nat} {v : Value} {l : List Nat} (h : OwnInts w B v l) (k : Kept w w' S) (hS : ∀ b, v.ownBlock = some b → ¬ S b) : OwnInts w' B v l := by
  obtain ⟨hl, h1 | ⟨g, cap, cur, rfl, hg, hh, hn, hc, hs, ht⟩⟩ := h
  · exact ⟨hl, .inl h1⟩
  · exact ⟨hl, .inr ⟨g, cap, cur, rfl, hg, (k.block g (Array.getElem?_eq_some_iff.1 hh).1 (hS g rfl)).trans hh, hn, hc, hs, ht⟩⟩
/-- As it lies: an address, a capacity, its cells. -/
theorem OwnInts.at_ {w : World} {B : Nat} {v : Value} {l : List Nat} (h : OwnInts w B v l) (h0 : 0 < l.length) : ∃ (g c : Nat), v = .slice (some ⟨g, 0, none⟩) l.length c ∧ l.length ≤ c ∧ g < w.heap.size ∧ ∀ j (hj : j < l.length), w.cell? ⟨g, j, none⟩ = some (vI l[j]) := by
  obtain ⟨_, ⟨_, h1⟩ | ⟨g, cap, cur, rfl, hg, hh, hn, hc, hs, ht⟩⟩ := h
  · omega
  · refine ⟨g, cap, rfl, hn, (Array.getElem?_eq_some_iff.1 hh).1, fun j hj => ?_⟩
    have hj2 : (l.map vI)[j]? = some (vI l[j]) := by simp [hj]
    rw [← ht, Nat.mul_one, List.getElem?_take, if_pos hj] at hj2
    rw [cell_of_row _ _ _ _ _ _ hh, ← hj2]
    simp
theorem append_int {w : World} {ops : Array Oper} {rest : List Oper} {o : Oper} {a : Act} {Q : Exit → Act → World → Prop} (hgd : o.guard = none) (s x : Operand)
    (ho : o.op = .call { callee := .builtin .append, args := #[s, x], argTypes := #[65, 65] }) (B : Nat) (v : Value) (l : List Nat) (hs : a.eval s = v) (hown : OwnInts w B v l)
    (ad : Addr) (n : Nat) (hx : a.eval x = .slice (some ad) 1 1) (hsrc : w.cell? ad = some (vI n)) (hb : l.length ≤ 1000) (hB : B ≤ w.heap.size)
    (h : ∀ v' w', Hid (OwnInts w' B v' (l ++ [n])) → Hid (Kept w w' (fun k => B ≤ k ∧ v.ownBlock = some k)) → wpList Tryd.prog ops Q rest (a.put o.dst v') w') : wpList Tryd.prog ops Q (o :: rest) a w := by
  obtain ⟨i, hi, hz, hsz, hby⟩ := infoInt
  have hnews : ∀ j u, ([vI n])[j]? = some u → w.cell? (ad.add j) = some u := by
    intro j u hj
    have hjl : j < 1 := by simpa using (List.getElem?_eq_some_iff.1 hj).1
    obtain rfl : j = 0 := by omega
    simp only [List.getElem?_cons_zero, Option.some.injEq] at hj
    rw [← hj, show ad.add 0 = ad from by cases ad; rfl]
    exact hsrc
  refine wpList_append_own w hgd s x 65 ho B 3 i (.int .i64 0) 1 8 Tryd.underlying65 hi hz hsz hby rfl (by decide) v l.length (l.map vI) hs hown ad 1 1 [vI n] hx (by simp) hnews (fun u hu => by
    simp only [List.mem_singleton] at hu
    subst hu
    rfl) (by unfold maxLen; omega) (by omega) hB (fun v' w' h1 h2 _ => h v' w' ?_ ?_)
  · show w'.ownsRow B _ 1 v' (l ++ [n]).length ((l ++ [n]).map vI)
    rw [List.length_append, List.map_append]
    exact h1
  · refine ⟨h2.os, h2.tape, h2.output, h2.size, fun k hk hn => h2.block k hk (fun e => hn ?_)⟩
    obtain ⟨_, ⟨rfl, _⟩ | ⟨g, cap, cur, rfl, hg, _⟩⟩ := hown
    · cases e
    · exact ⟨by simp [Value.ownBlock] at e; omega, e.symm⟩

set_option maxRecDepth 100000 in
set_option maxHeartbeats 2000000 in
theorem digits8 (k : Nat) (hk : k ≤ 20) : ∀ (w : World) (n : Nat), n ≤ 4611686018427387904 →
    Calls Tryd.prog 41 #[.int .i64 n, .int .i64 8, .int .i64 k] w fun e w' => (∃ v, e = .returned (.tuple #[v, .int .i64 ((n / 8 ^ k : Nat) : Int)]) ∧ Hid (OwnInts w' w.heap.size v (dig 8 k n))) ∧ Hid (Below w.heap.size w w') := by
  induction k with
  | zero =>
    intro w n hn
    go_enter Tryd.func41, Tryd.ntmps41
    go_wp2_with fail
    go_ret2
    exact ⟨⟨_, by rw [Nat.pow_zero, Nat.div_one]; rfl, OwnInts.nil _ _⟩, Below.refl _ _⟩
  | succ k ih =>
    intro w n hn
    have IH := Lib.hid (ih (by omega) w (n / 8) (by omega))
    clear ih
    have hlow := dig_low 8 k n
    have hdiv : n / 8 / 8 ^ k = n / 8 ^ (k + 1) := by rw [Nat.div_div_eq_div_mul, ← Nat.pow_succ']
    have HL := Lib.hid (And.intro hlow hdiv)
    clear hlow hdiv
    have hlen := dig_length 8 k (n / 8)
    generalize dig 8 k (n / 8) = D at *
    rw [show ((k + 1 : Nat) : Int) = (k : Int) + 1 by omega]
    have hq : ((n : Int) / 8) = ((n / 8 : Nat) : Int) := by omega
    have hr : ((n : Int) % 8) = ((n % 8 : Nat) : Int) := by omega
    have hk0 : ¬ ((k : Int) + 1 = 0) := by omega
    have hk0' : ((k : Int) + 1 == 0) = false := beq_eq_false_iff_ne.2 hk0
    generalize n / 8 = q at *
    go_enter Tryd.func41, Tryd.ntmps41
    go_wp2_with fail
    refine IH.out.mono ?_
    rintro e w1 ⟨⟨v1, rfl, O1⟩, K1⟩
    have z1 : w.heap.size ≤ w1.heap.size := K1.out.size
    clear IH
    go_wp2_with (first | ((with_reducible refine build_int ?_ (.tmp 26) ?_ ((n % 8 : Nat) : Int) ?_ ?_); rfl; rfl; go_must (rfl; simp only [Act.put, List.setIfInBounds_toArray, List.set_cons_succ, List.set_cons_zero])) | ((at_builtin; with_reducible refine append_int ?_ (.tmp 23) (.tmp 27) ?_ w.heap.size v1 D ?_ (O1.out.kept (kept_alloc _ _) (fun _ _ h => h)) ⟨w1.heap.size, 0, none⟩ (n % 8) ?_ ?_ ?_ ?_ ?_); rfl; rfl; go_must (rfl; rfl; exact (Row.at_ w1 _ [vI (n % 8)] rfl rfl).cell rfl; omega; (simp; omega); intro v2 w2 O2 K2; simp only [Act.put, List.setIfInBounds_toArray, List.set_cons_succ, List.set_cons_zero])))
    go_ret2
    exact ⟨⟨_, by rw [← HL.out.2]; rfl, by rw [HL.out.1]; exact O2⟩, Lib.hid (K1.out.trans (((Below.refl _ w1).alloc z1 _).trans (K2.out.below (by simp; omega) (fun k hk h => by have := h.1; omega))))⟩

set_option maxRecDepth 100000 in
set_option maxHeartbeats 2000000 in
theorem digits256 (k : Nat) (hk : k ≤ 20) : ∀ (w : World) (n : Nat), n ≤ 4611686018427387904 →
    Calls Tryd.prog 41 #[.int .i64 n, .int .i64 256, .int .i64 k] w fun e w' => (∃ v, e = .returned (.tuple #[v, .int .i64 ((n / 256 ^ k : Nat) : Int)]) ∧ Hid (OwnInts w' w.heap.size v (dig 256 k n))) ∧ Hid (Below w.heap.size w w') := by
  induction k with
  | zero =>
    intro w n hn
    go_enter Tryd.func41, Tryd.ntmps41
    go_wp2_with fail
    go_ret2
    exact ⟨⟨_, by rw [Nat.pow_zero, Nat.div_one]; rfl, OwnInts.nil _ _⟩, Below.refl _ _⟩
  | succ k ih =>
    intro w n hn
    have IH := Lib.hid (ih (by omega) w (n / 256) (by omega))
    clear ih
    have hlow := dig_low 256 k n
    have hdiv : n / 256 / 256 ^ k = n / 256 ^ (k + 1) := by rw [Nat.div_div_eq_div_mul, ← Nat.pow_succ']
    have HL := Lib.hid (And.intro hlow hdiv)
    clear hlow hdiv
    have hlen := dig_length 256 k (n / 256)
    generalize dig 256 k (n / 256) = D at *
    rw [show ((k + 1 : Nat) : Int) = (k : Int) + 1 by omega]
    have hq : ((n : Int) / 256) = ((n / 256 : Nat) : Int) := by omega
    have hr : ((n : Int) % 256) = ((n % 256 : Nat) : Int) := by omega
    have hk0 : ¬ ((k : Int) + 1 = 0) := by omega
    have hk0' : ((k : Int) + 1 == 0) = false := beq_eq_false_iff_ne.2 hk0
    generalize n / 256 = q at *
    go_enter Tryd.func41, Tryd.ntmps41
    go_wp2_with fail
    refine IH.out.mono ?_
    rintro e w1 ⟨⟨v1, rfl, O1⟩, K1⟩
    have z1 : w.heap.size ≤ w1.heap.size := K1.out.size
    clear IH
    go_wp2_with (first | ((with_reducible refine build_int ?_ (.tmp 26) ?_ ((n % 256 : Nat) : Int) ?_ ?_); rfl; rfl; go_must (rfl; simp only [Act.put, List.setIfInBounds_toArray, List.set_cons_succ, List.set_cons_zero])) | ((at_builtin; with_reducible refine append_int ?_ (.tmp 23) (.tmp 27) ?_ w.heap.size v1 D ?_ (O1.out.kept (kept_alloc _ _) (fun _ _ h => h)) ⟨w1.heap.size, 0, none⟩ (n % 256) ?_ ?_ ?_ ?_ ?_); rfl; rfl; go_must (rfl; rfl; exact (Row.at_ w1 _ [vI (n % 256)] rfl rfl).cell rfl; omega; (simp; omega); intro v2 w2 O2 K2; simp only [Act.put, List.setIfInBounds_toArray, List.set_cons_succ, List.set_cons_zero])))
    go_ret2
    exact ⟨⟨_, by rw [← HL.out.2]; rfl, by rw [HL.out.1]; exact O2⟩, Lib.hid (K1.out.trans (((Below.refl _ w1).alloc z1 _).trans (K2.out.below (by simp; omega) (fun k hk h => by have := h.1; omega))))⟩

theorem OwnBytes.less {w : World} {B B' : Nat} {v : Value} {bs : List UInt8} (h : OwnBytes w B v bs) (hB : B' ≤ B) : OwnBytes w B' v bs := by
  obtain ⟨hl, h1 | ⟨g, cap, cur, rfl, hg, hh, hn, hc, hs, ht⟩⟩ := h
  · exact ⟨hl, .inl h1⟩
  · exact ⟨hl, .inr ⟨g, cap, cur, rfl, by omega, hh, hn, hc, hs, ht⟩⟩
structure RwAt (w1 wr : World) (L : List UInt8) (v : Value) : Prop where
  own : OwnBytes wr w1.heap.size v L
  kept : Kept w1 wr (fun _ => False)
theorem RwAt.grow {w1 wr w2 : World} {L M : List UInt8} {v v' : Value} {o : Obj} (h : RwAt w1 wr L v) (O : OwnBytes w2 w1.heap.size v' (L ++ M)) (K : Kept (wr.alloc o) w2 (fun k => w1.heap.size ≤ k ∧ v.ownBlock = some k)) : RwAt w1 w2 (L ++ M) v' :=
  ⟨O, kept_own (kept_trans h.kept (kept_alloc wr _)) K (Nat.le_refl _)⟩
theorem take_snoc' {l : List Nat} {j : Nat} (f : Nat → UInt8) (h : j < l.length) : (l.take (j + 1)).map f = (l.take j).map f ++ [f l[j]] := by rw [List.take_add_one, List.getElem?_eq_getElem h, List.map_append]; rfl

set_option maxRecDepth 100000 in
set_option maxHeartbeats 8000000 in
theorem rwrite_nat (w : World) (n t : Nat) (hn : n ≤ 4611686018427387904) (ht0 : 1 ≤ t) (ht : t ≤ 11) :
    Calls Tryd.prog 32 #[.int .i64 n, .int .i64 ((t : Int) + 1)] w fun e w' => (∃ v, e = .returned (.tuple #[v, .bool (writeF n (t + 1)).isSome]) ∧ Hid (OwnBytes w' w.heap.size v ((writeF n (t + 1)).getD []))) ∧ Hid (Below w.heap.size w w') := by
  have hF : writeF n (t + 1) = if n < 8 ^ t then some (up (dig 8 t n) ++ [0]) else if n < 256 ^ t then some (128 :: by8 (dig 256 t n)) else none := if_pos ⟨by unfold big; omega, by omega, by omega⟩
  have HF := Lib.hid hF
  clear hF
  have hs2 : (2 : Int) ≤ (t : Int) + 1 := by omega
  have hs12 : (t : Int) + 1 ≤ 12 := by omega
  have d8 := digits8 t (by omega) w n hn
  have l8 := dig_length 8 t n
  have b8 := dig_lt 8 (by decide) t n
  have q8 := div_zero_iff n 8 t (by decide)
  generalize n / 8 ^ t = q at d8 q8
  generalize hD : dig 8 t n = D at d8 l8 b8
  have D8 := Lib.hid d8
  have B8 := Lib.hid b8
  have HD := Lib.hid hD
  clear d8 b8 hD
  have ht1 : ((t : Int) + 1 - 1) = (t : Int) := by omega
  go_enter Tryd.func32, Tryd.ntmps32
  go_wp2_with fail
  refine D8.out.mono ?_
  rintro e w1 ⟨⟨v1, rfl, O1⟩, K1⟩
  have z1 : w.heap.size ≤ w1.heap.size := K1.out.size
  clear D8
  by_cases h8 : n < 8 ^ t
  · obtain rfl : q = 0 := q8.2 h8
    have HF2 := Lib.hid (HF.out.trans (if_pos h8))
    clear HF h8 q8
    obtain ⟨g, c, rfl, hc, hg, hcells⟩ := O1.out.at_ (by omega)
    rw [l8] at hc ⊢
    have HC := Lib.hid hcells
    clear hcells
    have H0 : Hid (RwAt w1 w1 (up (D.take 0)) (.slice none 0 0)) := Lib.hid ⟨OwnBytes.nil _ _, Kept.refl _ _⟩
    go_wp2_with fail
    go_loopw [8, 9] (fun v i wr => ∃ (j : Nat) (A : Option Addr) (m c : Nat), j ≤ t ∧ v = .slice A m c ∧ i = .int .i64 j ∧ Hid (RwAt w1 wr (up (D.take j)) (.slice A m c))) (fun _ i _ => t - (intOf i).toNat)
    case atStart => exact ⟨0, _, _, _, Nat.zero_le _, rfl, rfl, H0⟩
    case round =>
      obtain ⟨j, A0, m0, c0, hj, rfl, rfl, hs⟩ := hrel
      by_cases hlt : j < t
      · have hcell : wr.cell? ⟨g, j, none⟩ = some (.int .i64 (D[j] : Nat)) := hs.out.kept.cell (HC.out j (by omega)) (fun h => h)
        have hx8 : D[j] < 8 := B8.out _ (List.getElem_mem _)
        have HX := Lib.hid (take_snoc' (fun x => UInt8.ofNat (48 + x)) (show j < D.length by omega))
        generalize D[j] = x at *
        have HB : Hid (#[Value.int .u8 (48 + (x : Int))] = (([UInt8.ofNat (48 + x)] : List UInt8).map v8).toArray) := Lib.hid (by rw [← up_ok x hx8]; rfl)
        have hx' : (x : Int) < 8 := by omega
        have hlt' : (j : Int) < (t : Int) := by omega
        have zr := hs.out.kept.size
        go_wp2_with ((at_builtin; with_reducible refine append_bytes ?_ (.tmp 41) (.tmp 48) ?_ w1.heap.size (.slice A0 m0 c0) (up (D.take j)) ?_ (hs.out.own.kept (kept_alloc _ _) (fun _ _ h => h)) (some ⟨wr.heap.size, 0, none⟩) 1 1 [UInt8.ofNat (48 + x)] ?_ ?_ ?_ ?_ ?_ ?_); rfl; rfl; go_must (rfl; rfl; exact BytesAt.const wr [UInt8.ofNat (48 + x)] _ _ HB.out rfl; (intro e; cases e); (simp [up, by8]; omega); (simp; omega); intro v2 w2 O2 K2; simp only [Act.put, List.setIfInBounds_toArray, List.set_cons_succ, List.set_cons_zero]))
        obtain ⟨A2, c2, rfl, _⟩ := O2.out.bytes
        go_roundw
        case rel => exact ⟨j + 1, _, _, _, by omega, rfl, by go_num, Lib.hid (by rw [show up (D.take (j + 1)) = up (D.take j) ++ [UInt8.ofNat (48 + x)] from HX.out]; exact hs.out.grow O2.out K2.out)⟩
        case measure => simp [intOf] <;> omega
      · obtain rfl : j = t := by omega
        have hge : ¬ (j : Int) < (j : Int) := by omega
        have hfull : D.take j = D := List.take_of_length_le (by omega)
        rw [hfull] at hs
        have zr := hs.out.kept.size
        go_wp2_with ((at_builtin; with_reducible refine append_bytes ?_ (.tmp 50) (.tmp 51) ?_ w1.heap.size (.slice A0 m0 c0) (up D) ?_ (hs.out.own.kept (kept_alloc _ _) (fun _ _ h => h)) (some ⟨wr.heap.size, 0, none⟩) 1 1 [0] ?_ ?_ ?_ ?_ ?_ ?_); rfl; rfl; go_must (rfl; rfl; exact BytesAt.const wr [0] _ _ rfl rfl; (intro e; cases e); (simp [up, by8]; omega); (simp; omega); intro v2 w2 O2 K2; simp only [Act.put, List.setIfInBounds_toArray, List.set_cons_succ, List.set_cons_zero]))
        go_ret2
        exact ⟨⟨_, by rw [HF2.out]; rfl, by rw [HF2.out, HD.out]; exact Lib.hid (O2.out.less z1)⟩, Lib.hid (K1.out.trans ((hs.out.grow O2.out K2.out).kept.below z1 (fun _ _ h => h)))⟩
  · have hq : ¬ q = 0 := fun h => h8 (q8.1 h)
    have HF2 := Lib.hid (HF.out.trans (if_neg h8))
    clear HF h8 q8 HD B8 O1
    have hq' : ((q : Int) == 0) = false := beq_eq_false_iff_ne.2 (by omega)
    have d8 := digits256 t (by omega) w1 n hn
    have l8 := dig_length 256 t n
    have b8 := dig_lt 256 (by decide) t n
    have q8 := div_zero_iff n 256 t (by decide)
    generalize n / 256 ^ t = q2 at d8 q8
    generalize hD : dig 256 t n = E at d8 l8 b8
    have D8 := Lib.hid d8
    have B8 := Lib.hid b8
    have HD := Lib.hid hD
    clear d8 b8 hD
    go_wp2_with fail
    refine D8.out.mono ?_
    rintro e w2 ⟨⟨v2, rfl, O2⟩, K2⟩
    have KK : Hid (Below w.heap.size w w2) := Lib.hid (K1.out.trans (K2.out.mono z1))
    have z2 : w.heap.size ≤ w2.heap.size := KK.out.size
    clear D8 K1 K2 z1
    by_cases h256 : n < 256 ^ t
    · obtain rfl : q2 = 0 := q8.2 h256
      have HF3 := Lib.hid (HF2.out.trans (if_pos h256))
      clear HF2 h256 q8
      obtain ⟨g, c, rfl, hc, hg, hcells⟩ := O2.out.at_ (by omega)
      rw [l8] at hc ⊢
      have HC := Lib.hid hcells
      clear hcells
      have H0 : Hid (RwAt w2 (w2.alloc (.cells #[.int .u8 128] 5)) (128 :: by8 (E.take 0)) (.slice (some ⟨w2.heap.size, 0, none⟩) 1 1)) := Lib.hid ⟨OwnBytes.row (bs := [128]) (Row.at_ w2 5 [v8 128] rfl rfl) (Nat.le_refl _) (by decide), kept_alloc _ _⟩
      go_wp2_with fail
      go_loopw [10, 11] (fun v i wr => ∃ (j : Nat) (A : Option Addr) (m c : Nat), j ≤ t ∧ v = .slice A m c ∧ i = .int .i64 j ∧ Hid (RwAt w2 wr (128 :: by8 (E.take j)) (.slice A m c))) (fun _ i _ => t - (intOf i).toNat)
      case atStart => exact ⟨0, _, _, _, Nat.zero_le _, rfl, rfl, H0⟩
      case round =>
        obtain ⟨j, A0, m0, c0, hj, rfl, rfl, hs⟩ := hrel
        by_cases hlt : j < t
        · have hcell : wr.cell? ⟨g, j, none⟩ = some (.int .i64 (E[j] : Nat)) := hs.out.kept.cell (HC.out j (by omega)) (fun h => h)
          have hx8 : E[j] < 256 := B8.out _ (List.getElem_mem _)
          have HX := Lib.hid (take_snoc' UInt8.ofNat (show j < E.length by omega))
          generalize E[j] = x at *
          have HB : Hid (#[Value.int .u8 (x : Int)] = (([UInt8.ofNat x] : List UInt8).map v8).toArray) := Lib.hid (by
            have h := by_ok x
            rw [Nat.mod_eq_of_lt hx8] at h
            rw [show ((x : Int) % 256) = (x : Int) by omega] at h
            rw [← h]; rfl)
          have hx' : (x : Int) < 256 := by omega
          have hlt' : (j : Int) < (t : Int) := by omega
          have zr := hs.out.kept.size
          go_wp2_with ((at_builtin; with_reducible refine append_bytes ?_ (.tmp 69) (.tmp 75) ?_ w2.heap.size (.slice A0 m0 c0) (128 :: by8 (E.take j)) ?_ (hs.out.own.kept (kept_alloc _ _) (fun _ _ h => h)) (some ⟨wr.heap.size, 0, none⟩) 1 1 [UInt8.ofNat x] ?_ ?_ ?_ ?_ ?_ ?_); rfl; rfl; go_must (rfl; rfl; exact BytesAt.const wr [UInt8.ofNat x] _ _ HB.out rfl; (intro e; cases e); (simp [up, by8]; omega); (simp; omega); intro v3 w3 O3 K3; simp only [Act.put, List.setIfInBounds_toArray, List.set_cons_succ, List.set_cons_zero]))
          obtain ⟨A2, c2, rfl, _⟩ := O3.out.bytes
          go_roundw
          case rel => exact ⟨j + 1, _, _, _, by omega, rfl, by go_num, Lib.hid (by rw [show 128 :: by8 (E.take (j + 1)) = (128 :: by8 (E.take j)) ++ [UInt8.ofNat x] from congrArg (List.cons 128) HX.out]; exact hs.out.grow O3.out K3.out)⟩
          case measure => simp [intOf] <;> omega
        · obtain rfl : j = t := by omega
          have hge : ¬ (j : Int) < (j : Int) := by omega
          have hfull : E.take j = E := List.take_of_length_le (by omega)
          rw [hfull] at hs
          go_wp2_with fail
          go_ret2
          exact ⟨⟨_, by rw [HF3.out]; rfl, by rw [HF3.out, HD.out]; exact Lib.hid (hs.out.own.less z2)⟩, Lib.hid (KK.out.trans (hs.out.kept.below z2 (fun _ _ h => h)))⟩
    · have hq2 : ¬ q2 = 0 := fun h => h256 (q8.1 h)
      have HF3 := Lib.hid (HF2.out.trans (if_neg h256))
      clear HF2 h256 q8
      have hq2' : ((q2 : Int) == 0) = false := beq_eq_false_iff_ne.2 (by omega)
      have hq2'' : ((q2 : Int) != 0) = true := bne_iff_ne.2 (by omega)
      go_wp2_with fail
      go_ret2
      exact ⟨⟨_, by rw [HF3.out]; rfl, by rw [HF3.out]; exact Lib.hid (OwnBytes.nil _ _)⟩, KK⟩

set_option maxRecDepth 100000 in
set_option maxHeartbeats 1000000 in
theorem rwrite_none (w : World) (n s : Int) (h : n < 0 ∨ n > 4611686018427387904 ∨ s < 2 ∨ s > 12) :
    Calls Tryd.prog 32 #[.int .i64 n, .int .i64 s] w fun e w' => e = .returned (.tuple #[.slice none 0 0, .bool false]) ∧ w' = w := by
  by_cases h1 : n < 0
  · go_enter Tryd.func32, Tryd.ntmps32
    go_wp2_with fail
    go_ret2
    exact ⟨rfl, rfl⟩
  by_cases h2 : n > 4611686018427387904
  · go_enter Tryd.func32, Tryd.ntmps32
    go_wp2_with fail
    go_ret2
    exact ⟨rfl, rfl⟩
  by_cases h3 : s < 2
  · go_enter Tryd.func32, Tryd.ntmps32
    go_wp2_with fail
    go_ret2
    exact ⟨rfl, rfl⟩
  have h4 : s > 12 := by omega
  go_enter Tryd.func32, Tryd.ntmps32
  go_wp2_with fail
  go_ret2
  exact ⟨rfl, rfl⟩
theorem rwrite_any (w : World) (n s : Int) :
    Calls Tryd.prog 32 #[.int .i64 n, .int .i64 s] w fun e w' => (∃ v, e = .returned (.tuple #[v, .bool (writeZ n s).isSome]) ∧ Hid (OwnBytes w' w.heap.size v ((writeZ n s).getD []))) ∧ Hid (Below w.heap.size w w') := by
  by_cases h : n < 0 ∨ n > 4611686018427387904 ∨ s < 2 ∨ s > 12
  · rw [writeZ_none n s h]
    exact (rwrite_none w n s h).mono fun e w' ⟨he, hw⟩ => ⟨⟨_, he, Lib.hid (OwnBytes.nil _ _)⟩, by rw [hw]; exact Lib.hid (Below.refl _ _)⟩
  · obtain ⟨N, rfl⟩ := Int.eq_ofNat_of_zero_le (show 0 ≤ n by omega)
    obtain ⟨t, rfl⟩ : ∃ t : Nat, s = (t : Int) + 1 := ⟨(s - 1).toNat, by omega⟩
    have := rwrite_nat w N t (by omega) (by omega) (by omega)
    rw [show ((t : Int) + 1) = ((t + 1 : Nat) : Int) by omega] at this ⊢
    rw [writeZ_nat]
    exact this
end Go.Proofs.YthakeahpaogikaaDoor
