/-
  The law OctalSum: its walk.
-/
import Derived.Test.YtddjkgikhfncnaaDoorOcSmall
import Derived.Deep.CutBlock
import Derived.Lib.QuietBelow
import Derived.StillTailTactics
namespace Go.Proofs.YtddjkgikhfncnaaDoor
open Go.RowKit Sh Oc

theorem copy_bytes {w : World} {ops : Array Oper} {rest : List Oper} {o : Oper} {a : Act} {Q : Exit → Act → World → Prop} (hgd : o.guard = none) (d s : Operand)
    (ho : o.op = .call { callee := .builtin .copy, args := #[d, s], argTypes := #[22, 22] }) (g n : Nat) (L : List UInt8) (hd : a.eval d = .slice (some ⟨g, 0, none⟩) n n) (hg : Row w g 5 (L.map v8)) (hL : L.length = n)
    (A : Option Addr) (sl sc : Nat) (bs : List UInt8) (hs : a.eval s = .slice A sl sc) (hsrc : BytesAt w A sl sc bs) (hle : sl ≤ n)
    (h : ∀ w', Hid (Row w' g 5 ((bs ++ L.drop sl).map v8)) → Hid (Kept w w' (· = g)) → wpList Tryd.prog ops Q rest (a.put o.dst (goInt sl)) w') : wpList Tryd.prog ops Q (o :: rest) a w := by
  have hlen := hsrc.len
  refine wpList_copy_kept hgd d s 22 22 ho 5 Tryd.underlying22 (by kernel_rfl) (some ⟨g, 0, none⟩) A n n sl sc hd hs g 0 (L.map v8) 5 hg (bs.map v8) ?_ ?_ ?_ ?_ (fun w' R K => ?_)
  · rw [List.length_map, hlen]; exact (Nat.min_eq_left hle).symm
  · intro h0
    rw [List.length_map, hlen] at h0
    obtain ⟨b, off, e, _, hr⟩ := hsrc.at_ h0
    exact ⟨rfl, _, e, fun j v hj => by rw [Addr.add_mid]; exact hr j v hj⟩
  · rw [List.length_map, List.length_map, hlen, hL]; omega
  · intro v hv
    obtain ⟨y, _, rfl⟩ := List.mem_map.1 hv
    rfl
  · rw [List.length_map, hlen]
    refine h w' ?_ K
    have e : splice (L.map v8) 0 (bs.map v8) = (bs ++ L.drop sl).map v8 := by
      unfold splice
      rw [List.take_zero, List.nil_append, List.map_append, List.map_drop, List.length_map, hlen, Nat.zero_add]
    rw [← e]
    exact R

set_option maxRecDepth 100000 in
set_option maxHeartbeats 4000000 in
theorem sum_in (w : World) (A : Option Addr) (c : Nat) (bs : List UInt8) (hc : c ≤ maxLen) (S : BytesAt w A bs.length c bs) (hn : bs.length ≤ 512) (k : Nat) (hk : k < 512) (x : UInt8) : Calls Tryd.prog 7 #[.slice A bs.length c, .int .i64 k, v8 x] w fun e w' => e = .returned (.bool true) ∧ Below w.heap.size w w' := by
  have HS := Lib.hid S
  have hcap := S.cap
  unfold maxLen at hc
  clear S
  have hn' : (bs.length : Int) ≤ 512 := by omega
  have hk' : (k : Int) < 512 := by omega
  have hk1 : (k : Int) ≤ 511 := by omega
  have x0 := n8_nonneg x
  have x1 := n8_lt x
  rw [show v8 x = .int .u8 (n8 x) from rfl]
  have hmk := make_512
  obtain ⟨Z, hZ⟩ : ∃ Z, Z = (List.replicate 512 (0 : UInt8)).map v8 := ⟨_, rfl⟩
  rw [← hZ] at hmk
  have HZ := Lib.hid hZ
  clear hZ
  have HXX := Lib.hid (show n8 x = (x.toNat : Int) from rfl)
  go_enter Tryd.func7, Tryd.ntmps7
  go_wp2_with fail
  refine (small5 w).mono ?_
  rintro e w1 ⟨rfl, K1⟩
  go_upto_region 5 with fail
  have R2 : Hid (Row (w1.alloc (.cells Z.toArray 5)) w1.heap.size 5 ((List.replicate 512 (0 : UInt8)).map v8)) := Lib.hid (by rw [← HZ.out]; exact Row.new _ _ _)
  have K2 : Hid (Below w.heap.size w (w1.alloc (.cells Z.toArray 5))) := Lib.hid (K1.out.alloc K1.out.size _)
  have Z1 := Lib.hid (show w.heap.size ≤ w1.heap.size from K1.out.size)
  generalize hw2 : w1.alloc _ = w2 at R2 K2 ⊢
  generalize w1.heap.size = g at R2 Z1 ⊢
  clear hw2 K1 hmk
  go_upto_region 6 with ((with_reducible refine copy_bytes ?_ (.tmp 25) (.tmp 26) ?_ g 512 (List.replicate 512 0) ?_ R2.out ?_ A bs.length c bs ?_ (HS.out.below (K2.out)) ?_ ?_); rfl; rfl; go_must (rfl; rfl; rfl; omega; intro w3 R3 K3))
  have hX : (bs ++ (List.replicate 512 (0 : UInt8)).drop bs.length).length = 512 := by simp; omega
  have KK := Lib.hid (K2.out.trans (K3.out.below K2.out.size (fun i hi h => by have := Z1.out; omega)))
  generalize bs ++ (List.replicate 512 (0 : UInt8)).drop bs.length = X at R3 hX
  clear R2 K2 K3
  have Y3 : Hid (BytesAt w3 (some ⟨g, 0, none⟩) 512 512 X) := Lib.hid (by have h := BytesAt.row R3.out; rwa [hX] at h)
  have hcell := R3.out.cell (i := k) (v := .int .u8 (n8 (X[k]'(by omega)))) (by rw [List.getElem?_map, List.getElem?_eq_getElem (by omega)]; rfl)
  have hfz := R3.out.frozen k
  have hset := ck_set X k x (by omega) 512
  have hgd : X.getD k 0 = X[k]'(by omega) := by simp [List.getD, hX, hk]
  rw [hgd] at hset
  have l1 := ck_le X 512
  have l2 := ck_le (X.set k x) 512
  have y0 := n8_nonneg (X[k]'(by omega))
  have y1 := n8_lt (X[k]'(by omega))
  have hy : n8 (X[k]'(by omega)) = ((X[k]'(by omega)).toNat : Int) := rfl
  have hc1 : checkF X = 256 + (ck X 512 : Int) := if_pos hX
  have hc2 : checkF (X.set k x) = 256 + (ck (X.set k x) 512 : Int) := if_pos (by rw [List.length_set]; exact hX)
  have hR4 := R3.out.set k (v8 x)
  rw [← List.map_set] at hR4
  have Y4 : Hid (BytesAt (w3.setCell ⟨g, k, none⟩ (.int .u8 (n8 x))) (some ⟨g, 0, none⟩) 512 512 (X.set k x)) := Lib.hid (by have h := BytesAt.row hR4; rwa [List.length_set, hX] at h)
  have K4 : Hid (Below w.heap.size w (w3.setCell ⟨g, k, none⟩ (.int .u8 (n8 x)))) := Lib.hid (KK.out.setCell (p := ⟨g, k, none⟩) Z1.out _)
  rw [← hy] at hset
  generalize n8 (X[k]'(by omega)) = y at *
  have HC1 := Lib.hid (check_is w3 (some ⟨g, 0, none⟩) 512 512 X _ hc1 Y3.out (by decide))
  have HC2 := Lib.hid (check_is _ (some ⟨g, 0, none⟩) 512 512 (X.set k x) _ hc2 Y4.out (by decide))
  have HQ := Lib.hid hset
  generalize ck X 512 = q at *
  generalize ck (X.set k x) 512 = q2 at *
  clear hc1 hc2 hgd hy hset hX hR4 Y3 R3
  go_wp2_with fail
  refine HC1.out.mono ?_
  rintro e w4 ⟨rfl, rfl⟩
  by_cases hi : 148 ≤ k ∧ k < 156
  · have i1 : 148 ≤ (k : Int) := by omega
    have i2 : (k : Int) < 156 := by omega
    have hqq : q2 = q := by
      have h := HQ.out
      rw [if_neg (fun h => h.2 hi)] at h
      omega
    subst hqq
    go_wp2_with fail
    refine HC2.out.mono ?_
    rintro e w5 ⟨rfl, rfl⟩
    go_wp2_with fail
    go_ret
    exact ⟨rfl, K4.out⟩
  · have hqq : (q2 : Int) = q + (n8 x - y) := by
      have h := HQ.out
      rw [if_pos ⟨hk, hi⟩, ← HXX.out] at h
      exact h
    have hbeq : ((256 + ((q : Int) + (n8 x - y))) == (256 + (q : Int) + (n8 x - y))) = true := by rw [beq_iff_eq]; omega
    by_cases h1 : 148 ≤ k
    · have i1 : 148 ≤ (k : Int) := by omega
      have i2 : ¬ (k : Int) < 156 := by omega
      go_wp2_with fail
      refine HC2.out.mono ?_
      rintro e w5 ⟨rfl, rfl⟩
      go_wp2_with fail
      go_ret
      exact ⟨rfl, K4.out⟩
    · have i1 : ¬ 148 ≤ (k : Int) := by omega
      go_wp2_with fail
      refine HC2.out.mono ?_
      rintro e w5 ⟨rfl, rfl⟩
      go_wp2_with fail
      go_ret
      exact ⟨rfl, K4.out⟩

set_option maxRecDepth 100000 in
set_option maxHeartbeats 1000000 in
theorem sum_all (w : World) (A : Option Addr) (c : Nat) (bs : List UInt8) (hc : c ≤ maxLen) (S : BytesAt w A bs.length c bs) (k : Int) (x : UInt8) : Calls Tryd.prog 7 #[.slice A bs.length c, .int .i64 k, v8 x] w fun e w' => e = .returned (.bool true) ∧ Below w.heap.size w w' := by
  have hcap := S.cap
  by_cases h1 : bs.length > 512
  · have h1' : (bs.length : Int) > 512 := by omega
    unfold maxLen at hc
    rw [show v8 x = .int .u8 (n8 x) from rfl]
    go_enter Tryd.func7, Tryd.ntmps7
    go_wp2_with fail
    refine (small5 w).mono ?_
    rintro e w1 ⟨rfl, K1⟩
    go_wp2_with fail
    go_ret
    exact ⟨rfl, K1.out⟩
  by_cases h2 : k < 0
  · have h1' : (bs.length : Int) ≤ 512 := by omega
    unfold maxLen at hc
    rw [show v8 x = .int .u8 (n8 x) from rfl]
    go_enter Tryd.func7, Tryd.ntmps7
    go_wp2_with fail
    refine (small5 w).mono ?_
    rintro e w1 ⟨rfl, K1⟩
    go_wp2_with fail
    go_ret
    exact ⟨rfl, K1.out⟩
  by_cases h3 : k > 511
  · have h1' : (bs.length : Int) ≤ 512 := by omega
    unfold maxLen at hc
    rw [show v8 x = .int .u8 (n8 x) from rfl]
    go_enter Tryd.func7, Tryd.ntmps7
    go_wp2_with fail
    refine (small5 w).mono ?_
    rintro e w1 ⟨rfl, K1⟩
    go_wp2_with fail
    go_ret
    exact ⟨rfl, K1.out⟩
  obtain ⟨K, rfl⟩ := Int.eq_ofNat_of_zero_le (show 0 ≤ k by omega)
  exact sum_in w A c bs hc S (by omega) K (by omega) x
end Go.Proofs.YtddjkgikhfncnaaDoor
