/-
  Layer 12: the small case; no program is named here.
-/
import Derived.Test.YtfgflgifffjdgaaGreatDoorJoPl
namespace Go.Proofs.YtfgflgifffjdgaaGreatDoor
open Go
namespace Jo
open Jt Js
set_option maxRecDepth 100000

theorem one_num {d : Nat} {o : Bool} {key t : List UInt8} (hd : d < 50) (ho : o = false → key = []) (hk : validF key = true) (h0 : t ≠ []) (h : numF t = t.length) : One d o ⟨3, key, t, 0⟩ [] [] :=
  ⟨⟨ho, hk, .inr (.inl ⟨rfl, h0, h, rfl⟩)⟩, hd, [], .nil _ _, rfl, fun e => by cases e⟩
theorem one_str {d : Nat} {o : Bool} {key t : List UInt8} (hd : d < 50) (ho : o = false → key = []) (hk : validF key = true) (h : validF t = true) : One d o ⟨4, key, t, 0⟩ [] [] :=
  ⟨⟨ho, hk, .inr (.inr (.inl ⟨rfl, h, rfl⟩))⟩, hd, [], .nil _ _, rfl, fun e => by cases e⟩
theorem one_list {d n : Nat} {o : Bool} {key : List UInt8} {P : List (List V)} {ks : List (List UInt8)} (hd : d < 50) (ho : o = false → key = []) (hk : validF key = true) (hp : Parts (d + 1) false ks P) (hn : P.length = n) : ∃ t, One d o ⟨5, key, [], n⟩ P.flatten t := by
  obtain ⟨t, ht⟩ := hp.rows
  refine ⟨t, ⟨ho, hk, .inr (.inr (.inr ⟨.inl rfl, rfl, by show (0 : Int) ≤ (n : Int); omega⟩))⟩, hd, ks, ht, ?_, fun e => by cases e⟩
  show (ks.length : Int) = (n : Int)
  rw [← hp.len, hn]
theorem right_one {v : V} {l : List V} {t : List UInt8} (h : One 0 false v l t) (hl : (v :: l).length ≤ 5000) : rightPF (v :: l) = true := by
  have hr := h.rows
  rw [h.own.1 rfl] at hr
  exact (prog_is _).2 ⟨_, hl, hr⟩
def m5 : List V := [⟨3, [], [45, 53], 0⟩]
def i1 : List V := [⟨3, [], [49], 0⟩]
def sx : List V := [⟨4, [], [120], 0⟩]
def sy : List V := [⟨4, [], [121], 0⟩]
def L2 : List V := [⟨5, [], [], 2⟩, ⟨4, [], [120], 0⟩, ⟨3, [], [49], 0⟩]
def E0 : List V := [⟨5, [], [], 0⟩]
def O : List V := [⟨6, [], [], 2⟩, ⟨3, [97], [45, 53], 0⟩, ⟨5, [98], [], 2⟩, ⟨4, [], [120], 0⟩, ⟨3, [], [49], 0⟩]
def D : List V := [⟨6, [], [], 2⟩, ⟨4, [97], [121], 0⟩, ⟨5, [98], [], 2⟩, ⟨4, [], [120], 0⟩, ⟨3, [], [49], 0⟩]
def E : List V := [⟨6, [], [], 3⟩, ⟨3, [97], [45, 53], 0⟩, ⟨5, [98], [], 2⟩, ⟨4, [], [120], 0⟩, ⟨3, [], [49], 0⟩, ⟨5, [99], [], 0⟩]
def F : List V := [⟨6, [], [], 1⟩, ⟨3, [97], [45, 53], 0⟩]
theorem t_m5 : textF (-5) = [45, 53] := by
  unfold textF
  rw [if_pos (by decide), show (-5 : Int).natAbs = 5 from rfl, nat_low (by decide)]
  rfl
theorem t_i1 : textF 1 = [49] := by
  unfold textF
  rw [if_neg (by decide), show (1 : Int).natAbs = 1 from rfl, nat_low (by decide)]
  rfl
theorem f_x : fixF [120] = [120] := fix_same _ (valid_sign (by decide))
theorem f_y : fixF [121] = [121] := fix_same _ (valid_sign (by decide))
theorem v_a : validF [97] = true := valid_sign (by decide)
theorem v_b : validF [98] = true := valid_sign (by decide)
theorem v_c : validF [99] = true := valid_sign (by decide)
theorem r_m5 : rightPF m5 = true := right_one (one_num (by decide) (fun _ => rfl) valid_nil (by decide) (by decide)) (by decide)
theorem r_i1 : rightPF i1 = true := right_one (one_num (by decide) (fun _ => rfl) valid_nil (by decide) (by decide)) (by decide)
theorem r_sx : rightPF sx = true := right_one (one_str (by decide) (fun _ => rfl) valid_nil (valid_sign (by decide))) (by decide)
theorem r_sy : rightPF sy = true := right_one (one_str (by decide) (fun _ => rfl) valid_nil (valid_sign (by decide))) (by decide)
theorem p_L2 (d : Nat) (h : d < 50) : Parts d false [[], []] [sx, i1] :=
  .cons (one_str h (fun _ => rfl) valid_nil (valid_sign (by decide))) (.cons (one_num h (fun _ => rfl) valid_nil (by decide) (by decide)) .nil)
theorem r_L2 : rightPF L2 = true := by
  obtain ⟨t, h⟩ := one_list (d := 0) (o := false) (key := []) (n := 2) (by decide) (fun _ => rfl) valid_nil (p_L2 1 (by decide)) rfl
  exact right_one h (by decide)
theorem r_E0 : rightPF E0 = true := by
  obtain ⟨t, h⟩ := one_list (d := 0) (o := false) (key := []) (n := 0) (by decide) (fun _ => rfl) valid_nil (Parts.nil (d := 1) (o := false)) rfl
  exact right_one h (by decide)
def P0 : List (List V) := [[⟨3, [97], [45, 53], 0⟩], [⟨5, [98], [], 2⟩, ⟨4, [], [120], 0⟩, ⟨3, [], [49], 0⟩]]
theorem o_a : One 1 true ⟨3, [97], [45, 53], 0⟩ [] [] := one_num (by decide) (fun e => by cases e) v_a (by decide) (by decide)
theorem o_b : ∃ t, One 1 true ⟨5, [98], [], 2⟩ [⟨4, [], [120], 0⟩, ⟨3, [], [49], 0⟩] t := one_list (n := 2) (by decide) (fun e => by cases e) v_b (p_L2 2 (by decide)) rfl
theorem r_O : rightPF O = true := by
  obtain ⟨t, hb⟩ := o_b
  exact whole_right (v := ⟨6, [], [], 2⟩) (P := P0) (own_obj 2) (.cons o_a (.cons hb .nil)) rfl (fun _ => by decide) (by decide)
theorem r_D : rightPF D = true := by
  obtain ⟨t, hb⟩ := o_b
  exact whole_right (v := ⟨6, [], [], 2⟩) (P := [[⟨4, [97], [121], 0⟩], [⟨5, [98], [], 2⟩, ⟨4, [], [120], 0⟩, ⟨3, [], [49], 0⟩]]) (own_obj 2) (.cons (one_str (by decide) (fun e => by cases e) v_a (valid_sign (by decide))) (.cons hb .nil)) rfl (fun _ => by decide) (by decide)
theorem r_E : rightPF E = true := by
  obtain ⟨t, hb⟩ := o_b
  obtain ⟨t2, hc⟩ := one_list (d := 1) (o := true) (key := [99]) (n := 0) (by decide) (fun e => by cases e) v_c (Parts.nil (d := 2) (o := false)) rfl
  exact whole_right (v := ⟨6, [], [], 3⟩) (P := [[⟨3, [97], [45, 53], 0⟩], [⟨5, [98], [], 2⟩, ⟨4, [], [120], 0⟩, ⟨3, [], [49], 0⟩], [⟨5, [99], [], 0⟩]]) (own_obj 3) (.cons o_a (.cons hb (.cons hc .nil))) rfl (fun _ => by decide) (by decide)
theorem is_O : ObjIs O P0 := ObjIs.of (P := P0) (n := 2) rfl r_O (by unfold Ends P0; decide)
theorem all_two {a b : List V} (ha : rightPF a = true) (hb : rightPF b = true) : [a, b].all rightPF = true := by
  show (rightPF a && (rightPF b && true)) = true
  rw [ha, hb]
  rfl
theorem a_L2 : listA [sx, i1] = L2 := by
  unfold listA fineF
  rw [if_pos (all_two r_sx r_i1), if_pos (show rightPF (listF [sx, i1]) = true from r_L2)]
  rfl
theorem a_E0 : listA [] = E0 := by
  unfold listA fineF
  rw [if_pos (show ([] : List (List V)).all rightPF = true from rfl), if_pos (show rightPF (listF []) = true from r_E0)]
  rfl
theorem a_O : objA [[97], [98]] [m5, L2] = O := by
  unfold objA fineF
  rw [if_pos ⟨all_two r_m5 r_L2, rfl⟩, if_pos (show rightPF (objF [[97], [98]] [m5, L2]) = true from r_O)]
  rfl
theorem g_b : getA O 0 [98] = some 2 := by rw [is_O.get]; rfl
theorem g_a : getA O 0 [97] = some 1 := by rw [is_O.get]; rfl
theorem g_c : getA O 0 [99] = none := by rw [is_O.get]; rfl
theorem g_x : getA O 0 [120] = none := by rw [is_O.get]; rfl
theorem at_O {a : Int} (h : 0 ≤ a ∧ a < 5) : placeB O a = true := by
  unfold placeB
  rw [r_O, Bool.and_true]
  exact decide_eq_true h
theorem g_2 : getA O 2 [] = none := by
  unfold getA
  rw [if_neg (fun h => absurd h.2 (by decide))]
theorem i_b : itemA O 2 1 = some 4 := by
  unfold itemA
  rw [if_pos ⟨at_O (by decide), by decide, by decide⟩]
  rfl
theorem i_0 : itemA [] 0 0 = none := by
  unfold itemA
  rw [if_neg (fun h => absurd h.2 (by decide))]
theorem c_b : cutA O 2 = L2 := by
  unfold cutA
  rw [if_pos (at_O (by decide))]
  rfl
theorem s_D : setA O [97] sy = D := by
  have hs : setF O [97] sy = D := by
    unfold setF
    rw [g_a]
    rfl
  unfold setA fineF
  rw [if_pos ⟨is_O.isO, r_sy⟩, hs, if_pos r_D]
theorem s_E : setA O [99] E0 = E := by
  have hs : setF O [99] E0 = E := by
    unfold setF
    rw [g_c]
    rfl
  unfold setA fineF
  rw [if_pos ⟨is_O.isO, r_E0⟩, hs, if_pos r_E]
theorem d_F : dropA O [98] = F := by
  unfold dropA
  rw [if_pos is_O.isO, g_b]
  rfl
theorem a_G : objA [[97], [97]] [i1, i1] = [] := by
  unfold objA fineF
  rw [if_pos ⟨all_two r_i1 r_i1, rfl⟩]
  split
  next h =>
    have hO : ObjIs (objF [[97], [97]] [i1, i1]) [[⟨3, [97], [49], 0⟩], [⟨3, [97], [49], 0⟩]] := ObjIs.of (n := 2) rfl h (by unfold Ends; decide)
    exact absurd hO.nodup (by decide)
  next h => rfl
end Jo
end Go.Proofs.YtfgflgifffjdgaaGreatDoor
