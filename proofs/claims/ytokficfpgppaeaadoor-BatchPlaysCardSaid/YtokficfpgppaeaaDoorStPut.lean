/-
  Put of a store.
-/
import Derived.Test.YtokficfpgppaeaaDoorStA
import Derived.IntWalk
import Derived.BigQuiet
import Derived.Deep.QuietTactic
namespace Go.Proofs.YtokficfpgppaeaaDoor
open Go Go.RowKit Go.Maps Sh

theorem built_zero32 : Tryd.prog.built 39 [] = some (List.replicate 32 (v8 0)).toArray := by kernel_rfl

theorem StAt.added {w w' : World} {s mb : Nat} {T : List (Value × List UInt8)} {room : Nat} {Z : Nat → Prop} (h : StAt w s mb T room Z) (k : Kept w w' (stZ s mb)) {v : Value} {bs : List UInt8}
    (row : Row w' s 61 [.map (some mb), .int .i64 ((usedN T : Int) + (bs.length : Int)), .int .i64 (room : Int)]) (map : MapAt w' mb (entries T ++ [(dg bs, v)])) {B : Nat} (own : OwnBytes w' B v bs) (hB : w.heap.size ≤ B)
    (fits : usedN T + bs.length ≤ room) (few : T.length < 1000000) : StAt w' s mb (T ++ [(v, bs)]) room Z := by
  refine ⟨?_, by rw [entries, List.map_append]; exact map, fun t ht => ?_, h.zs, h.zm, h.ne, fun q hq => Nat.lt_of_lt_of_le (h.zlt q hq) k.size, h.top, by rw [usedN_add]; exact fits, by simp; omega⟩
  · rw [usedN_add]
    have e : (((usedN T + bs.length : Nat)) : Int) = (usedN T : Int) + (bs.length : Int) := by omega
    rw [e]
    exact row
  · rcases List.mem_append.1 ht with ht | ht
    · have hb := h.blob t ht
      refine ⟨hb.1.kept k (fun b e hh => hb.2 b e ?_), hb.2⟩
      rcases hh with rfl | rfl
      · exact h.zs
      · exact h.zm
    · obtain rfl : t = (v, bs) := by simpa using ht
      refine ⟨own.low (Nat.zero_le _), fun b e hz => ?_⟩
      obtain ⟨A, c, _, _, _, hu⟩ := own.bytes
      have h1 := h.zlt b hz
      obtain ⟨hl, ⟨rfl, _⟩ | ⟨g, cap, cur, rfl, hg, _⟩⟩ := own
      · cases e
      · simp only [Value.ownBlock, Option.some.injEq] at e
        omega

/-- A blob has come in. -/
def PutNew (w : World) (s mb : Nat) (T : List (Value × List UInt8)) (room : Nat) (Z : Nat → Prop) (bs : List UInt8) (e : Ending) (w' : World) : Prop :=
  ∃ v, e = .returned (.tuple #[digV (dg bs), .int .i64 0]) ∧ Hid (StAt w' s mb (T ++ [(v, bs)]) room Z) ∧ Hid (Kept w w' (stZ s mb))

/-- The bytes of a digest of zeros. -/
def zeroD : Value := .agg (List.replicate 32 (v8 0)).toArray

set_option maxRecDepth 100000 in
set_option maxHeartbeats 4000000 in
theorem sput_there {w : World} {s mb : Nat} {T : List (Value × List UInt8)} {room : Nat} {Z : Nat → Prop} (h : StAt w s mb T room Z) (A : Option Addr) (c : Nat) (bs : List UInt8) (hK : KT w) (S : BytesAt w A bs.length c bs) (hA : A = none → c = 0) (hlen : bs.length ≤ 549755813888) (hh : hasE (entries T) (dg bs) = true) :
    Calls Tryd.prog 19 #[.pointer (some ⟨s, 0, none⟩), .slice A bs.length c] w fun e w' => e = .returned (.tuple #[digV (dg bs), .int .i64 0]) ∧ Hid (StAt w' s mb T room Z) ∧ Hid (Kept w w' (fun _ => False)) := by
  have hDl : ((digest bs).map v8).length = 32 := rfl
  have hD1 := oneCell_map v8 (fun _ => rfl) (digest bs)
  have hof : ∀ V, KT V → BytesAt V A bs.length c bs → Calls Tryd.prog 34 #[.slice A bs.length c] V fun e w' => e = .returned (.agg ((digest bs).map v8).toArray) ∧ Below V.heap.size V w' := fun V h1 h2 => of_any V A bs.length c bs h1 h2 hlen
  have hhas : ∀ V, StAt V s mb T room Z → Calls Tryd.prog 30 #[.pointer (some ⟨s, 0, none⟩), .agg ((digest bs).map v8).toArray] V fun e w' => e = .returned (.bool true) ∧ Hid (Kept V w' (fun _ => False)) := fun V hV => by
    have := shas_any hV (dg bs)
    rw [hh] at this
    exact this
  have hZl : (List.replicate 32 (v8 0)).length = 32 := rfl
  have hZ1 : (List.replicate 32 (v8 0)).toArray.all (·.oneCell') = true := by
    have := oneCell_map v8 (fun _ => rfl) (List.replicate 32 0)
    rwa [List.map_replicate] at this
  have hr0 : Row (w.alloc (.cells (List.replicate 32 (v8 0)).toArray 39)) w.heap.size 39 (List.replicate 32 (v8 0)) := Row.new _ _ _
  have hk0 : Kept w (w.alloc (.cells (List.replicate 32 (v8 0)).toArray 39)) (fun _ => False) := kept_alloc _ _
  have hz0 : (w.alloc (.cells (List.replicate 32 (v8 0)).toArray 39)).heap.size = w.heap.size + 1 := by simp
  have hdv : digV (dg bs) = .agg ((digest bs).map v8).toArray := rfl
  generalize hDD : (digest bs).map v8 = D at *
  have HK := Lib.hid hK
  have HS := Lib.hid S
  have HA := Lib.hid hA
  have HST := Lib.hid h
  have HDL := Lib.hid hDl
  have HD1 := Lib.hid hD1
  have HOF := Lib.hid hof
  have HHAS := Lib.hid hhas
  have HZL := Lib.hid hZl
  have HZ1 := Lib.hid hZ1
  have HHH := Lib.hid hh
  have HDV := Lib.hid hdv
  clear hK S hA h hDl hD1 hof hhas hZl hZ1 hh hDD hdv
  go_enter Tryd.func19, Tryd.ntmps19
  go_wp2_with fail
  generalize hW0 : World.alloc _ _ = W0 at hr0 hk0 hz0
  generalize hW0' : World.alloc _ _ = W0'
  obtain rfl : W0 = W0' := hW0.symm.trans hW0'
  have R0 := Lib.hid hr0
  have K0 := Lib.hid hk0
  have Z0 := Lib.hid hz0
  clear hr0 hk0 hz0 hW0 hW0'
  refine (HOF.out _ (HK.out.kept K0.out (fun h => h)) (HS.out.kept K0.out (fun _ _ _ _ h => h))).mono ?_
  rintro e w1 ⟨rfl, hb1⟩
  have hk01 : Kept W0 w1 (fun _ => False) := kept_below hb1
  have K1 := Lib.hid (K0.out.trans hk01)
  have R1 := Lib.hid (hk01.row R0.out (fun h => h))
  have Z1 := Lib.hid hk01.size
  clear hb1 hk01
  go_upto_region 2 with ((with_reducible refine store_arr ?_ (.tmp 6) (.tmp 8) ?_ w1.heap.size D HDL.out HD1.out ?_ ?_ (List.replicate 32 (v8 0)) HZL.out ?_ ?_); rfl; rfl; go_must (rfl; rfl; exact Row.at_ _ _ _ rfl rfl); intro w2 X2 K2 Z2)
  have hz1 : W0.heap.size ≤ w1.heap.size := Z1.out
  have hzz : W0.heap.size = w.heap.size + 1 := Z0.out
  have hz2 : w2.heap.size = w1.heap.size + 1 := by rw [Z2.out]; simp
  have C2 := Lib.hid (show Kept w w2 (fun _ => False) from kept_since K1.out (((Kept.refl w1 (· = w1.heap.size)).alloc _).trans K2.out) (fun x hx e => by omega))
  have R2 := Lib.hid (K2.out.row (R1.out.alloc (.cells (List.replicate 32 (v8 0)).toArray 39)) (by omega))
  have hzz2 := Lib.hid hz2
  clear K2 hz2
  go_wp2_with ((with_reducible refine load_arr_g ?_ (.tmp 6) ?_ w1.heap.size D HDL.out ?_ ?_ ?_); rfl; rfl; go_must (rfl; exact X2.out))
  refine (HHAS.out _ (HST.out.quiet C2.out)).mono ?_
  rintro e w3 ⟨rfl, K3⟩
  have X3 := Lib.hid (K3.out.row X2.out (fun h => h))
  have R3 := Lib.hid (K3.out.row R2.out (fun h => h))
  have C3 := Lib.hid (C2.out.trans K3.out)
  clear X2 R2 K3
  go_wp2_with (first
    | ((with_reducible refine load_arr_g ?_ (.tmp 6) ?_ w1.heap.size D HDL.out ?_ ?_ ?_); rfl; rfl; go_must (rfl; exact X3.out))
    | ((with_reducible refine store_arr ?_ (.tmp 4) (.tmp 12) ?_ w.heap.size D HDL.out HD1.out ?_ ?_ (List.replicate 32 (v8 0)) HZL.out ?_ ?_); rfl; rfl; go_must (rfl; rfl; exact R3.out); intro w4 X4 K4 Z4))
  have C4 := Lib.hid (show Kept w w4 (fun _ => False) from kept_since C3.out K4.out (fun x hx e => by omega))
  exact bodyPost_ret (v := .tuple #[.agg D.toArray, .int .i64 0]) (results_row_tmp (fn := Tryd.f19) (p := 4) (u := 5) rfl _ _ w.heap.size _ D.toArray _ _ rfl X4.out Tryd.underlying39 rfl (by rw [List.size_toArray, HDL.out]; kernel_rfl)) rfl ⟨(by rw [HDV.out]), HST.out.quiet C4.out, C4.out⟩

set_option maxRecDepth 100000 in
set_option maxHeartbeats 4000000 in
theorem sput_full {w : World} {s mb : Nat} {T : List (Value × List UInt8)} {room : Nat} {Z : Nat → Prop} (h : StAt w s mb T room Z) (A : Option Addr) (c : Nat) (bs : List UInt8) (hK : KT w) (S : BytesAt w A bs.length c bs) (hA : A = none → c = 0) (hlen : bs.length ≤ 549755813888) (hh : hasE (entries T) (dg bs) = false) (hfull : room < usedN T + bs.length) :
    Calls Tryd.prog 19 #[.pointer (some ⟨s, 0, none⟩), .slice A bs.length c] w fun e w' => e = .returned (.tuple #[zeroD, .int .i64 2]) ∧ Hid (StAt w' s mb T room Z) ∧ Hid (Kept w w' (fun _ => False)) := by
  have hDl : ((digest bs).map v8).length = 32 := rfl
  have hD1 := oneCell_map v8 (fun _ => rfl) (digest bs)
  have hof : ∀ V, KT V → BytesAt V A bs.length c bs → Calls Tryd.prog 34 #[.slice A bs.length c] V fun e w' => e = .returned (.agg ((digest bs).map v8).toArray) ∧ Below V.heap.size V w' := fun V h1 h2 => of_any V A bs.length c bs h1 h2 hlen
  have hhas : ∀ V, StAt V s mb T room Z → Calls Tryd.prog 30 #[.pointer (some ⟨s, 0, none⟩), .agg ((digest bs).map v8).toArray] V fun e w' => e = .returned (.bool false) ∧ Hid (Kept V w' (fun _ => False)) := fun V hV => by
    have := shas_any hV (dg bs)
    rw [hh] at this
    exact this
  have hZl : (List.replicate 32 (v8 0)).length = 32 := rfl
  have hZ1 : (List.replicate 32 (v8 0)).toArray.all (·.oneCell') = true := by
    have := oneCell_map v8 (fun _ => rfl) (List.replicate 32 0)
    rwa [List.map_replicate] at this
  have hr0 : Row (w.alloc (.cells (List.replicate 32 (v8 0)).toArray 39)) w.heap.size 39 (List.replicate 32 (v8 0)) := Row.new _ _ _
  have hk0 : Kept w (w.alloc (.cells (List.replicate 32 (v8 0)).toArray 39)) (fun _ => False) := kept_alloc _ _
  have hz0 : (w.alloc (.cells (List.replicate 32 (v8 0)).toArray 39)).heap.size = w.heap.size + 1 := by simp
  have hdv : digV (dg bs) = .agg ((digest bs).map v8).toArray := rfl
  generalize hDD : (digest bs).map v8 = D at *
  have HK := Lib.hid hK
  have HS := Lib.hid S
  have HA := Lib.hid hA
  have HST := Lib.hid h
  have HDL := Lib.hid hDl
  have HD1 := Lib.hid hD1
  have HOF := Lib.hid hof
  have HHAS := Lib.hid hhas
  have HZL := Lib.hid hZl
  have HZ1 := Lib.hid hZ1
  have HHH := Lib.hid hh
  have HDV := Lib.hid hdv
  clear hK S hA h hDl hD1 hof hhas hZl hZ1 hh hDD hdv
  go_enter Tryd.func19, Tryd.ntmps19
  go_wp2_with fail
  generalize hW0 : World.alloc _ _ = W0 at hr0 hk0 hz0
  generalize hW0' : World.alloc _ _ = W0'
  obtain rfl : W0 = W0' := hW0.symm.trans hW0'
  have R0 := Lib.hid hr0
  have K0 := Lib.hid hk0
  have Z0 := Lib.hid hz0
  clear hr0 hk0 hz0 hW0 hW0'
  refine (HOF.out _ (HK.out.kept K0.out (fun h => h)) (HS.out.kept K0.out (fun _ _ _ _ h => h))).mono ?_
  rintro e w1 ⟨rfl, hb1⟩
  have hk01 : Kept W0 w1 (fun _ => False) := kept_below hb1
  have K1 := Lib.hid (K0.out.trans hk01)
  have R1 := Lib.hid (hk01.row R0.out (fun h => h))
  have Z1 := Lib.hid hk01.size
  clear hb1 hk01
  go_upto_region 2 with ((with_reducible refine store_arr ?_ (.tmp 6) (.tmp 8) ?_ w1.heap.size D HDL.out HD1.out ?_ ?_ (List.replicate 32 (v8 0)) HZL.out ?_ ?_); rfl; rfl; go_must (rfl; rfl; exact Row.at_ _ _ _ rfl rfl); intro w2 X2 K2 Z2)
  have hz1 : W0.heap.size ≤ w1.heap.size := Z1.out
  have hzz : W0.heap.size = w.heap.size + 1 := Z0.out
  have hz2 : w2.heap.size = w1.heap.size + 1 := by rw [Z2.out]; simp
  have C2 := Lib.hid (show Kept w w2 (fun _ => False) from kept_since K1.out (((Kept.refl w1 (· = w1.heap.size)).alloc _).trans K2.out) (fun x hx e => by omega))
  have R2 := Lib.hid (K2.out.row (R1.out.alloc (.cells (List.replicate 32 (v8 0)).toArray 39)) (by omega))
  have hzz2 := Lib.hid hz2
  clear K2 hz2
  go_wp2_with ((with_reducible refine load_arr_g ?_ (.tmp 6) ?_ w1.heap.size D HDL.out ?_ ?_ ?_); rfl; rfl; go_must (rfl; exact X2.out))
  refine (HHAS.out _ (HST.out.quiet C2.out)).mono ?_
  rintro e w3 ⟨rfl, K3⟩
  have X3 := Lib.hid (K3.out.row X2.out (fun h => h))
  have R3 := Lib.hid (K3.out.row R2.out (fun h => h))
  have C3 := Lib.hid (C2.out.trans K3.out)
  clear X2 R2 K3
  have hfit := HST.out.fits
  have htop := HST.out.top
  have hc1 := ((HST.out.quiet C3.out).c1)
  have hc2 := ((HST.out.quiet C3.out).c2)
  have hw1 : IntKind.i64.wrap ((room : Int) - (usedN T : Int)) = (room : Int) - (usedN T : Int) := IntWalk.i64_in _ (by omega)
  have hdec : decide ((room : Int) - (usedN T : Int) < (bs.length : Int)) = true := by simp; omega
  go_wp2_with fail
  go_quiet (fail)
  clear hw1
  have C4 := Lib.hid (C3.out.trans ((Kept.refl w3 (fun _ => False)).drewN nq))
  have R4 := Lib.hid (R3.out.drewN nq)
  clear hc1 hc2
  go_wp2_with (first
    | ((with_reducible refine build_arr_g ?_ 39 #[] ?_ (List.replicate 32 (v8 0)).toArray ?_ ?_); rfl; rfl; go_must (refine Eq.trans ?_ built_zero32; kernel_rfl))
    | ((with_reducible refine store_arr ?_ (.tmp 4) (.tmp 25) ?_ w.heap.size (List.replicate 32 (v8 0)) HZL.out HZ1.out ?_ ?_ (List.replicate 32 (v8 0)) HZL.out ?_ ?_); rfl; rfl; go_must (rfl; rfl; exact R4.out); intro w4 X4 K4 Z4))
  have C5 := Lib.hid (show Kept w w4 (fun _ => False) from kept_since C4.out K4.out (fun x hx e => by omega))
  exact bodyPost_ret (v := .tuple #[.agg (List.replicate 32 (v8 0)).toArray, .int .i64 2]) (results_row_tmp (fn := Tryd.f19) (p := 4) (u := 5) rfl _ _ w.heap.size _ (List.replicate 32 (v8 0)).toArray _ _ rfl X4.out Tryd.underlying39 rfl (by rw [List.size_toArray, HZL.out]; kernel_rfl)) rfl ⟨rfl, HST.out.quiet C5.out, C5.out⟩

set_option maxRecDepth 100000 in
set_option maxHeartbeats 4000000 in
theorem sput_new {w : World} {s mb : Nat} {T : List (Value × List UInt8)} {room : Nat} {Z : Nat → Prop} (h : StAt w s mb T room Z) (A : Option Addr) (c : Nat) (bs : List UInt8) (hK : KT w) (S : BytesAt w A bs.length c bs) (hA : A = none → c = 0) (hlen : bs.length ≤ 549755813888) (hh : hasE (entries T) (dg bs) = false) (hfull : usedN T + bs.length ≤ room) (hfew : T.length < 1000000) :
    Calls Tryd.prog 19 #[.pointer (some ⟨s, 0, none⟩), .slice A bs.length c] w (PutNew w s mb T room Z bs) := by
  have hDl : ((digest bs).map v8).length = 32 := rfl
  have hD1 := oneCell_map v8 (fun _ => rfl) (digest bs)
  have hof : ∀ V, KT V → BytesAt V A bs.length c bs → Calls Tryd.prog 34 #[.slice A bs.length c] V fun e w' => e = .returned (.agg ((digest bs).map v8).toArray) ∧ Below V.heap.size V w' := fun V h1 h2 => of_any V A bs.length c bs h1 h2 hlen
  have hhas : ∀ V, StAt V s mb T room Z → Calls Tryd.prog 30 #[.pointer (some ⟨s, 0, none⟩), .agg ((digest bs).map v8).toArray] V fun e w' => e = .returned (.bool false) ∧ Hid (Kept V w' (fun _ => False)) := fun V hV => by
    have := shas_any hV (dg bs)
    rw [hh] at this
    exact this
  have hZl : (List.replicate 32 (v8 0)).length = 32 := rfl
  have hZ1 : (List.replicate 32 (v8 0)).toArray.all (·.oneCell') = true := by
    have := oneCell_map v8 (fun _ => rfl) (List.replicate 32 0)
    rwa [List.map_replicate] at this
  have hr0 : Row (w.alloc (.cells (List.replicate 32 (v8 0)).toArray 39)) w.heap.size 39 (List.replicate 32 (v8 0)) := Row.new _ _ _
  have hk0 : Kept w (w.alloc (.cells (List.replicate 32 (v8 0)).toArray 39)) (fun _ => False) := kept_alloc _ _
  have hz0 : (w.alloc (.cells (List.replicate 32 (v8 0)).toArray 39)).heap.size = w.heap.size + 1 := by simp
  have hdv : digV (dg bs) = .agg ((digest bs).map v8).toArray := rfl
  generalize hDD : (digest bs).map v8 = D at *
  have HK := Lib.hid hK
  have HS := Lib.hid S
  have HA := Lib.hid hA
  have HST := Lib.hid h
  have HDL := Lib.hid hDl
  have HD1 := Lib.hid hD1
  have HOF := Lib.hid hof
  have HHAS := Lib.hid hhas
  have HZL := Lib.hid hZl
  have HZ1 := Lib.hid hZ1
  have HHH := Lib.hid hh
  have HDV := Lib.hid hdv
  clear hK S hA h hDl hD1 hof hhas hZl hZ1 hh hDD hdv
  go_enter Tryd.func19, Tryd.ntmps19
  go_wp2_with fail
  generalize hW0 : World.alloc _ _ = W0 at hr0 hk0 hz0
  generalize hW0' : World.alloc _ _ = W0'
  obtain rfl : W0 = W0' := hW0.symm.trans hW0'
  have R0 := Lib.hid hr0
  have K0 := Lib.hid hk0
  have Z0 := Lib.hid hz0
  clear hr0 hk0 hz0 hW0 hW0'
  refine (HOF.out _ (HK.out.kept K0.out (fun h => h)) (HS.out.kept K0.out (fun _ _ _ _ h => h))).mono ?_
  rintro e w1 ⟨rfl, hb1⟩
  have hk01 : Kept W0 w1 (fun _ => False) := kept_below hb1
  have K1 := Lib.hid (K0.out.trans hk01)
  have R1 := Lib.hid (hk01.row R0.out (fun h => h))
  have Z1 := Lib.hid hk01.size
  clear hb1 hk01
  go_upto_region 2 with ((with_reducible refine store_arr ?_ (.tmp 6) (.tmp 8) ?_ w1.heap.size D HDL.out HD1.out ?_ ?_ (List.replicate 32 (v8 0)) HZL.out ?_ ?_); rfl; rfl; go_must (rfl; rfl; exact Row.at_ _ _ _ rfl rfl); intro w2 X2 K2 Z2)
  have hz1 : W0.heap.size ≤ w1.heap.size := Z1.out
  have hzz : W0.heap.size = w.heap.size + 1 := Z0.out
  have hz2 : w2.heap.size = w1.heap.size + 1 := by rw [Z2.out]; simp
  have C2 := Lib.hid (show Kept w w2 (fun _ => False) from kept_since K1.out (((Kept.refl w1 (· = w1.heap.size)).alloc _).trans K2.out) (fun x hx e => by omega))
  have R2 := Lib.hid (K2.out.row (R1.out.alloc (.cells (List.replicate 32 (v8 0)).toArray 39)) (by omega))
  have hzz2 := Lib.hid hz2
  clear K2 hz2
  go_wp2_with ((with_reducible refine load_arr_g ?_ (.tmp 6) ?_ w1.heap.size D HDL.out ?_ ?_ ?_); rfl; rfl; go_must (rfl; exact X2.out))
  refine (HHAS.out _ (HST.out.quiet C2.out)).mono ?_
  rintro e w3 ⟨rfl, K3⟩
  have X3 := Lib.hid (K3.out.row X2.out (fun h => h))
  have R3 := Lib.hid (K3.out.row R2.out (fun h => h))
  have C3 := Lib.hid (C2.out.trans K3.out)
  clear X2 R2 K3
  have hfit := HST.out.fits
  have htop := HST.out.top
  have hc1 := ((HST.out.quiet C3.out).c1)
  have hc2 := ((HST.out.quiet C3.out).c2)
  have hw1 : IntKind.i64.wrap ((room : Int) - (usedN T : Int)) = (room : Int) - (usedN T : Int) := IntWalk.i64_in _ (by omega)
  have hdec : decide ((room : Int) - (usedN T : Int) < (bs.length : Int)) = false := by simp; omega
  go_wp2_with fail
  go_quiet (fail)
  clear hw1
  have C4 := Lib.hid (C3.out.trans ((Kept.refl w3 (fun _ => False)).drewN nq))
  have R4 := Lib.hid (R3.out.drewN nq)
  have X4 := Lib.hid (X3.out.drewN nq)
  clear hc1 hc2
  have hZlt := HST.out.zlt
  have hsw : s < w.heap.size := hZlt _ HST.out.zs
  have hmw : mb < w.heap.size := hZlt _ HST.out.zm
  have hsm := HST.out.ne
  clear hZlt
  go_wp2_with fail
  generalize hW : w3.drewN nq = W at C4 R4 X4
  clear hW
  have hcW := C4.out.size
  have hX4l := X4.out.lt
  have ST4 := Lib.hid (HST.out.quiet C4.out)
  have HC0 := Lib.hid (fun (v : World) (hv : Kept W v (· = mb)) => (hv.cell (a := ⟨s, 0, none⟩) ST4.out.c0 hsm))
  have HRD := Lib.hid (fun (v : World) (hv : Kept W v (· = mb)) => ((hv.row X4.out (by omega)).range 0 D (fun q u hu => by rw [Nat.zero_add]; exact hu)))
  have hu25 : Tryd.prog.underlying 39 = some (.array 32 5) := Tryd.underlying39
  have hid : (Tryd.prog.info? 39).map (·.size) = some D.length := by rw [HDL.out]; kernel_rfl
  have HID := Lib.hid hid
  clear hid
  have HB0 := Lib.hid (show Kept W W.drew (· = mb) from (Kept.refl W _).drewN 1)
  refine wp_region_held (S := fun v => Kept W v (· = mb)) (by kernel_rfl) ?_
  change wpAnyH _ _ _ _ _ _ _ _ (World.drew _)
  refine wpAnyH_take (i := 0) (v := ?_) rfl (by kernel_rfl) (by kernel_rfl) (by kernel_rfl) (fun _ _ _ h => h) (Or.inl ⟨by rfl, ?_⟩) HB0.out ?_
  rotate_left
  · (intro v hv; go_simp <;> with_reducible rfl)
  simp only [List.getElem_toArray, List.getElem_cons_zero, Act.put, List.setIfInBounds_toArray, List.set_cons_zero, List.set_cons_succ]
  refine wpAnyH_take (i := 1) (v := ?_) rfl (by kernel_rfl) (by kernel_rfl) (by kernel_rfl) (fun _ _ _ h => h) (Or.inl ⟨by rfl, ?_⟩) HB0.out ?_
  rotate_left
  · (intro v hv; go_simp <;> with_reducible rfl)
  simp only [List.getElem_toArray, List.getElem_cons_succ, List.getElem_cons_zero, Act.put, List.setIfInBounds_toArray, List.set_cons_zero, List.set_cons_succ]
  refine wpAnyH_take (i := 2) (v := ?_) rfl (by kernel_rfl) (by kernel_rfl) (by kernel_rfl) (fun _ _ _ h => h) (Or.inl ⟨by rfl, ?_⟩) HB0.out ?_
  rotate_left
  · (intro v hv; go_simp <;> with_reducible rfl)
  simp only [List.getElem_toArray, List.getElem_cons_succ, List.getElem_cons_zero, Act.put, List.setIfInBounds_toArray, List.set_cons_zero, List.set_cons_succ]
  refine wpAnyH_take (i := 3) (v := ?_) rfl (by kernel_rfl) (by kernel_rfl) (by kernel_rfl) (fun _ _ _ h => h) (Or.inl ⟨by rfl, ?_⟩) HB0.out ?_
  rotate_left
  · (intro v hv; have hcell := HC0.out v hv; go_simp <;> with_reducible rfl)
  simp only [List.getElem_toArray, List.getElem_cons_succ, List.getElem_cons_zero, Act.put, List.setIfInBounds_toArray, List.set_cons_zero, List.set_cons_succ]
  refine wpAnyH_take (i := 4) (v := .agg D.toArray) rfl (by kernel_rfl) (by kernel_rfl) (by kernel_rfl) (fun _ _ _ h => h) (yieldsIf_load_mid (by rfl) 39 (.tmp 6) (by rfl) w1.heap.size 0 (by rfl) D (.array 32 5) (fun v hv => HRD.out v hv) hu25 rfl HID.out) HB0.out ?_
  simp only [List.getElem_toArray, List.getElem_cons_succ, List.getElem_cons_zero, Act.put, List.setIfInBounds_toArray, List.set_cons_zero, List.set_cons_succ]
  refine wpAnyH_take (i := 5) (v := ?_) rfl (by kernel_rfl) (by kernel_rfl) (by kernel_rfl) (fun _ _ _ h => h) (Or.inl ⟨by rfl, ?_⟩) HB0.out ?_
  rotate_left
  · (intro v hv; go_simp <;> with_reducible rfl)
  simp only [List.getElem_toArray, List.getElem_cons_succ, List.getElem_cons_zero, Act.put, List.setIfInBounds_toArray, List.set_cons_zero, List.set_cons_succ]
  refine wpAnyH_ready (rs := [6]) (by kernel_rfl) (by simp) ?_
  refine AllReadyH.cons rfl (fun K hK => ?_) AllReadyH.nil
  go_simp
  refine (clone_any W.drew A bs.length c bs (HS.out.kept (C4.out.trans ((Kept.refl W (fun _ => False)).drewN 1)) (fun _ _ _ _ h => h)) HA.out (by omega)).mono ?_
  rintro e w5 ⟨v, rfl, O5, K5⟩
  have HB5 := Lib.hid (show Kept W w5 (· = mb) from ((Kept.refl W (fun _ => False)).drewN 1).trans K5.out |>.mono (fun _ _ h => h.elim))
  simp only []
  refine hK _ _ HB5.out (fun _ => ?_)
  clear hK K
  have hcl5 : Kept w w5 (fun _ => False) := (C4.out.trans ((Kept.refl W (fun _ => False)).drewN 1)).trans K5.out
  obtain ⟨w6, hrun, M6, K6⟩ := (HST.out.quiet hcl5).map.store (x := dg bs) v HHH.out (by simp only [entries, List.length_map, maxLen]; omega)
  rw [HDV.out] at hrun
  have HCL5 := Lib.hid hcl5
  have HM6 := Lib.hid M6
  have HK6 := Lib.hid K6
  have HB6 := Lib.hid (HB5.out.trans K6)
  clear hcl5 M6 K6
  refine wpAnyH_ready (rs := [7]) (by kernel_rfl) (by simp) ?_
  refine AllReadyH.cons rfl (fun K hK => ?_) AllReadyH.nil
  go_simp
  refine hK _ _ HB6.out (fun _ => ?_)
  clear hK K
  refine wpAnyH_done (by kernel_rfl) ?_ _
  have hR6 : Row w6 s 61 [.map (some mb), .int .i64 (usedN T : Int), .int .i64 (room : Int)] := HK6.out.row (HST.out.quiet HCL5.out).row hsm
  have hc1 : w6.cell? ⟨s, 1, none⟩ = some (.int .i64 (usedN T : Int)) := hR6.cell rfl
  have hf1 := hR6.frozen 1
  have HR6 := Lib.hid hR6
  have hrz : Row w6 w.heap.size 39 (List.replicate 32 (v8 0)) := HB6.out.row R4.out (by omega)
  have hrx : Row w6 w1.heap.size 39 D := HB6.out.row X4.out (by omega)
  have HRZ := Lib.hid (hrz.other (a := ⟨s, 1, none⟩) (by show w.heap.size ≠ s; omega) (.int .i64 ((usedN T : Int) + (bs.length : Int))))
  have HRX := Lib.hid (hrx.other (a := ⟨s, 1, none⟩) (by show w1.heap.size ≠ s; omega) (.int .i64 ((usedN T : Int) + (bs.length : Int))))
  have KS := Lib.hid (show Kept w6 (w6.setCell ⟨s, 1, none⟩ (.int .i64 ((usedN T : Int) + (bs.length : Int)))) (stZ s mb) from (Kept.refl w6 (stZ s mb)).setCell (a := ⟨s, 1, none⟩) (.inr (.inl rfl)) _)
  have RS := Lib.hid (hR6.set 1 (.int .i64 ((usedN T : Int) + (bs.length : Int))))
  clear hR6 hrz hrx hrun
  go_wp2_with (first
    | ((with_reducible refine load_arr_g ?_ (.tmp 6) ?_ w1.heap.size D HDL.out ?_ ?_ ?_); rfl; rfl; go_must (rfl; exact HRX.out))
    | ((with_reducible refine store_arr ?_ (.tmp 4) (.tmp 42) ?_ w.heap.size D HDL.out HD1.out ?_ ?_ (List.replicate 32 (v8 0)) HZL.out ?_ ?_); rfl; rfl; go_must (rfl; rfl; exact HRZ.out); intro w8 X8 K8 Z8))
  have hk68 : Kept w6 w8 (fun q => stZ s mb q ∨ q = w.heap.size) := (KS.out.mono (fun q _ hq => .inl hq)).trans (K8.out.mono (fun q _ hq => .inr hq))
  have hk58 : Kept w5 w8 (fun q => stZ s mb q ∨ q = w.heap.size) := (HK6.out.mono (fun q _ hq => .inl (.inr hq))).trans hk68
  have hkw8 : Kept w w8 (stZ s mb) := ((HCL5.out.mono (fun q _ hq => hq.elim)).trans hk58).mono (fun q hq hh => by
    rcases hh with hh | hh
    · exact hh
    · omega)
  have HO := Lib.hid (O5.out.kept hk58 (fun b e hh => by
    have h1 := (O5.out.bytes)
    obtain ⟨hl, ⟨rfl, _⟩ | ⟨g, cap, cur, rfl, hg, _⟩⟩ := O5.out
    · cases e
    · simp only [Value.ownBlock, Option.some.injEq] at e
      have hg' : W.heap.size ≤ g := hg
      rcases hh with (hh | hh) | hh <;> omega))
  have hst := HST.out.added hkw8 (K8.out.row RS.out (by show s ≠ w.heap.size; omega)) ((HM6.out.kept ((Kept.refl w6 (· = s)).setCell (a := ⟨s, 1, none⟩) (.inr rfl) _) (by show mb ≠ s; omega)).kept K8.out (by show mb ≠ w.heap.size; omega)) HO.out (by show w.heap.size ≤ W.heap.size; omega) hfull hfew
  exact bodyPost_ret (v := .tuple #[.agg D.toArray, .int .i64 0]) (results_row_tmp (fn := Tryd.f19) (p := 4) (u := 5) rfl _ _ w.heap.size _ D.toArray _ _ rfl X8.out Tryd.underlying39 rfl (by rw [List.size_toArray, HDL.out]; kernel_rfl)) rfl ⟨v, by rw [HDV.out], hst, hkw8⟩
end Go.Proofs.YtokficfpgppaeaaDoor
