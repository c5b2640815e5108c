/-
  slices.Clone of values, Cut, isObject, ifRight.
-/
import Derived.Test.YtdbikeohobgebaaDoorJoGetW
import Derived.Lib.SliceRun
namespace Go.Proofs.YtdbikeohobgebaaDoor
open Go.RowKit Sh Jt Js Jo
theorem below_of_kept {B : Nat} {w w' : World} {S : Nat → Prop} (k : Kept w w' S) (hB : B ≤ w.heap.size) (hS : ∀ i, i < B → ¬ S i) : Below B w w' := ⟨k.os, k.tape, k.output, k.size, fun i hi => k.block i (Nat.lt_of_lt_of_le hi hB) (hS i hi)⟩
theorem own_made (w : World) : OwnVals (w.alloc (.cells #[] 28)) w.heap.size (.slice (some ⟨w.heap.size, 0, none⟩) 0 0) [] := World.ownsRow_made w #[] 0 (Nat.le_refl _) (Nat.zero_le _) rfl
/-- One cell of a value of the call's own is set: what else is as it was. -/
theorem OwnVals.setBelow {w : World} {B g n c : Nat} {L : List V} (h : OwnVals w B (.slice (some ⟨g, 0, none⟩) n c) L) (j : Nat) (x : Value) : Below B w (w.setCell ⟨g, j, none⟩ x) := by
  obtain ⟨hl, ⟨e, _⟩ | ⟨g', cap, cur, e, hg, hh, _⟩⟩ := h
  · cases e
  · simp only [Value.slice.injEq, Option.some.injEq, Addr.mk.injEq] at e
    obtain ⟨⟨rfl, _⟩, _, _⟩ := e
    exact below_of_kept (B := B) ((Kept.refl w (· = g)).setCell (a := ⟨g, j, none⟩) (.inr rfl) _) (by have := (Array.getElem?_eq_some_iff.1 hh).1; omega) (fun i hi e => by omega)
set_option maxRecDepth 100000 in
set_option maxHeartbeats 1000000 in
theorem jo_clone (w : World) (b o n c : Nat) (L : List V) (hL : ValsAt w (some ⟨b, o, none⟩) n c L) (hn : n ≤ 100000) :
    Calls Tryd.prog 32 #[.slice (some ⟨b, o, none⟩) n c] w fun e w' => ∃ v', e = .returned v' ∧ Hid (OwnVals w' w.heap.size v' L ∧ Below w.heap.size w w') := by
  have HO := Lib.hid (own_made w)
  have HV := Lib.hid (hL.below (below_alloc' w (.cells #[] 28)))
  have HB := Lib.hid (below_alloc' w (.cells #[] 28))
  have hsz := Lib.hid (show w.heap.size ≤ (w.alloc (.cells #[] 28)).heap.size from (below_alloc' w _).size)
  have q22 : ∀ (W : World), (binOp .eql 22 (.slice (some ⟨b, o, none⟩) n c) (.slice none 0 0)).run Tryd.prog W = .ok (.bool false) W := fun W => Lib.run_eql_slice_nil W _ _ (some ⟨b, o, none⟩) n c 0 0 Tryd.underlying22
  clear hL
  go_enter Tryd.func32, Tryd.ntmps32
  go_wp2_with (at_builtin; go_must (with_reducible refine append_vals rfl _ _ rfl w.heap.size (.slice (some ⟨w.heap.size, 0, none⟩) 0 0) [] rfl HO.out ⟨b, o, none⟩ n c L rfl HV.out (by simp; omega) hsz.out ?_; intro v4 w4 h1 h2 h3))
  go_ret
  exact ⟨_, rfl, Lib.hid ⟨h1.out, HB.out.trans (below_of_kept h2.out hsz.out (fun i hi e => by omega))⟩⟩
set_option maxRecDepth 100000 in
set_option maxHeartbeats 1000000 in
theorem jo_ifRight (w : World) (A : Option Addr) (n c : Nat) (L : List V) (hL : ValsAt w A n c L) (hn : n ≤ 100000) (hs : Short 1000000000 L) (hT : TabOk w) :
    Calls Tryd.prog 39 #[.slice A n c] w fun e w' => e = .returned (if rightPF L = true then .slice A n c else .slice none 0 0) ∧ Hid (Below w.heap.size w w') := by
  have HR := Lib.hid (js_right w A n c L hL hn hs hT)
  clear hL hs hT
  generalize rightPF L = R at *
  cases R with
  | false =>
    go_enter Tryd.func39, Tryd.ntmps39
    go_wp2_with fail
    refine HR.out.mono ?_
    rintro e w2 ⟨rfl, HB2⟩
    clear HR
    go_wp2_with fail
    go_ret
    exact ⟨rfl, HB2⟩
  | true =>
    go_enter Tryd.func39, Tryd.ntmps39
    go_wp2_with fail
    refine HR.out.mono ?_
    rintro e w2 ⟨rfl, HB2⟩
    clear HR
    go_wp2_with fail
    go_ret
    exact ⟨rfl, HB2⟩
theorem named_set (key : List UInt8) {L : List V} (h : 0 < L.length) : L.set 0 ⟨L[0].kind, key, L[0].text, L[0].count⟩ = named key L := by
  match L, h with
  | v :: r, _ => rfl
theorem kind_head {L : List V} (h : 0 < L.length) : kindOf L = L[0].kind := by
  match L, h with
  | v :: r, _ => rfl
set_option maxRecDepth 100000 in
set_option maxHeartbeats 1000000 in
theorem jo_isObject (w : World) (A : Option Addr) (n c : Nat) (L : List V) (hL : ValsAt w A n c L) (hn : n ≤ 100000) (hs : Short 1000000000 L) (hT : TabOk w) :
    Calls Tryd.prog 37 #[.slice A n c] w fun e w' => e = .returned (.bool (isO L)) ∧ Hid (Below w.heap.size w w') := by
  have HR := Lib.hid (js_right w A n c L hL hn hs hT)
  obtain ⟨RV, hRV⟩ : ∃ RV, RV = isO L := ⟨_, rfl⟩
  rw [← hRV]
  unfold isO at hRV
  cases hr : rightPF L with
  | false =>
    rw [hr] at HR hRV
    have HX : Hid (RV = false) := Lib.hid hRV
    clear hRV hL hs hT hr
    go_enter Tryd.func37, Tryd.ntmps37
    go_wp2_with fail
    refine HR.out.mono ?_
    rintro e w2 ⟨rfl, HB2⟩
    clear HR
    go_wp2_with fail
    go_ret
    exact ⟨by rw [HX.out]; rfl, HB2⟩
  | true =>
    have h0 := (right_end hr).2.1
    rw [hr, Bool.true_and, kind_head h0] at hRV
    rw [hr] at HR
    have hlen := hL.len
    obtain ⟨b, o, rfl, _, _⟩ := hL.at_ (by omega)
    obtain ⟨c0, c1, c2, c3⟩ := hL.cells h0
    rw [Nat.zero_mul, Nat.add_zero] at c0
    have HC0 := Lib.hid c0
    have hn0 : (0 : Int) < (n : Int) := by omega
    clear hL hs hT hr c0 c1 c2 c3
    generalize L[0].kind = kd at *
    have hd : decide (kd = 6) = (kd == 6) := by
      by_cases h : kd = 6
      · subst h; rfl
      · rw [decide_eq_false h, beq_eq_false_iff_ne.2 h]
    rw [hd] at hRV
    have HX := Lib.hid hRV
    clear hd hRV hlen
    go_enter Tryd.func37, Tryd.ntmps37
    go_wp2_with fail
    refine HR.out.mono ?_
    rintro e w2 ⟨rfl, HB2⟩
    have d0 : w2.cell? ⟨b, o, none⟩ = some (.int .i64 kd) := (kept_below HB2.out).cell HC0.out (fun h => h)
    clear HR HC0
    go_wp2_with fail
    go_ret
    exact ⟨by rw [HX.out]; rfl, HB2⟩
set_option maxRecDepth 100000 in
set_option maxHeartbeats 2000000 in
theorem jo_cut (w : World) (A : Option Addr) (n c : Nat) (L : List V) (hL : ValsAt w A n c L) (hn : n ≤ 100000) (hs : Short 1000000000 L) (hT : TabOk w) (a : Int) :
    Calls Tryd.prog 10 #[.slice A n c, .int .i64 a] w fun e w' => ∃ v', e = .returned v' ∧ Hid (OwnVals w' w.heap.size v' (cutA L a) ∧ Below w.heap.size w w') := by
  have HP := Lib.hid (jo_isPlace w A n c L hL hn hs hT a)
  obtain ⟨RV, hRV⟩ : ∃ RV, RV = cutA L a := ⟨_, rfl⟩
  rw [← hRV]
  unfold cutA at hRV
  cases hp : placeB L a with
  | false =>
    rw [hp] at HP hRV
    have HX : Hid (RV = []) := Lib.hid (by rw [hRV, if_neg (by decide)])
    clear hRV hp hL hs hT
    go_enter Tryd.func10, Tryd.ntmps10
    go_wp2_with fail
    refine HP.out.mono ?_
    rintro e w2 ⟨rfl, HB2⟩
    clear HP
    go_wp2_with fail
    go_ret
    exact ⟨_, rfl, Lib.hid ⟨by rw [HX.out]; exact OwnVals.nil _ _, HB2.out⟩⟩
  | true =>
    obtain ⟨p, rfl, hpl, hr⟩ := place_is hp
    rw [hp, if_pos rfl] at hRV
    rw [hp] at HP
    rw [Int.toNat_natCast] at hRV
    have hlen := hL.len
    have hcap := hL.cap
    obtain ⟨b, o, rfl, _, _⟩ := hL.at_ (by omega)
    have HL := Lib.hid hL
    obtain ⟨e1, e2, e3⟩ := right_endN hr hpl
    have HE := Lib.hid (fun W (k : Below w.heap.size w W) => js_end W (some ⟨b, o, none⟩) n c L (hL.below k) hn p (by omega))
    rw [e1] at HE
    have HX := Lib.hid hRV
    have HSUB := Lib.hid (fun W (k : Below w.heap.size w W) => (hL.below k).sub (i := p) (k := rowE L p) (by omega))
    have hML : ((L.drop p).take (rowE L p)).length = rowE L p := by rw [List.length_take, List.length_drop]; omega
    clear hp hL hs hT hRV e1 hr
    generalize (L.drop p).take (rowE L p) = M at *
    generalize rowE L p = z at *
    have hpn : (p : Int) < (n : Int) := by omega
    have hpz : (p : Int) ≤ (p : Int) + (z : Int) := by omega
    have hpc : (p : Int) + (z : Int) ≤ (c : Int) := by omega
    have h0p : (0 : Int) ≤ (p : Int) := by omega
    have hpzn : p + z ≤ c := by omega
    go_enter Tryd.func10, Tryd.ntmps10
    go_wp2_with fail
    refine HP.out.mono ?_
    rintro e w2 ⟨rfl, HB2⟩
    clear HP
    go_wp2_with fail
    refine (HE.out w2 HB2.out).mono ?_
    rintro e w3 ⟨rfl, HB3⟩
    have HB4 := Lib.hid (HB2.out.trans (HB3.out.mono HB2.out.size))
    clear HE HB2 HB3
    go_wp2_with fail
    refine (jo_clone w3 b (o + p * 4) z (c - p) M (HSUB.out w3 HB4.out) (by omega)).mono ?_
    rintro e w5 ⟨v5, rfl, H5⟩
    have hM0 : 0 < M.length := by omega
    obtain ⟨g5, k5, rfl, hg5, hlt5, hk5⟩ := H5.out.1.got hM0
    have f1 := H5.out.1.unfrozen 1
    obtain ⟨x0, x1, x2, x3⟩ := H5.out.1.at_.1.cells hM0
    rw [Nat.zero_mul, Nat.zero_add] at x1
    have hi : (0 : Int) < (M.length : Int) := by omega
    have hset := H5.out.1.set (i := 0) (j := 1) hM0 (by decide) (x := .string (sb [])) (v := ⟨M[0].kind, [], M[0].text, M[0].count⟩) rfl
    rw [named_set [] hM0, hML] at hset
    have HF := Lib.hid (And.intro (show OwnVals (w5.setCell ⟨g5, 1, none⟩ (.string (sb []))) w3.heap.size (.slice (some ⟨g5, 0, none⟩) z k5) (named [] M) from hset) (H5.out.1.setBelow 1 (.string (sb []))))
    clear hset
    have HB5 := Lib.hid (HB4.out.trans (H5.out.2.mono HB4.out.size))
    have hsz := Lib.hid HB4.out.size
    clear H5 x0 x2 x3 HL HSUB
    go_wp2_with fail
    go_ret
    exact ⟨_, rfl, Lib.hid ⟨by rw [HX.out]; exact HF.out.1.mono hsz.out, HB5.out.trans (HF.out.2.mono hsz.out)⟩⟩
end Go.Proofs.YtdbikeohobgebaaDoor
