/-
  End, and which values have rows behind them.
-/
import Derived.Test.YtfgflgifffjdgaaGreatDoorJsMem
import Derived.Test.YtfgflgifffjdgaaGreatDoorJsHead
namespace Go.Proofs.YtfgflgifffjdgaaGreatDoor
open Go.RowKit Sh Jt Js
theorem below_alloc' (w : World) (o : Obj) : Below w.heap.size w (w.alloc o) := (Below.refl _ _).alloc (Nat.le_refl _) _
set_option maxRecDepth 100000 in
set_option maxHeartbeats 1000000 in
theorem js_hasRows (w : World) (v : V) : Calls Tryz.prog 82 #[.agg (vv v).toArray] w fun e w' => e = .returned (.bool (grp v)) ∧ Hid (Below w.heap.size w w') := by
  obtain ⟨k, key, t, n⟩ := v
  have HB := Lib.hid (below_alloc' w (.cells (vv ⟨k, key, t, n⟩).toArray 61))
  have hg : grp ⟨k, key, t, n⟩ = decide (k = 5 ∨ k = 6) := rfl
  rw [hg]
  unfold vv at *
  dsimp only at *
  clear hg
  by_cases h5 : k = 5
  · subst h5
    go_enter Tryz.func82, Tryz.ntmps82
    go_wp2_with fail
    go_ret
    exact ⟨rfl, HB⟩
  · by_cases h6 : k = 6
    · subst h6
      go_enter Tryz.func82, Tryz.ntmps82
      go_wp2_with fail
      go_ret
      exact ⟨rfl, HB⟩
    · have hb5 : (k == 5) = false := beq_eq_false_iff_ne.2 h5
      have hb6 : (k == 6) = false := beq_eq_false_iff_ne.2 h6
      have hd : decide (k = 5 ∨ k = 6) = false := decide_eq_false (by omega)
      rw [hd]
      clear hd
      go_enter Tryz.func82, Tryz.ntmps82
      go_wp2_with fail
      go_ret
      exact ⟨rfl, HB⟩
namespace Js
/-- What End answers. -/
def endN (L : List V) (at_ : Nat) : Int := if at_ < L.length then (match endP (L.drop at_) 1 with
  | some k => (at_ : Int) + k
  | none => -1) else -1
/-- Where End stands: at p, so many rows wanted. -/
structure EndS (L : List V) (a p q : Nat) : Prop where
  le : a ≤ p
  room : p + q ≤ L.length
  res : endP (L.drop a) 1 = (endP (L.drop p) q).map (p - a + ·)
theorem EndS.start {L : List V} {a : Nat} (h : a < L.length) : EndS L a a 1 := ⟨Nat.le_refl _, by omega, by
  rw [Nat.sub_self]
  cases endP (L.drop a) 1 with
  | none => rfl
  | some k => rw [Option.map_some, Nat.zero_add]⟩
theorem EndS.over {L : List V} {a p : Nat} (h : EndS L a p 0) (ha : a < L.length) : endN L a = (p : Int) := by
  have h1 := h.res
  have h2 := h.le
  rw [endP_zero, Option.map_some] at h1
  unfold endN
  rw [if_pos ha, h1]
  show (a : Int) + ((p - a + 0 : Nat) : Int) = p
  omega
theorem EndS.bad {L : List V} {a p q : Nat} (h : EndS L a p q) (ha : a < L.length) (hn : endP (L.drop p) q = none) : endN L a = -1 := by
  unfold endN
  rw [if_pos ha, h.res, hn]
  rfl
theorem EndS.neg {L : List V} {a p q : Nat} (h : EndS L a p (q + 1)) (ha : a < L.length) (hp : p < L.length) (hc : L[p].count < 0) : endN L a = -1 := by
  refine h.bad ha ?_
  rw [List.drop_eq_getElem_cons hp, endP, if_pos hc]
theorem EndS.leaf {L : List V} {a p q : Nat} (h : EndS L a p (q + 1)) (hp : p < L.length) (hc : ¬ L[p].count < 0) (hg : grp L[p] = false) : EndS L a (p + 1) q := by
  have h1 := h.le
  have h2 := h.room
  refine ⟨by omega, by omega, ?_⟩
  rw [h.res, List.drop_eq_getElem_cons hp, endP, if_neg hc, hg, if_neg (by decide), Option.map_map]
  congr 1
  funext x
  simp only [Function.comp]
  omega
theorem EndS.far {L : List V} {a p q : Nat} (h : EndS L a p (q + 1)) (ha : a < L.length) (hp : p < L.length) (hc : ¬ L[p].count < 0) (hg : grp L[p] = true) (hf : (L.length : Int) - p - 1 - q < L[p].count) : endN L a = -1 := by
  refine h.bad ha ?_
  have h2 := h.room
  rw [List.drop_eq_getElem_cons hp, endP, if_neg hc, hg, if_pos rfl, endP_none]
  · rfl
  · rw [List.length_drop]
    omega
theorem EndS.more {L : List V} {a p q : Nat} (h : EndS L a p (q + 1)) (hp : p < L.length) (hc : ¬ L[p].count < 0) (hg : grp L[p] = true) (hf : ¬ (L.length : Int) - p - 1 - q < L[p].count) : EndS L a (p + 1) (L[p].count.toNat + q) := by
  have h1 := h.le
  have h2 := h.room
  refine ⟨by omega, by omega, ?_⟩
  rw [h.res, List.drop_eq_getElem_cons hp, endP, if_neg hc, hg, if_pos rfl, Option.map_map]
  congr 1
  funext x
  simp only [Function.comp]
  omega
end Js
set_option maxRecDepth 100000 in
set_option maxHeartbeats 4000000 in
theorem js_end (w : World) (A : Option Addr) (n c : Nat) (L : List V) (hL : ValsAt w A n c L) (hn : n ≤ 250000) (a : Nat) (ha9 : a ≤ 1000000) :
    Calls Tryz.prog 48 #[.slice A n c, .int .i64 (a : Int)] w fun e w' => e = .returned (.int .i64 (endN L a)) ∧ Hid (Below w.heap.size w w') := by
  have hlen := hL.len
  have ha0 : ¬ (a : Int) < 0 := by omega
  have hb0 : decide ((a : Int) < 0) = false := decide_eq_false ha0
  by_cases ha : a < n
  · have ha1 : ¬ (n : Int) ≤ (a : Int) := by omega
    have HL := Lib.hid hL
    obtain ⟨b, o, rfl, _, _⟩ := hL.at_ (by omega)
    clear hL
    go_enter Tryz.func48, Tryz.ntmps48
    go_wp2_with fail
    go_loopg [1, 5] (n - a) (fun g va vn wx => ∃ p q : Nat, va = .int .i64 (p : Int) ∧ vn = .int .i64 (q : Int) ∧ p + g = n ∧ q ≤ n ∧ Hid (EndS L a p q) ∧ Hid (Below w.heap.size w wx))
    case atStart => exact ⟨a, 1, rfl, rfl, by omega, by omega, Lib.hid (EndS.start (by omega)), Lib.hid (Below.refl _ _)⟩
    case round =>
      obtain ⟨p, q, rfl, rfl, hpg, hqn, HS, HB⟩ := hrel
      cases q with
      | zero =>
        have HX := Lib.hid (HS.out.over (by omega))
        clear HS
        go_wp2_with fail
        go_ret
        exact ⟨by rw [HX.out]; rfl, HB⟩
      | succ q =>
        have hroom := HS.out.room
        have hp : p < L.length := by omega
        cases gk with
        | zero => omega
        | succ g =>
        obtain ⟨c0, c1, c2, c3⟩ := (HL.out.below HB.out).cells hp
        have HH := Lib.hid (fun W => show Calls Tryz.prog 82 #[.agg #[.int .i64 L[p].kind, .string (sb L[p].key), .string (sb L[p].text), .int .i64 L[p].count]] W fun e w' => e = .returned (.bool (grp L[p])) ∧ Hid (Below W.heap.size W w') from js_hasRows W L[p])
        have hlt : (p : Int) < (n : Int) := by omega
        have hp0 : (0 : Int) ≤ (p : Int) := by omega
        have hq0 : (0 : Int) ≤ (q : Int) := by omega
        have hn9 : (n : Int) ≤ 250000 := by omega
        have hqn' : (q : Int) + 1 ≤ (n : Int) := by omega
        by_cases hc : L[p].count < 0
        · have HX := Lib.hid (HS.out.neg (by omega) hp hc)
          generalize L[p] = v at *
          obtain ⟨k, key, t, z⟩ := v
          dsimp only at *
          clear HS HH
          go_wp2_with fail
          go_ret
          exact ⟨by rw [HX.out]; rfl, HB⟩
        · have hz9 : L[p].count ≤ 9223372036854775807 ∨ 9223372036854775807 < L[p].count := by omega
          have HSZ := Lib.hid HB.out.size
          cases hg : grp L[p] with
          | false =>
            rw [hg] at HH
            have HX := Lib.hid (HS.out.leaf hp hc hg)
            generalize L[p] = v at *
            obtain ⟨k, key, t, z⟩ := v
            dsimp only at *
            clear HS hg hz9
            go_wp2_with fail
            refine (HH.out _).mono ?_
            rintro e w2 ⟨rfl, HB2⟩
            have HB3 := Lib.hid (HB.out.trans (HB2.out.mono HSZ.out))
            clear HH HB2 c0 c1 c2 c3
            go_wp2_with fail
            go_roundg g
            case measure => omega
            case rel => exact ⟨p + 1, q, by go_num, by go_num, by omega, by omega, HX, HB3⟩
          | true =>
            rw [hg] at HH
            by_cases hf : (L.length : Int) - p - 1 - q < L[p].count
            · have HX := Lib.hid (HS.out.far (by omega) hp hc hg hf)
              rw [hlen] at hf
              generalize L[p] = v at *
              obtain ⟨k, key, t, z⟩ := v
              dsimp only at *
              clear HS hg hz9
              go_wp2_with fail
              refine (HH.out _).mono ?_
              rintro e w2 ⟨rfl, HB2⟩
              have HB3 := Lib.hid (HB.out.trans (HB2.out.mono HSZ.out))
              have c4 : w2.cell? ⟨b, o + p * 4 + 3, none⟩ = some (.int .i64 z) := (kept_below HB2.out).cell c3 (fun h => h)
              clear HH HB2 c0 c1 c2 c3
              go_wp2_with fail
              go_ret
              exact ⟨by rw [HX.out]; rfl, HB3⟩
            · have HX := Lib.hid (HS.out.more hp hc hg hf)
              rw [hlen] at hf
              generalize L[p] = v at *
              obtain ⟨k, key, t, z⟩ := v
              dsimp only at *
              clear HS hg hz9
              go_wp2_with fail
              refine (HH.out _).mono ?_
              rintro e w2 ⟨rfl, HB2⟩
              have HB3 := Lib.hid (HB.out.trans (HB2.out.mono HSZ.out))
              have c4 : w2.cell? ⟨b, o + p * 4 + 3, none⟩ = some (.int .i64 z) := (kept_below HB2.out).cell c3 (fun h => h)
              clear HH HB2 c0 c1 c2 c3
              go_wp2_with fail
              go_roundg g
              case measure => omega
              case rel => exact ⟨p + 1, z.toNat + q, by go_num, by go_num, by omega, by omega, HX, HB3⟩
  · have ha1 : (n : Int) ≤ (a : Int) := by omega
    have hb1 : decide ((n : Int) ≤ (a : Int)) = true := decide_eq_true ha1
    have HX := Lib.hid (show endN L a = -1 from if_neg (by omega))
    have HB := Lib.hid (Below.refl w.heap.size w)
    clear hL
    go_enter Tryz.func48, Tryz.ntmps48
    go_wp2_with fail
    go_ret
    exact ⟨by rw [HX.out]; rfl, HB⟩
end Go.Proofs.YtfgflgifffjdgaaGreatDoor
