/-
  A sorted row's objects: where their members begin, whose Keys rise.
-/
import Derived.Test.YtpakfjfkibphjaaGreatDoorJsEndW
import Derived.Test.YtpakfjfkibphjaaGreatDoorJsA
import Derived.Test.YtpakfjfkibphjaaGreatDoorJsBackW
namespace Go.Proofs.YtpakfjfkibphjaaGreatDoor
open Go
namespace Js
open Jt
theorem less_lt : ∀ a b : List UInt8, Op.bytesLess a b = ltF a b
  | [], [] => rfl
  | _ :: _, [] => rfl
  | [], _ :: _ => rfl
  | a :: x, b :: y => by
    have ih := less_lt x y
    have h1 : Op.bytesLess (a :: x) (b :: y) = (decide (a < b) || (a == b && Op.bytesLess x y)) := rfl
    rw [h1, ltF, ih]
    by_cases e : a = b
    · subst e
      rw [if_pos rfl, decide_eq_false (UInt8.lt_irrefl a)]
      simp
    · rw [if_neg e, beq_eq_false_iff_ne.2 e, Bool.false_and, Bool.or_false]
      exact decide_eq_decide.2 UInt8.lt_iff_toNat_lt
theorem drop_get {l x : List V} {k : Nat} {v : V} (h : l.drop k = v :: x) : ∃ hk : k < l.length, l[k] = v := by
  have hk : k < l.length := by
    have := congrArg List.length h
    rw [List.length_drop, List.length_cons] at this
    omega
  refine ⟨hk, ?_⟩
  rw [List.drop_eq_getElem_cons hk] at h
  exact (List.cons.inj h).1
/-- Where an object's members begin. -/
theorem sorts_at {d : Nat} {o : Bool} {ks : List (List UInt8)} {s : List V} {t : List UInt8} (h : SR d o ks s t) (i : Nat) (hi : i < s.length) (h6 : s[i].kind = 6) : ∃ K : Nat → Nat, K 0 = i + 1 ∧ ∀ j : Nat, ((j : Nat) : Int) + 1 < s[i].count → K j < K (j + 1) ∧ endN s (K j) = K (j + 1) ∧ ∃ (h1 : K j < s.length) (h2 : K (j + 1) < s.length), ltF s[K j].key s[K (j + 1)].key = true := by
  obtain ⟨d', o', v, l1, t1, x, e, hone⟩ := sr_at h i hi
  obtain ⟨_, ev⟩ := drop_get e
  rw [ev] at h6 ⊢
  obtain ⟨ks2, q1, q2, q3⟩ := hone.kids
  have ho : isObj v = true := by unfold isObj; rw [h6]; rfl
  obtain ⟨P, hP, hparts⟩ := sr_parts q1
  have hr := q3 ho
  refine ⟨fun j => i + 1 + (P.take j).flatten.length, by simp, fun j hj => ?_⟩
  obtain ⟨v1, l1a, t1a, x1, e1, o1, k1, n1⟩ := parts_at hparts.parts j (by omega)
  obtain ⟨v2, l2a, t2a, x2, e2, o2, k2, _⟩ := parts_at hparts.parts (j + 1) (by omega)
  have hd : ∀ a (y : List V), P.flatten.drop a = y → s.drop (i + 1 + a) = y ++ (x.drop (a - P.flatten.length)) := fun a y hy => by
    have h2 : s.drop (i + 1 + a) = (l1 ++ x).drop a := by
      have h3 : s.drop (i + (1 + a)) = (v :: (l1 ++ x)).drop (1 + a) := by rw [← e, List.drop_drop]
      rw [Nat.add_assoc, h3, Nat.add_comm 1 a, List.drop_succ_cons]
    rw [h2, List.drop_append, ← hP, hy]
  have f1 := hd _ _ e1
  have f2 := hd _ _ e2
  rw [List.cons_append, List.append_assoc] at f1 f2
  obtain ⟨g1, u1⟩ := drop_get f1
  obtain ⟨g2, u2⟩ := drop_get f2
  dsimp only
  refine ⟨by rw [n1]; omega, ?_, g1, g2, ?_⟩
  · unfold endN
    rw [if_pos g1, f1, endP_one o1]
    dsimp only
    rw [n1]
    omega
  · rw [u1, u2]
    exact hr.at_ k1 k2
end Js
end Go.Proofs.YtpakfjfkibphjaaGreatDoor

namespace Go.Proofs.YtpakfjfkibphjaaGreatDoor
open Go.RowKit Sh Jt Js
theorem short_mem {M : Nat} {L S : List V} (h : Short M L) (hs : ∀ v ∈ S, v ∈ L) : Short M S := fun v hv => h v (hs v hv)
theorem sort_mem : ∀ (f d : Nat) (o : Bool) (v : V) (l : List V) (t : List UInt8), l.length + 1 ≤ f → One d o v l t → ∀ x ∈ sortF f (v :: l), x ∈ v :: l := by
  intro f
  induction f with
  | zero => intro d o v l t h; omega
  | succ f ih =>
    intro d o v l t hf h x hx
    obtain ⟨s1, _, _, _⟩ := sort_ordP (f := f) h (by omega)
    rw [s1] at hx
    rcases List.mem_cons.1 hx with rfl | hx
    · exact List.mem_cons_self
    · obtain ⟨q, hq, hxq⟩ := List.mem_flatten.1 hx
      obtain ⟨p, hp, rfl⟩ := List.mem_map.1 hq
      have hp2 := (ordP_perm v l).mem_iff.1 hp
      obtain ⟨v2, l2, t2, rfl, o2, hle⟩ := part_one h p hp2
      have := ih (d + 1) (isObj v) v2 l2 t2 (by rw [List.length_cons] at hle; omega) o2 x hxq
      exact List.mem_cons_of_mem _ (((own_ends (own_endP h)).2 _ hp2).2 x this)
theorem count_le {d : Nat} {o : Bool} {ks : List (List UInt8)} {s : List V} {t : List UInt8} (h : SR d o ks s t) (i : Nat) (hi : i < s.length) : s[i].count ≤ (s.length : Int) := by
  obtain ⟨d', o', v, l1, t1, x, e, hone⟩ := sr_at h i hi
  obtain ⟨_, ev⟩ := drop_get e
  rw [ev]
  obtain ⟨ks2, h1, h2, _⟩ := own_parts hone.one []
  rw [List.append_nil] at h1
  have h3 := own_many (own_endP hone.one)
  have h4 := h1.len
  have h5 := congrArg List.length e
  rw [List.length_drop, List.length_cons, List.length_append] at h5
  omega
theorem sort_row_mem {l : List V} {t : List UInt8} (h : Js.Row l t) : ∀ x ∈ sortF l.length l, x ∈ l := by
  obtain ⟨v, r, t1, rfl, h1, _⟩ := row_one' h
  exact sort_mem _ 0 false v r t1 (Nat.le_refl _) h1
set_option maxRecDepth 100000 in
set_option maxHeartbeats 16000000 in
theorem jsonSorts_all (w : World) (A : Option Addr) (n c : Nat) (L : List V) (hL : ValsAt w A n c L) (hn : n ≤ 140737488351232) (hs : Fits L) (hE : LEnv w) :
    Calls Tryz.prog 5 #[.slice A n c] w fun e w' => e = .returned (.bool true) ∧ Below w.heap.size w w' := by
  obtain rfl := hL.len
  have HS := Lib.hid (js_small w hE)
  have HF := Lib.hid (fun W (k : Below w.heap.size w W) => js_few W A L.length c L (hL.below k) hn hs)
  have HE := Lib.hid hE
  have HL := Lib.hid hL
  clear hE hL hs
  cases hf : fewF L with
  | false =>
    rw [hf] at HF
    clear hf
    go_enter Tryz.func5, Tryz.ntmps5
    go_wp2_with fail
    refine HS.out.mono ?_
    rintro e w1 ⟨rfl, HB⟩
    have HFF := Lib.hid (HF.out w1 HB.out)
    clear HS HF
    go_wp2_with fail
    refine HFF.out.mono ?_
    rintro e w2 ⟨rfl, m, rfl⟩
    have HB2 := Lib.hid (below_drew (m := m) HB.out)
    clear HFF HB
    generalize w1.drewN m = w2 at *
    go_wp2_with fail
    go_ret
    exact ⟨rfl, HB2.out⟩
  | true =>
    rw [hf] at HF
    obtain ⟨hl8, hsh⟩ := few_is hf
    clear hf
    go_enter Tryz.func5, Tryz.ntmps5
    go_wp2_with fail
    refine HS.out.mono ?_
    rintro e w1 ⟨rfl, HB⟩
    have HFF := Lib.hid (HF.out w1 HB.out)
    clear HS HF
    go_wp2_with fail
    refine HFF.out.mono ?_
    rintro e w2 ⟨rfl, m, rfl⟩
    have HB2 := Lib.hid (below_drew (m := m) HB.out)
    clear HFF HB
    generalize w1.drewN m = w2 at *
    have HSO := Lib.hid (js_sortRow w2 A L.length c L (HL.out.below HB2.out) (by omega) (hsh.mono (by decide)) (HE.out.below HB2.out).tab)
    cases hr : rightPF L with
    | false =>
      rw [if_neg (by rw [hr]; decide)] at HSO
      go_wp2_with fail
      refine HSO.out.mono ?_
      rintro e w3 ⟨v3, rfl, HX3⟩
      obtain ⟨A3, k3, rfl, -, -⟩ := HX3.out.1.vals
      have HB3 := Lib.hid (HB2.out.trans (HX3.out.2.mono HB2.out.size))
      have HRT := Lib.hid (js_right w3 A L.length c L (HL.out.below HB3.out) (by omega) (hsh.mono (by decide)) (HE.out.below HB3.out).tab)
      rw [hr] at HRT
      clear HX3 HB2 HSO
      go_wp2_with fail
      refine HRT.out.mono ?_
      rintro e w4 ⟨rfl, K4⟩
      have HB4 := Lib.hid (HB3.out.trans (K4.out.mono HB3.out.size))
      clear K4 HRT HB3
      go_wp2_with fail
      go_ret
      exact ⟨rfl, HB4.out⟩
    | true =>
      rw [if_pos hr] at HSO
      obtain ⟨t, hrow⟩ := (prog_is L).1 hr
      obtain ⟨t', hrow', hsl, hSR, hsame⟩ := sort_row hrow
      have hsm := short_mem hsh (sort_row_mem hrow)
      have hpos := row_pos hrow'
      have hr2 := (prog_is _).2 ⟨_, hrow'⟩
      have HAT := Lib.hid (fun i hi h6 => sorts_at hSR i hi h6)
      have HCN := Lib.hid (fun i hi => count_le hSR i hi)
      have HSAME := Lib.hid (show sortF (sortF L.length L).length (sortF L.length L) = sortF L.length L by rw [hsl]; exact hsame)
      have HSL := Lib.hid hsl
      clear hrow hrow' hSR hsame hsl
      generalize sortF L.length L = S at *
      go_wp2_with fail
      refine HSO.out.mono ?_
      rintro e w3 ⟨v3, rfl, HX3⟩
      obtain ⟨g3, k3, rfl, -, -, hk3⟩ := HX3.out.1.got hpos
      have HV3 := Lib.hid HX3.out.1.at_.1
      have HB3 := Lib.hid (HB2.out.trans (HX3.out.2.mono HB2.out.size))
      have HRT := Lib.hid (js_right w3 A L.length c L (HL.out.below HB3.out) (by omega) (hsh.mono (by decide)) (HE.out.below HB3.out).tab)
      rw [hr] at HRT
      have hS8 : S.length ≤ 80 := by rw [HSL.out]; exact hl8
      clear HX3 HB2 HSO
      go_wp2_with fail
      refine HRT.out.mono ?_
      rintro e w4 ⟨rfl, K4⟩
      have HB4 := Lib.hid (HB3.out.trans (K4.out.mono HB3.out.size))
      have HV4 := Lib.hid (HV3.out.below K4.out)
      clear K4 HRT HB3 HV3
      go_wp2_with fail
      go_loopg [6] S.length (fun g v6 wr => ∃ i : Nat, v6 = .int .i64 (i : Int) ∧ i + g = S.length ∧ Hid (ValsAt wr (some ⟨g3, 0, none⟩) S.length k3 S) ∧ Hid (Below w.heap.size w wr))
      case atStart => exact ⟨0, rfl, by omega, HV4, HB4⟩
      case round =>
        clear HV4 HB4
        obtain ⟨i, rfl, hig, HV, HB⟩ := hrel
        cases gk with
        | zero =>
          obtain rfl : i = S.length := by omega
          have hge : ¬ (S.length : Int) < (S.length : Int) := by omega
          have hlq : ((S.length : Int) == (L.length : Int)) = true := beq_iff_eq.2 (by rw [HSL.out])
          have HRT := Lib.hid (js_right wr _ S.length k3 S HV.out (by omega) (hsm.mono (by decide)) (HE.out.below HB.out).tab)
          rw [hr2] at HRT
          clear HAT
          go_wp2_with fail
          refine HRT.out.mono ?_
          rintro e w5 ⟨rfl, K5⟩
          have HV5 := Lib.hid (HV.out.below K5.out)
          have HB5 := Lib.hid (HB.out.trans (K5.out.mono HB.out.size))
          have HSO := Lib.hid (js_sortRow w5 _ S.length k3 S HV5.out (by omega) (hsm.mono (by decide)) (HE.out.below HB5.out).tab)
          rw [if_pos hr2, HSAME.out] at HSO
          clear K5 HRT HV HB
          go_wp2_with fail
          refine HSO.out.mono ?_
          rintro e w6 ⟨v6, rfl, HX6⟩
          obtain ⟨g6, k6, rfl, -, -, hk6⟩ := HX6.out.1.got hpos
          have HV6 := Lib.hid (HV5.out.below HX6.out.2)
          have HB6 := Lib.hid (HB5.out.trans (HX6.out.2.mono HB5.out.size))
          have HSM := Lib.hid (js_same w6 _ _ S.length k6 S.length k3 S S HX6.out.1.at_.1 HV6.out (by omega) (by omega))
          rw [decide_eq_true (rfl : S = S)] at HSM
          clear HX6 HSO HV5 HB5 HV6
          go_wp2_with fail
          refine HSM.out.mono ?_
          rintro e w7 ⟨rfl, m7, rfl⟩
          go_wp2_with fail
          go_ret
          exact ⟨rfl, below_drew HB6.out⟩
        | succ g =>
          have hi : i < S.length := by omega
          have hiL : (i : Int) < (S.length : Int) := by omega
          have hc0 : ∀ W, ValsAt W (some ⟨g3, 0, none⟩) S.length k3 S → W.cell? ⟨g3, i * 4, none⟩ = some (.int .i64 S[i].kind) ∧ W.cell? ⟨g3, i * 4 + 3, none⟩ = some (.int .i64 S[i].count) := fun W hv => by
            have := hv.cells hi
            simp only [Nat.zero_add] at this
            exact ⟨this.1, this.2.2.2⟩
          have HC := Lib.hid hc0
          obtain ⟨a0, a3⟩ := hc0 wr HV.out
          by_cases h6 : S[i].kind = 6
          · obtain ⟨K, hK0, hK⟩ := HAT.out i hi h6
            have hcn := HCN.out i hi
            have HK := Lib.hid hK
            have HK0 := Lib.hid hK0
            rw [h6] at a0 HC
            clear hK hK0 hc0 HAT h6
            generalize S[i].count = cnt at *
            obtain ⟨M, hM1, hM2, hM3⟩ : ∃ M : Nat, 1 ≤ M ∧ cnt ≤ (M : Int) ∧ (2 ≤ M → (M : Int) = cnt) := by
              by_cases h : cnt ≤ 1
              · exact ⟨1, Nat.le_refl _, by omega, fun h => by omega⟩
              · exact ⟨cnt.toNat, by omega, by omega, fun _ => by omega⟩
            go_wp2_with fail
            go_loopg [7, 8] (M - 1) (fun g2 v7 v8 wx => ∃ j : Nat, v8 = .int .i64 ((j : Int) + 1) ∧ v7 = .int .i64 (K j : Int) ∧ j + 1 + g2 = M ∧ Hid (ValsAt wx (some ⟨g3, 0, none⟩) S.length k3 S) ∧ Hid (Below w.heap.size w wx))
            case atStart => exact ⟨0, rfl, by rw [HK0.out]; go_num, by omega, HV, HB⟩
            case round =>
              clear HV HB a0 a3
              obtain ⟨j, rfl, rfl, hjg, HV, HB⟩ := hrel
              obtain ⟨a0, a3⟩ := HC.out _ HV.out
              cases gk with
              | zero =>
                have hge : ¬ (j : Int) + 1 < cnt := by omega
                go_wp2_with fail
                go_roundg g
                case measure => omega
                case rel => exact ⟨i + 1, by go_num, by omega, HV, HB⟩
              | succ g2 =>
                have hlt : (j : Int) + 1 < cnt := by omega
                have hjb : j + 2 ≤ 80 := by
                  have := hM3 (by omega)
                  omega
                obtain ⟨e1, e2, b1, b2, e3⟩ := HK.out j hlt
                have hE1 := js_end wr _ S.length k3 S HV.out (by omega) (K j) (by omega)
                rw [e2] at hE1
                have HEN := Lib.hid hE1
                have HNX := Lib.hid (rfl : K (j + 1) = K (j + 1))
                have hbl : Op.bytesLess (sb S[K j].key).toList (sb S[K (j + 1)].key).toList = true := by
                  rw [sb_list, sb_list, less_lt]
                  exact e3
                have hcs : Hid (∀ W, ValsAt W (some ⟨g3, 0, none⟩) S.length k3 S → W.cell? ⟨g3, K j * 4 + 1, none⟩ = some (.string (sb S[K j].key)) ∧ W.cell? ⟨g3, K (j + 1) * 4 + 1, none⟩ = some (.string (sb S[K (j + 1)].key))) := Lib.hid (fun W hv => by
                  have h1 := (hv.cells b1).2.1
                  have h2 := (hv.cells b2).2.1
                  simp only [Nat.zero_add] at h1 h2
                  exact ⟨h1, h2⟩)
                have f1 : ¬ (K (j + 1) : Int) ≤ (K j : Int) := by omega
                have f2 : ¬ (S.length : Int) ≤ (K (j + 1) : Int) := by omega
                have f3 : decide ((K (j + 1) : Int) ≤ (K j : Int)) = false := decide_eq_false f1
                have f4 : decide ((S.length : Int) ≤ (K (j + 1) : Int)) = false := decide_eq_false f2
                have f5 : (K j : Int) < (S.length : Int) := by omega
                have f6 : (K (j + 1) : Int) < (S.length : Int) := by omega
                have f7 : decide (K (j + 1) ≤ K j) = false := decide_eq_false (by omega)
                have f8 : decide (S.length ≤ K (j + 1)) = false := decide_eq_false (by omega)
                clear hE1 e1 e2 e3 HNX f1 f2
                generalize hk2 : K (j + 1) = kn at *
                generalize sb S[K j].key = q1 at *
                generalize sb S[kn].key = q2 at *
                have HK2 := Lib.hid hk2
                clear hk2 b1 b2
                generalize K j = kj at *
                go_wp2_with fail
                refine HEN.out.mono ?_
                rintro e w5 ⟨rfl, K5⟩
                have HV5 := Lib.hid (HV.out.below K5.out)
                have HB5 := Lib.hid (HB.out.trans (K5.out.mono HB.out.size))
                obtain ⟨x1, y1⟩ := hcs.out w5 HV5.out
                clear K5 HEN HV HB hcs a0 a3
                go_upto_region 17 with fail
                go_quiet (fail)
                go_wp2_with fail
                go_roundg g2
                case measure => omega
                case rel => exact ⟨j + 1, by go_num, by rw [HK2.out], by omega, Lib.hid (HV5.out.below (below_drew (Below.refl _ _))), Lib.hid (below_drew HB5.out)⟩
          · have hkb : (S[i].kind == 6) = false := beq_eq_false_iff_ne.2 h6
            have hkn : (S[i].kind != 6) = true := bne_iff_ne.2 h6
            clear hc0 HC HAT
            generalize S[i].kind = kd at *
            generalize S[i].count = cnt at *
            go_wp2_with fail
            go_roundg g
            case measure => omega
            case rel => exact ⟨i + 1, by go_num, by omega, HV, HB⟩
end Go.Proofs.YtpakfjfkibphjaaGreatDoor
