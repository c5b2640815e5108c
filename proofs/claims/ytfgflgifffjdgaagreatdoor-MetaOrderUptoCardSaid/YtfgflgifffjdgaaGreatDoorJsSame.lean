/-
  The reference's Same: are two rows one?
-/
import Derived.Test.YtfgflgifffjdgaaGreatDoorJsMem
import Derived.BigQuiet
namespace Go.Proofs.YtfgflgifffjdgaaGreatDoor
open Go.RowKit Sh Jt Js
theorem js_str_eq (a b : List UInt8) : ((sb a).toList == (sb b).toList) = (a == b) := by rw [sb_list, sb_list]
set_option maxRecDepth 100000 in
theorem js_eq (W : World) (k1 k2 n1 n2 : Int) (a b c d : ByteArray) : (Op.equalIn 10000 61 (.agg #[.int .i64 k1, .string a, .string b, .int .i64 n1]) (.agg #[.int .i64 k2, .string c, .string d, .int .i64 n2])).run Tryz.prog W = .ok (((k1 == k2) && (a.toList == c.toList)) && ((b.toList == d.toList) && (n1 == n2))) W := by
  cases h0 : (k1 == k2) <;> cases h1 : (a.toList == c.toList) <;> cases h2 : (b.toList == d.toList) <;> cases h3 : (n1 == n2) <;> go_simp
set_option maxRecDepth 100000 in
set_option maxHeartbeats 4000000 in
theorem js_same (w : World) (A1 A2 : Option Addr) (n1 c1 n2 c2 : Nat) (L M : List V) (hL : ValsAt w A1 n1 c1 L) (hM : ValsAt w A2 n2 c2 M) (hn : n1 ≤ 140737488351232) (hn2 : n2 ≤ 140737488351232) :
    Calls Tryz.prog 38 #[.slice A1 n1 c1, .slice A2 n2 c2] w fun e w' => e = .returned (.bool (decide (L = M))) ∧ ∃ m, w' = w.drewN m := by
  have HL := Lib.hid hL
  have HM := Lib.hid hM
  have hlen := hL.len
  have hlen2 := hM.len
  clear hL hM
  by_cases hne : n1 = n2
  · subst hne
    go_enter Tryz.func38, Tryz.ntmps38
    go_wp2_with fail
    go_loopw [5] (fun i wr => ∃ k m : Nat, k ≤ n1 ∧ i = .int .i64 k ∧ Hid (L.take k = M.take k) ∧ wr = w.drewN m) (fun i _ => n1 - (intOf i).toNat)
    case atStart => exact ⟨0, 0, Nat.zero_le _, rfl, Lib.hid rfl, rfl⟩
    case round =>
      obtain ⟨k, m, hk, rfl, HO, rfl⟩ := hrel
      by_cases hlt : k < n1
      · obtain ⟨b, o, rfl, hbl, _⟩ := HL.out.at_ (by omega)
        obtain ⟨b2, o2, rfl, hbl2, _⟩ := HM.out.at_ (by omega)
        have hkl : k < L.length := by omega
        have hkm : k < M.length := by omega
        obtain ⟨x0, x1, x2, x3⟩ := HL.out.cells hkl
        obtain ⟨y0, y1, y2, y3⟩ := HM.out.cells hkm
        have hlt' : (k : Int) < (n1 : Int) := by omega
        have q1 := js_str_eq L[k].key M[k].key
        have q2 := js_str_eq L[k].text M[k].text
        have HT := Lib.hid (And.intro (List.take_succ_eq_append_getElem hkl) (List.take_succ_eq_append_getElem hkm))
        have HG := Lib.hid (show L = M → L[k] = M[k] from fun h => by subst h; rfl)
        generalize L[k] = p at *
        generalize M[k] = q at *
        by_cases he : p = q
        · subst he
          have HS := Lib.hid (show L.take (k + 1) = M.take (k + 1) by rw [HT.out.1, HT.out.2, HO.out])
          generalize sb p.key = s1 at *
          generalize sb p.text = s2 at *
          generalize p.kind = s3 at *
          generalize p.count = s4 at *
          have hq : ∀ W, (Op.equalIn 10000 61 (.agg #[.int .i64 s3, .string s1, .string s2, .int .i64 s4]) (.agg #[.int .i64 s3, .string s1, .string s2, .int .i64 s4])).run Tryz.prog W = .ok true W := fun W => by
            have := js_eq W s3 s3 s4 s4 s1 s2 s1 s2
            simpa using this
          clear q1 q2 HT HG
          go_upto_region 6 with fail
          go_quiet (fail)
          rw [World.drewN_drewN]
          go_wp2_with fail
          go_roundw
          case rel => exact ⟨k + 1, m + nq, by omega, by go_num, HS, rfl⟩
          case measure => simp [intOf] <;> omega
        · have HN := Lib.hid (show decide (L = M) = false from decide_eq_false fun h => he (HG.out h))
          have hz : (((p.kind == q.kind) && ((sb p.key).toList == (sb q.key).toList)) && (((sb p.text).toList == (sb q.text).toList) && (p.count == q.count))) = false := by
            rw [q1, q2]
            cases h0 : (p.kind == q.kind) with
            | false => rfl
            | true =>
              cases h1 : (p.key == q.key) with
              | false => rfl
              | true =>
                cases h2 : (p.text == q.text) with
                | false => rfl
                | true =>
                  cases h3 : (p.count == q.count) with
                  | false => rfl
                  | true =>
                    refine absurd ?_ he
                    obtain ⟨a1, a2, a3, a4⟩ := p
                    obtain ⟨b1, b2, b3, b4⟩ := q
                    obtain rfl := LawfulBEq.eq_of_beq h0
                    obtain rfl := LawfulBEq.eq_of_beq h1
                    obtain rfl := LawfulBEq.eq_of_beq h2
                    obtain rfl := LawfulBEq.eq_of_beq h3
                    rfl
          have hq : ∀ W, (Op.equalIn 10000 61 (.agg #[.int .i64 p.kind, .string (sb p.key), .string (sb p.text), .int .i64 p.count]) (.agg #[.int .i64 q.kind, .string (sb q.key), .string (sb q.text), .int .i64 q.count])).run Tryz.prog W = .ok false W := fun W => by
            rw [js_eq, hz]
          clear q1 q2 HT HG hz
          generalize sb p.key = s1 at *
          generalize sb p.text = s2 at *
          generalize p.kind = s3 at *
          generalize p.count = s4 at *
          generalize sb q.key = s5 at *
          generalize sb q.text = s6 at *
          generalize q.kind = s7 at *
          generalize q.count = s8 at *
          go_upto_region 6 with fail
          go_quiet (fail)
          rw [World.drewN_drewN]
          go_wp2_with fail
          go_ret
          exact ⟨by rw [HN.out]; rfl, _, rfl⟩
      · obtain rfl : k = n1 := by omega
        have HN : Hid (decide (L = M) = true) := Lib.hid (decide_eq_true (by
          have h := HO.out
          rwa [List.take_of_length_le (by omega), List.take_of_length_le (by omega)] at h))
        have hge : ¬ (k : Int) < (k : Int) := by omega
        go_wp2_with fail
        go_ret
        exact ⟨by rw [HN.out]; rfl, _, rfl⟩
  · have HN := Lib.hid (show decide (L = M) = false from decide_eq_false fun h => hne (by rw [← hlen, ← hlen2, h]))
    have hb : ((n1 : Int) != (n2 : Int)) = true := bne_iff_ne.2 (by omega)
    clear hne
    go_enter Tryz.func38, Tryz.ntmps38
    go_wp2_with fail
    go_ret
    exact ⟨by rw [HN.out]; rfl, 0, rfl⟩
end Go.Proofs.YtfgflgifffjdgaaGreatDoor
