/-
  The reference's Unquote.
-/
import Derived.Test.YtpakfjfkibphjaaGreatDoorJtREscW
import Derived.Test.YtpakfjfkibphjaaGreatDoorJtUnq
namespace Go.Proofs.YtpakfjfkibphjaaGreatDoor
open Go.RowKit Sh
namespace Jt
theorem esc_one {r x : List UInt8} {k : Nat} (h : escF r = some (x, k)) : 1 ≤ k ∧ k ≤ r.length ∧ x.length ≤ 4 := by
  have e := esc_is r
  rw [h] at e
  cases hn : escN (92 :: r) with
  | none => rw [hn] at e; cases e
  | some p =>
    obtain ⟨c, m⟩ := p
    rw [hn] at e
    have ht := esc_told hn
    have e2 : some (x, k) = some (bytesF c, m - 1) := e
    simp only [Option.some.injEq, Prod.mk.injEq] at e2
    obtain ⟨rfl, rfl⟩ := e2
    have h2 := ht.two
    have h3 := ht.le
    rw [List.length_cons] at h3
    exact ⟨by omega, by omega, bytes_len c⟩
theorem unq_esc_at {l : List UInt8} {i : Nat} {r x : List UInt8} {k : Nat} (h : l.drop i = 92 :: r) (he : escF r = some (x, k)) : unqB (l.drop i) = (unqB (l.drop (i + 1 + k))).map fun p => (x ++ p.1, 1 + k + p.2) := by
  rw [h, unq_esc he, show i + 1 + k = i + (1 + k) by omega, ← List.drop_drop, h, Nat.add_comm 1 k, List.drop_succ_cons]
theorem unq_esc_no {l : List UInt8} {i : Nat} {r : List UInt8} (h : l.drop i = 92 :: r) (he : escF r = none) : unqB (l.drop i) = none := by
  rw [h, unqB, if_neg (by decide), if_pos rfl, he]
  rfl
end Jt
open Jt
set_option maxRecDepth 100000 in
set_option maxHeartbeats 8000000 in
theorem jt_runquote (w : World) (l : List UInt8) (hl : l.length ≤ 1000000000) : Calls Tryz.prog 53 #[.string (sb l)] w fun e w' => e = .returned (unqV (unqF l)) ∧ Below w.heap.size w w' := by
  match l with
  | [] =>
    have h1 : (sb []).toList = [] := sb_list _
    show Calls _ _ _ _ fun e w' => e = .returned (unqV none) ∧ _
    unfold unqV
    go_enter Tryz.func53, Tryz.ntmps53
    go_wp2_with fail
    go_ret3
    exact ⟨rfl, Below.refl _ _⟩
  | a :: r =>
    have h1 : ¬ (sb (a :: r)).toList = [] := by rw [sb_list]; exact List.cons_ne_nil _ _
    have h2 : (sb (a :: r)).toList.isEmpty = false := by rw [sb_list]; rfl
    have hix : ∀ W, (Instr.index 9 (.string (sb (a :: r))) (.int .i64 0)).run Tryz.prog W = .ok (.int .u8 (n8 a)) W := fun W => sb_index (a :: r) 0 (by simp) W
    by_cases ha : a = 34
    · subst ha
      have hix : ∀ W, (Instr.index 9 (.string (sb (34 :: r))) (.int .i64 0)).run Tryz.prog W = .ok (.int .u8 34) W := hix
      have hu : unqF (34 :: r) = (unqB ((34 :: r).drop 1)).map fun p => ([] ++ p.1, 1 + p.2) := by rw [unqF, if_pos rfl]; rfl
      have hl0 : 1 ≤ (34 :: r).length := by simp
      generalize 34 :: r = l at *
      have HU := Lib.hid hu
      clear hu
      have HX := Lib.hid (fun (i : Nat) (h : i < l.length) W => sb_index l i h W)
      have hsz := sb_size l
      go_enter Tryz.func53, Tryz.ntmps53
      go_wp2_with fail
      go_loopg [5, 6] l.length (fun g vo vk wx => ∃ (k : Nat) (acc : List UInt8), k + g = l.length + 1 ∧ k ≤ l.length ∧ vo = .string (sb acc) ∧ vk = .int .i64 (k : Int) ∧ acc.length ≤ 4 * k ∧ Hid (unqF l = (unqB (l.drop k)).map fun q => (acc ++ q.1, k + q.2)) ∧ Hid (Below w.heap.size w wx))
      case atStart => exact ⟨1, [], by omega, hl0, rfl, rfl, by simp, HU, Lib.hid (Below.refl _ _)⟩
      case round =>
        obtain ⟨k, acc, hkg, hkl, rfl, rfl, hal, HS, HB⟩ := hrel
        by_cases hlt : k < l.length
        · have hix1 := HX.out k hlt
          have hat := at_of l hlt
          obtain ⟨c, hc⟩ : ∃ c, l[k] = c := ⟨_, rfl⟩
          obtain ⟨t, ht⟩ : ∃ t, l.drop (k + 1) = t := ⟨_, rfl⟩
          rw [hc] at hix1
          rw [hc, ht] at hat
          have hki : (k : Int) < (l.length : Int) := by omega
          have hkb : (k : Int) ≤ 1000000000 := by omega
          have HTL := Lib.hid (show t.length = l.length - (k + 1) from by rw [← ht, List.length_drop])
          have hcutT := sb_from' l (k + 1) l.length rfl
          rw [ht] at hcutT
          have hcut := sb_from' l k l.length rfl
          rw [hat] at hcut
          clear HX HU hl0 hix h1 h2 hc ht
          by_cases c34 : c = 34
          · subst c34
            have hix1 : ∀ W, (Instr.index 9 (.string (sb l)) (.int .i64 (k : Int))).run Tryz.prog W = .ok (.int .u8 34) W := hix1
            have HN := Lib.hid (show unqV (unqF l) = .tuple #[.string (sb acc), .int .i64 ((k + 1 : Nat) : Int), .bool true] from by
              rw [HS.out, unq_at_end hat]
              show unqV (some (acc ++ [], k + 1)) = _
              rw [List.append_nil]
              rfl)
            clear hcut hcutT hat HS hkl hlt
            generalize sb l = S at *
            go_wp2_with fail
            go_ret3
            exact ⟨by rw [HN.out]; rfl, HB.out⟩
          have hd34 : ¬ n8 c = 34 := fun e => c34 (n8_is (c := 34) e)
          by_cases c92 : c = 92
          · subst c92
            have hix1 : ∀ W, (Instr.index 9 (.string (sb l)) (.int .i64 (k : Int))).run Tryz.prog W = .ok (.int .u8 92) W := hix1
            have HE := Lib.hid (fun W => jt_resc W t (by have := HTL.out; omega))
            obtain ⟨k1, hk1⟩ : ∃ k1, k1 = k + 1 := ⟨_, rfl⟩
            rw [← hk1] at hcutT
            have hk1i : (k : Int) + 1 = (k1 : Int) := by omega
            cases he : escF t with
            | none =>
              have HN := Lib.hid (show unqV (unqF l) = .tuple #[.string ⟨#[]⟩, .int .i64 0, .bool false] from by
                rw [HS.out, unq_esc_no hat he]
                rfl)
              rw [he] at HE
              unfold escFV at HE
              dsimp only at HE
              clear hcut hat HS hkl hlt he hk1 hd34
              generalize sb t = T at *
              generalize sb l = S at *
              generalize l.length = ln at *
              go_wp2_with fail
              refine (HE.out _).mono ?_
              rintro e w3 ⟨rfl, B3⟩
              have HB3 := Lib.hid (HB.out.trans (B3.mono HB.out.size))
              clear B3
              go_wp2_with fail
              go_ret3
              exact ⟨by rw [HN.out]; rfl, HB3.out⟩
            | some p =>
              obtain ⟨x, kk⟩ := p
              obtain ⟨q1, q2, q3⟩ := esc_one he
              have HN := Lib.hid (show unqF l = (unqB (l.drop (k + 1 + kk))).map fun q => ((acc ++ x) ++ q.1, k + 1 + kk + q.2) from by
                rw [HS.out, unq_esc_at hat he, Option.map_map]
                congr 1
                funext q
                simp only [Function.comp, List.append_assoc, Nat.add_assoc])
              rw [he] at HE
              unfold escFV at HE
              dsimp only at HE
              have happ := sb_app acc x
              have hns : ¬ 9223372036854775807 < (sb acc).size + (sb x).size := app_ok (by omega)
              have HLA := Lib.hid (show (acc ++ x).length ≤ 4 * (k + 1 + kk) from by rw [List.length_append]; omega)
              have HKK := Lib.hid (show k + 1 + kk ≤ l.length from by have := HTL.out; omega)
              have hkk0 : ¬ (kk : Int) = 0 := by omega
              have hkk1 : (kk : Int) ≤ 1000000000 := by have := HTL.out; omega
              have hkk2 : 0 ≤ (kk : Int) := by omega
              have HK1 := Lib.hid hk1
              have HKK1 := Lib.hid q1
              clear hcut hat HS hkl hlt he hk1 hd34 q1 q2 q3
              generalize sb t = T at *
              generalize sb l = S at *
              generalize hA : sb acc = A at *
              clear hA
              generalize sb x = X at *
              go_wp2_with fail
              refine (HE.out _).mono ?_
              rintro e w3 ⟨rfl, B3⟩
              have HB3 := Lib.hid (HB.out.trans (B3.mono HB.out.size))
              clear B3
              go_wp2_with fail
              go_roundg (gk - 1 - kk)
              case measure => have := HKK.out; omega
              case rel => exact ⟨k + 1 + kk, _, by have := HKK.out; omega, HKK.out, rfl, (by have := HK1.out; go_num), HLA.out, HN, HB3⟩
          · have hd92 : ¬ n8 c = 92 := fun e => c92 (n8_is (c := 92) e)
            have HC := Lib.hid (jt_char wr (c :: t) (List.cons_ne_nil _ _) (by rw [List.length_cons]; have := HTL.out; omega))
            by_cases hz : (charF (c :: t)).2 = 0 ∨ (charF (c :: t)).1 < 32
            · have HN := Lib.hid (show unqV (unqF l) = .tuple #[.string ⟨#[]⟩, .int .i64 0, .bool false] from by
                rw [HS.out, unq_at_bad hat c34 c92 hz]
                rfl)
              have hz2 : ((charF (c :: t)).2 : Int) = 0 ∨ (¬ ((charF (c :: t)).2 : Int) = 0 ∧ ((charF (c :: t)).1 : Int) < 32) := by omega
              unfold charV at HC
              clear hz hcutT hat HS hkl hlt
              generalize ((charF (c :: t)).1 : Int) = z at *
              generalize ((charF (c :: t)).2 : Int) = y at *
              generalize sb (c :: t) = T at *
              generalize sb l = S at *
              generalize l.length = ln at *
              generalize n8 c = d at *
              go_wp2_with fail
              refine HC.out.mono ?_
              rintro e w3 ⟨rfl, B3⟩
              have HB3 := Lib.hid (HB.out.trans (B3.mono HB.out.size))
              clear B3
              rcases hz2 with rfl | ⟨hz2, hz3⟩
              · go_wp2_with fail
                go_ret3
                exact ⟨by rw [HN.out]; rfl, HB3.out⟩
              · go_wp2_with fail
                go_ret3
                exact ⟨by rw [HN.out]; rfl, HB3.out⟩
            · have h0 : (charF (c :: t)).2 ≠ 0 := fun e => hz (.inl e)
              have h32 : ¬ (charF (c :: t)).1 < 32 := fun e => hz (.inr e)
              obtain ⟨q1, q2⟩ := char_len h0
              have htk := take_char h0
              have hcut2 := sb_cut l k (k + (charF (c :: t)).2)
              rw [show (l.take (k + (charF (c :: t)).2)).drop k = bytesF (charF (c :: t)).1 from by
                rw [List.drop_take, Nat.add_sub_cancel_left, hat, htk]] at hcut2
              have hq := unq_at_ch hat c34 c92 hz
              have HN := Lib.hid (show unqF l = (unqB (l.drop (k + (charF (c :: t)).2))).map fun q => ((acc ++ bytesF (charF (c :: t)).1) ++ q.1, k + (charF (c :: t)).2 + q.2) from by
                rw [HS.out, hq, Option.map_map]
                congr 1
                funext q
                simp only [Function.comp, List.append_assoc, Nat.add_assoc])
              have hbl := bytes_len (charF (c :: t)).1
              rw [List.length_cons] at q2
              unfold charV at HC
              have happ := sb_app acc (bytesF (charF (c :: t)).1)
              have hns : ¬ 9223372036854775807 < (sb acc).size + (sb (bytesF (charF (c :: t)).1)).size := app_ok (by omega)
              clear hz hcutT hat HS c34 c92 h0 htk hq
              generalize (charF (c :: t)).1 = n at *
              generalize (charF (c :: t)).2 = j at *
              have HKK := Lib.hid (show k + j ≤ l.length from by have := HTL.out; omega)
              have HLA := Lib.hid (show (acc ++ bytesF n).length ≤ 4 * (k + j) from by rw [List.length_append]; omega)
              have hj0 : ¬ (j : Int) = 0 := by omega
              have hj0b : ((j : Int) == 0) = false := beq_eq_false_iff_ne.2 hj0
              have hn32 : 32 ≤ (n : Int) := by omega
              obtain ⟨kj, hkj⟩ : ∃ kj, kj = k + j := ⟨_, rfl⟩
              rw [← hkj] at hcut2 HKK HLA HN
              have hkji : (k : Int) + (j : Int) = (kj : Int) := by omega
              have hkj2 : (k : Int) ≤ (kj : Int) := by omega
              have hkj3 : (kj : Int) ≤ (l.length : Int) := by have := HKK.out; omega
              have HJ := Lib.hid (show kj = k + j ∧ 1 ≤ j from ⟨hkj, q1⟩)
              clear hkj h32 hbl q1 q2 hlt hkl
              generalize bytesF n = x at *
              generalize (n : Int) = z at *
              generalize sb (c :: t) = T at *
              generalize hA : sb acc = A at *
              clear hA
              generalize sb x = X at *
              generalize hS : sb l = S at *
              clear hS
              generalize n8 c = d at *
              go_wp2_with fail
              refine HC.out.mono ?_
              rintro e w3 ⟨rfl, B3⟩
              have HB3 := Lib.hid (HB.out.trans (B3.mono HB.out.size))
              clear B3
              go_wp2_with fail
              go_roundg (gk - j)
              case measure => have := HKK.out; have := HJ.out; omega
              case rel => exact ⟨kj, _, by have := HKK.out; have := HJ.out; omega, HKK.out, rfl, (by first | rfl | go_num), HLA.out, HN, HB3⟩
        · obtain rfl : k = l.length := by omega
          have HN := Lib.hid (show unqV (unqF l) = .tuple #[.string ⟨#[]⟩, .int .i64 0, .bool false] from by
            rw [HS.out, List.drop_length, unq_nil]
            rfl)
          have hki : ¬ (l.length : Int) < (l.length : Int) := by omega
          clear HS
          generalize sb l = S at *
          go_wp2_with fail
          go_ret3
          exact ⟨by rw [HN.out]; rfl, HB.out⟩
    · have hn : ¬ n8 a = 34 := fun e => ha (n8_is (c := 34) e)
      have hu : unqF (a :: r) = none := by rw [unqF, if_neg ha]
      rw [hu]
      unfold unqV
      generalize sb (a :: r) = S at *
      generalize n8 a = d at *
      clear hu ha
      go_enter Tryz.func53, Tryz.ntmps53
      go_wp2_with fail
      go_ret3
      exact ⟨rfl, Below.refl _ _⟩
end Go.Proofs.YtpakfjfkibphjaaGreatDoor
