/-
  The law OctalWrites: its walk.
-/
import Derived.Test.YtddjkgikhfncnaaDoorOcSmall
import Derived.Test.YtddjkgikhfncnaaDoorOcRWrite
import Derived.Deep.CutBlock
import Derived.Lib.QuietBelow
import Derived.StillTailTactics
namespace Go.Proofs.YtddjkgikhfncnaaDoor
open Go.RowKit Sh Oc

theorem rwrite_is (w : World) (n s : Int) (o : Option (List UInt8)) (h : writeZ n s = o) :
    Calls Tryd.prog 12 #[.int .i64 n, .int .i64 s] w fun e w' => (∃ A c, e = .returned (.tuple #[.slice A (o.getD []).length c, .bool o.isSome]) ∧ Hid (BytesAt w' A (o.getD []).length c (o.getD [])) ∧ c ≤ maxLen ∧ Hid (A = none → c = 0)) ∧ Hid (Below w.heap.size w w') := by
  subst h
  refine (rwrite_any w n s).mono fun e w' ⟨⟨v, he, ho⟩, hb⟩ => ⟨?_, hb⟩
  obtain ⟨A, c, rfl, hy, hc, hn⟩ := ho.out.at2
  exact ⟨A, c, he, Lib.hid hy, hc, Lib.hid hn⟩
def sliceLen : Value → Nat
  | .slice _ n _ => n
  | _ => 0
/-- What was appended so far, from b on. -/
structure GrAt (w wr : World) (L : List UInt8) (v : Value) : Prop where
  own : OwnBytes wr w.heap.size v L
  kept : Kept w wr (fun _ => False)

set_option maxRecDepth 100000 in
set_option maxHeartbeats 8000000 in
theorem writes_in (w : World) (n s : Int) (A : Option Addr) (c : Nat) (bs : List UInt8) (hc : c ≤ maxLen) (S : BytesAt w A bs.length c bs) (hA : A = none → c = 0) (hn : bs.length ≤ 600) : Calls Tryd.prog 4 #[.int .i64 n, .int .i64 s, .slice A bs.length c] w fun e w' => e = .returned (.bool true) ∧ Below w.heap.size w w' := by
  have HS := Lib.hid S
  have HA := Lib.hid hA
  have hcap := S.cap
  have HC := Lib.hid hc
  unfold maxLen at hc
  clear S hA
  have hn' : (bs.length : Int) ≤ 600 := by omega
  go_enter Tryd.func4, Tryd.ntmps4
  go_wp2_with fail
  refine (small5 w).mono ?_
  rintro e w1 ⟨rfl, K1⟩
  obtain ⟨o, ho⟩ : ∃ o, writeZ n s = o := ⟨_, rfl⟩
  have HO := Lib.hid ho
  clear ho
  go_wp2_with fail
  refine (write_is w1 n s o HO.out).mono ?_
  rintro e w2 ⟨⟨A1, c1, rfl, Y1, _, _⟩, K2⟩
  have KK2 := Lib.hid (K1.out.trans (K2.out.mono K1.out.size))
  clear K1 K2
  go_wp2_with fail
  refine (rwrite_is w2 n s o HO.out).mono ?_
  rintro e w3 ⟨⟨A2, c2, rfl, Y2, _, _⟩, K3⟩
  have Y13 := Lib.hid (Y1.out.below K3.out)
  have KK3 := Lib.hid (KK2.out.trans (K3.out.mono KK2.out.size))
  clear KK2 K3 Y1
  generalize o.isSome = ok at *
  generalize o.getD [] = bs1 at *
  go_upto_region 7 with ((at_builtin; with_reducible refine append_bytes ?_ (.tmp 30) (.tmp 31) ?_ w3.heap.size _ [] ?_ (OwnBytes.row (b := w3.heap.size) (Row.at_ _ _ [] rfl rfl) (Nat.le_refl _) (Nat.zero_le _)) A bs.length c bs ?_ ((HS.out.below KK3.out).kept (kept_alloc _ _) (fun _ _ _ _ h => h)) HA.out ?_ ?_ ?_); rfl; rfl; go_must (rfl; rfl; (rw [List.length_nil]; omega); simp; intro v4 w4 O4 K4))
  rw [List.nil_append] at O4
  have G4 : Hid (GrAt w3 w4 bs v4) := Lib.hid ⟨O4.out, kept_own (kept_alloc w3 _) K4.out (Nat.le_refl _)⟩
  clear O4 K4
  obtain ⟨A4, c4, e4, _⟩ := G4.out.own.bytes
  subst e4
  have Z3 : Hid (w.heap.size ≤ w3.heap.size) := Lib.hid KK3.out.size
  go_loopw [12] (fun v wr => ∃ (A : Option Addr) (c : Nat) (L : List UInt8), v = .slice A L.length c ∧ L.length ≤ 600 ∧ Hid (GrAt w3 wr L (.slice A L.length c))) (fun v _ => 512 - sliceLen v)
  case atStart => exact ⟨A4, c4, bs, rfl, hn, G4⟩
  case round =>
    obtain ⟨A5, c5, L, rfl, hL, G5⟩ := hrel
    clear G4
    by_cases hlt : L.length < 512
    · have hlt' : (L.length : Int) < 512 := by omega
      have zr := G5.out.kept.size
      have HB : Hid (#[Value.int .u8 ((L.length : Int) % 256)] = (([UInt8.ofNat (L.length % 256)] : List UInt8).map v8).toArray) := Lib.hid (by rw [← by_ok L.length]; rfl)
      go_wp2_with ((at_builtin; with_reducible refine append_bytes ?_ (.tmp 36) (.tmp 40) ?_ w3.heap.size (.slice A5 L.length c5) L ?_ (G5.out.own.kept (kept_alloc _ _) (fun _ _ h => h)) (some ⟨wr.heap.size, 0, none⟩) 1 1 [UInt8.ofNat (L.length % 256)] ?_ ?_ ?_ ?_ ?_ ?_); rfl; rfl; go_must (rfl; rfl; exact BytesAt.const wr [UInt8.ofNat (L.length % 256)] _ _ HB.out rfl; (intro e; cases e); omega; (simp; omega); intro v6 w6 O6 K6; simp only [Act.put, List.setIfInBounds_toArray, List.set_cons_succ, List.set_cons_zero]))
      have G6 : Hid (GrAt w3 w6 (L ++ [UInt8.ofNat (L.length % 256)]) v6) := Lib.hid ⟨O6.out, kept_own (kept_trans G5.out.kept (kept_alloc wr _)) K6.out (Nat.le_refl _)⟩
      clear O6 K6
      obtain ⟨A6, c6, e6, _⟩ := G6.out.own.bytes
      subst e6
      go_roundw
      case rel => exact ⟨A6, c6, _, rfl, by rw [List.length_append, List.length_singleton]; omega, G6⟩
      case measure => simp only [sliceLen, List.length_append, List.length_singleton]; omega
    · have hge : ¬ (L.length : Int) < 512 := by omega
      have KW : Hid (Below w.heap.size w wr) := Lib.hid (KK3.out.trans (G5.out.kept.below Z3.out (fun _ _ h => h)))
      obtain ⟨A7, c7, e7, Y7, _, _⟩ := G5.out.own.at2
      have e8 : A7 = A5 ∧ c7 = c5 := by
        simp only [Value.slice.injEq] at e7
        exact ⟨e7.1.symm, e7.2.2.symm⟩
      obtain ⟨rfl, rfl⟩ := e8
      clear e7
      have hq1 := conv_bytes wr A1 bs1.length c1 bs1 (Y13.out.kept G5.out.kept (fun _ _ _ _ h => h))
      have hq2 := conv_bytes wr A2 bs1.length c2 bs1 (Y2.out.kept G5.out.kept (fun _ _ _ _ h => h))
      have HY := Lib.hid Y7
      have HSr := Lib.hid (HS.out.below KW.out)
      clear Y7
      have k1 := fun w' (e : w' = wr) => check_any w' A bs.length c bs (e ▸ HSr.out) (by unfold maxLen; omega)
      have k2 := fun w' (e : w' = wr) => rcheck_any w' A bs.length c bs (e ▸ HSr.out) (by unfold maxLen; omega)
      have k3 := fun w' (e : w' = wr) => check_any w' A7 L.length c7 L (e ▸ HY.out) (by unfold maxLen; omega)
      have k4 := fun w' (e : w' = wr) => rcheck_any w' A7 L.length c7 L (e ▸ HY.out) (by unfold maxLen; omega)
      generalize checkF bs = f1 at k1 k2
      generalize checkF L = f2 at k3 k4
      have E1 := Lib.hid (k1 _ rfl)
      have E2 := Lib.hid (k2 _ rfl)
      have E3 := Lib.hid (k3 _ rfl)
      have E4 := Lib.hid (k4 _ rfl)
      clear k1 k2 k3 k4
      go_wp2_with fail
      refine E1.out.mono ?_
      rintro e w5 ⟨rfl, rfl⟩
      go_wp2_with fail
      refine E2.out.mono ?_
      rintro e w5 ⟨rfl, rfl⟩
      go_wp2_with fail
      refine E3.out.mono ?_
      rintro e w5 ⟨rfl, rfl⟩
      go_wp2_with fail
      refine E4.out.mono ?_
      rintro e w5 ⟨rfl, rfl⟩
      go_wp2_with fail
      go_ret
      exact ⟨rfl, KW.out⟩

set_option maxRecDepth 100000 in
set_option maxHeartbeats 1000000 in
theorem writes_all (w : World) (n s : Int) (A : Option Addr) (c : Nat) (bs : List UInt8) (hc : c ≤ maxLen) (S : BytesAt w A bs.length c bs) (hA : A = none → c = 0) : Calls Tryd.prog 4 #[.int .i64 n, .int .i64 s, .slice A bs.length c] w fun e w' => e = .returned (.bool true) ∧ Below w.heap.size w w' := by
  have hcap := S.cap
  by_cases h1 : bs.length > 600
  · have h1' : (bs.length : Int) > 600 := by omega
    unfold maxLen at hc
    go_enter Tryd.func4, Tryd.ntmps4
    go_wp2_with fail
    refine (small5 w).mono ?_
    rintro e w1 ⟨rfl, K1⟩
    go_wp2_with fail
    go_ret
    exact ⟨rfl, K1.out⟩
  · exact writes_in w n s A c bs hc S hA (by omega)
end Go.Proofs.YtddjkgikhfncnaaDoor
