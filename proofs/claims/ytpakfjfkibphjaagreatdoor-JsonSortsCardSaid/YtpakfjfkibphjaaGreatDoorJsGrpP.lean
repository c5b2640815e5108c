/-
  addGroup: rows one by one, with commas between, by a function that lays one.
-/
import Derived.Test.YtpakfjfkibphjaaGreatDoorJsAppW
namespace Go.Proofs.YtpakfjfkibphjaaGreatDoor
open Go.RowKit Sh Jt Js
/-- What laying a text behind bytes comes to. -/
def PutPost (w : World) (B : Nat) (val : Value) (r : List UInt8) (e : Ending) (w' : World) : Prop := ∃ val', e = .returned val' ∧ OwnBytes w' B val' r ∧ Stq w w' val val'
/-- The bytes that grow are none of those in which rows stand. -/
structure Dis (w : World) (b : Nat) (A : Option Addr) (n : Nat) (val : Value) : Prop where
  lt : b < w.heap.size
  ne : ∀ k, val.ownBlock = some k → k ≠ b
  had : 0 < n → ∀ g, A = some ⟨g, 0, none⟩ → g < w.heap.size ∧ ∀ k, val.ownBlock = some k → k ≠ g
theorem Dis.stq {w w' : World} {b n : Nat} {A : Option Addr} {val val' : Value} (h : Dis w b A n val) (k : Stq w w' val val') : Dis w' b A n val' := by
  have hs := k.kept.size
  refine ⟨by have := h.lt; omega, fun i hi => ?_, fun h0 g hg => ⟨by have := (h.had h0 g hg).1; omega, fun i hi => ?_⟩⟩
  · rcases k.fresh i hi with h2 | h2
    · exact h.ne i h2
    · have := h.lt
      omega
  · rcases k.fresh i hi with h2 | h2
    · exact (h.had h0 g hg).2 i h2
    · have := (h.had h0 g hg).1
      omega
theorem ValsAt.stq {w w' : World} {b o n c : Nat} {L : List V} {val val' : Value} (h : ValsAt w (some ⟨b, o, none⟩) n c L) (k : Stq w w' val val') (hn : ∀ k, val.ownBlock = some k → k ≠ b) : ValsAt w' (some ⟨b, o, none⟩) n c L :=
  h.kept k.kept (fun b' o' e _ hk => by
    simp only [Option.some.injEq, Addr.mk.injEq] at e
    exact hn b' hk (e.1.symm))
theorem PtIn.stq {w w' : World} {b : Nat} {p : Pt} {val val' : Value} (h : PtIn w b p) (k : Stq w w' val val') (hn : ∀ k, val.ownBlock = some k → k ≠ b) : PtIn w' b p := ⟨h.1, h.2.stq k hn⟩
theorem RowsAt.stq {w w' : World} {B b : Nat} {A : Option Addr} {n : Nat} {Q : List Pt} {val val' : Value} (h : RowsAt w B b A n Q) (k : Stq w w' val val') (hd : Dis w b A n val) : RowsAt w' B b A n Q :=
  ⟨h.len, fun h0 => by
    obtain ⟨g, e, hB, r⟩ := h.at_ h0
    exact ⟨g, e, hB, k.kept.row r (fun hk => (hd.had h0 g e).2 g hk rfl)⟩, fun p hp => PtIn.stq (h.ins p hp) k hd.ne⟩
theorem RowsAt.mono {w : World} {B B' b : Nat} {A : Option Addr} {n : Nat} {Q : List Pt} (h : RowsAt w B b A n Q) (hB : B' ≤ B) : RowsAt w B' b A n Q :=
  ⟨h.len, fun h0 => by
    obtain ⟨g, e, hb, r⟩ := h.at_ h0
    exact ⟨g, e, Nat.le_trans hB hb, r⟩, h.ins⟩
theorem RdEnv.stq {B : Nat} {w w' : World} {val val' : Value} {bs : List UInt8} (h : RdEnv B w) (k : Stq w w' val val') (ho : OwnBytes w B val bs) : RdEnv B w' :=
  h.kept k.kept fun i hi hk => by
    have := (ho.block hk).1
    omega
/-- A function that lays the text of one of the pieces behind bytes. -/
structure PutIs (lim gid : Nat) (b : Nat) (Q : List Pt) (T : List (List UInt8)) : Prop where
  enters : ∀ args w, (callFunc gid args).run Tryz.prog w = .ok (.enter gid args) w
  call : ∀ j (hj : j < Q.length) (hj2 : j < T.length) (w : World) (B : Nat) (val : Value) (bs : List UInt8), OwnBytes w B val bs → B ≤ w.heap.size → RdEnv B w → PtIn w b Q[j] → b < w.heap.size → (∀ k, val.ownBlock = some k → k ≠ b) →
    bs.length + T[j].length ≤ lim → Calls Tryz.prog gid #[val, Q[j].enc b] w (PutPost w B val (bs ++ T[j]))
/-- Where the loop stands. -/
structure PS (w : World) (B b : Nat) (A : Option Addr) (n : Nat) (Q : List Pt) (val : Value) (r : List UInt8) (wx : World) (vx : Value) (rx : List UInt8) : Prop where
  own : OwnBytes wx B vx rx
  step : Stq w wx val vx
  rows : RowsAt wx B b A n Q
  dis : Dis wx b A n vx
  env : RdEnv B wx
theorem PS.next {w : World} {B b : Nat} {A : Option Addr} {n : Nat} {Q : List Pt} {val : Value} {r : List UInt8} {wx wy : World} {vx vy : Value} {rx ry : List UInt8} (h : PS w B b A n Q val r wx vx rx) (o : OwnBytes wy B vy ry) (k : Stq wx wy vx vy) : PS w B b A n Q val r wy vy ry :=
  ⟨o, h.step.trans k, h.rows.stq k h.dis, h.dis.stq k, h.env.stq k h.own⟩
set_option maxRecDepth 100000 in
set_option maxHeartbeats 4000000 in
theorem js_addGroup (w : World) (B b : Nat) (A : Option Addr) (n : Nat) (Q : List Pt) (T : List (List UInt8)) (lim gid : Nat) (H : PutIs lim gid b Q T) (f l : List UInt8) (val : Value) (bs : List UInt8) (hR : RowsAt w B b A n Q) (_hA : A = none → n = 0) (hD : Dis w b A n val) (hE : RdEnv B w)
    (ho : OwnBytes w B val bs) (hB : B ≤ w.heap.size) (hT : T.length = Q.length) (hf : f.length = 1) (hl : l.length = 1) (hn : n ≤ 100000) (hlen : bs.length + (joinC T).length + 2 ≤ lim) (hlim : lim ≤ 100000000000) :
    Calls Tryz.prog 35 #[val, .string (sb f), .string (sb l), .slice A n n, .func (.func gid) #[] #[]] w (PutPost w B val (bs ++ (f ++ (joinC T ++ l)))) := by
  have HS := Lib.hid (PS.mk (w := w) (val := val) (r := bs) ho (Stq.refl _ _) hR hD hE)
  have HH := Lib.hid H
  have eg := H.enters
  have HMO := Lib.hid (joinC_mono T)
  have HQL := hR.len
  have HJL := Lib.hid (fun j hj => joinC_le T j hj)
  have HTK := Lib.hid (joinC_take T)
  clear hR hD hE ho H _hA
  go_enter Tryz.func35, Tryz.ntmps35
  go_wp2_with (first
    | (at_builtin; go_must (with_reducible refine append_sb rfl _ _ rfl B val bs rfl HS.out.own f rfl (by omega) hB ?_; intro v1 w1 h1 h2; have HS1 := Lib.hid (HS.out.next h1.out h2.out); clear h1 h2)))
  have hB1 : Hid (B ≤ w1.heap.size) := Lib.hid (Nat.le_trans hB HS1.out.step.kept.size)
  go_loopg [0, 18] n (fun g vb vk wx => ∃ j : Nat, vk = .int .i64 (j : Int) ∧ j + g = n ∧ Hid (PS w B b A n Q val bs wx vb (bs ++ f ++ joinC (T.take j))))
  case atStart => exact ⟨0, rfl, by omega, Lib.hid (by rw [List.take_zero, show joinC [] = [] from rfl, List.append_nil]; exact HS1.out)⟩
  case round =>
    obtain ⟨j, rfl, hjg, HX⟩ := hrel
    have hBx : Hid (B ≤ wr.heap.size) := Lib.hid (Nat.le_trans hB HX.out.step.kept.size)
    cases gk with
    | zero =>
      obtain rfl : j = n := by omega
      have hge : ¬ (j : Int) < (j : Int) := by omega
      have hrl : (bs ++ f ++ joinC (T.take j)).length + l.length ≤ 1099511627776 := by
        have := HMO.out j (by omega)
        rw [List.length_append, List.length_append]
        omega
      have HF := Lib.hid (show bs ++ f ++ joinC (T.take j) ++ l = bs ++ (f ++ (joinC T ++ l)) by rw [List.take_of_length_le (by omega), List.append_assoc, List.append_assoc])
      generalize bs ++ f ++ joinC (T.take j) = rx at *
      clear HS HS1
      go_wp2_with (first
        | (at_builtin; go_must (with_reducible refine append_sb rfl _ _ rfl B u0 rx rfl HX.out.own l rfl hrl hBx.out ?_; intro v2 w2 h1 h2; have HS2 := Lib.hid (HX.out.next h1.out h2.out); clear h1 h2)))
      go_ret
      exact ⟨_, rfl, by rw [← HF.out]; exact HS2.out.own, HS2.out.step⟩
    | succ g =>
      have hj : j < Q.length := by omega
      have hj2 : j < T.length := by omega
      obtain ⟨gb, rfl, hgB, rr⟩ := HX.out.rows.at_ (by omega)
      have cc : wr.cell? ⟨gb, j, none⟩ = some (Pt.enc b Q[j]) := rr.cell (by rw [List.getElem?_map, List.getElem?_eq_getElem hj]; rfl)
      have hjn : (j : Int) < (n : Int) := by omega
      have hrl : (bs ++ f ++ joinC (T.take j)).length + 1 + T[j].length ≤ lim := by
        have h1 := HMO.out (j + 1) (by omega)
        have h2 : (joinC (T.take j)).length + T[j].length + (if j = 0 then 0 else 1) ≤ (joinC (T.take (j + 1))).length := by
          rw [HTK.out j hj2]
          by_cases h0 : j = 0
          · rw [if_pos h0, if_pos h0]
            have h3 : (joinC (T.take j)).length = 0 := by subst h0; rfl
            omega
          · rw [if_neg h0, if_neg h0, List.length_append, List.length_cons]
            omega
        rw [List.length_append, List.length_append]
        split at h2 <;> omega
      have HTJ := Lib.hid (HTK.out j hj2)
      have HC := Lib.hid (fun wx vx rx (hp : PS w B b (some ⟨gb, 0, none⟩) n Q val bs wx vx rx) (hb : B ≤ wx.heap.size) (hrx : rx.length ≤ (bs ++ f ++ joinC (T.take j)).length + 1) => HH.out.call j hj hj2 wx B vx rx hp.own hb hp.env (hp.rows.ins _ (List.getElem_mem hj)) hp.dis.lt hp.dis.ne (by omega))
      unfold Pt.enc at cc HC
      clear rr HS HS1
      generalize Q[j] = p at *
      obtain ⟨o1, cp1, row1⟩ := p
      dsimp only at *
      generalize row1.length = rl at *
      generalize T[j] = tj at *
      by_cases hz : j = 0
      · subst hz
        have HRX := Lib.hid (show bs ++ f ++ joinC (T.take 0) ++ tj = bs ++ f ++ joinC (T.take (0 + 1)) from by rw [HTJ.out, if_pos rfl, List.take_zero, show joinC [] = [] from rfl, List.append_nil])
        have HCC := Lib.hid (HC.out wr u0 _ HX.out hBx.out (by omega))
        clear HC HTJ
        generalize bs ++ f ++ joinC (T.take 0) = rx at *
        go_wp2_with fail
        refine HCC.out.mono ?_
        rintro e w2 ⟨v3, rfl, P1, P2⟩
        have HN := Lib.hid (HX.out.next P1 P2)
        rw [HRX.out] at HN
        clear P1 P2 HCC cc
        go_wp2_with fail
        go_roundg g
        case measure => omega
        case rel => exact ⟨0 + 1, by go_num, by omega, HN⟩
      · have hjz : (0 : Int) < (j : Int) := by omega
        have HRX := Lib.hid (show bs ++ f ++ joinC (T.take j) ++ [44] ++ tj = bs ++ f ++ joinC (T.take (j + 1)) from by rw [HTJ.out, if_neg hz, List.append_assoc, List.append_assoc]; rfl)
        clear HTJ
        have hrl2 : (bs ++ f ++ joinC (T.take j)).length + ([44] : List UInt8).length ≤ 1099511627776 := by
          rw [List.length_singleton]
          omega
        have hlen3 : (bs ++ f ++ joinC (T.take j) ++ [44]).length ≤ (bs ++ f ++ joinC (T.take j)).length + 1 := by
          rw [List.length_append (bs := [44])]
          exact Nat.le_refl _
        generalize bs ++ f ++ joinC (T.take j) = rx at *
        go_wp2_with (first
          | (at_builtin; go_must (with_reducible refine append_sb rfl _ _ rfl B u0 rx rfl HX.out.own [44] rfl hrl2 hBx.out ?_; intro v2 w2 h1 h2; have HS2 := Lib.hid (HX.out.next h1.out h2.out); have hsz2 := Lib.hid (Nat.le_trans hBx.out h2.out.kept.size); have HCC := Lib.hid (HC.out w2 v2 _ HS2.out hsz2.out hlen3); clear h1 h2)))
        refine HCC.out.mono ?_
        rintro e w3 ⟨v3, rfl, P1, P2⟩
        have HN := Lib.hid (HS2.out.next P1 P2)
        rw [HRX.out] at HN
        clear P1 P2 HCC cc HS2 hsz2 HC
        go_wp2_with fail
        go_roundg g
        case measure => omega
        case rel => exact ⟨j + 1, by go_num, by omega, HN⟩
end Go.Proofs.YtpakfjfkibphjaaGreatDoor
