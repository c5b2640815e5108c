/-
  reader.group: what a list or an object has, one by one, by a function that reads one.
-/
import Derived.Test.YtpakfjfkibphjaaGreatDoorJsHead
namespace Go.Proofs.YtpakfjfkibphjaaGreatDoor
open Go.RowKit Sh Jt Js
/-- What a step leaves as it was, but for the blocks from lo to hi. -/
structure StG (w w' : World) (b lo hi : Nat) (v v' : Value) : Prop where
  kept : Kept w w' (fun k => k = b ∨ v.ownBlock = some k ∨ (lo ≤ k ∧ k < hi))
  fresh : ∀ k, v'.ownBlock = some k → v.ownBlock = some k ∨ w.heap.size ≤ k
theorem StG.refl (w : World) (b lo hi : Nat) (v : Value) : StG w w b lo hi v v := ⟨Kept.refl _ _, fun _ h => .inl h⟩
theorem Stp.stg {w w' : World} {b : Nat} {v v' : Value} (h : Stp w w' b v v') (lo hi : Nat) : StG w w' b lo hi v v' :=
  ⟨h.kept.mono fun k _ hk => by
    rcases hk with hk | hk
    · exact .inl hk
    · exact .inr (.inl hk), h.fresh⟩
theorem StG.trans {w w1 w2 : World} {b lo hi : Nat} {v v1 v2 : Value} (h : StG w w1 b lo hi v v1) (k : StG w1 w2 b lo hi v1 v2) : StG w w2 b lo hi v v2 := by
  refine ⟨⟨k.kept.os.trans h.kept.os, k.kept.tape.trans h.kept.tape, k.kept.output.trans h.kept.output, Nat.le_trans h.kept.size k.kept.size, fun i hi hn => ?_⟩, fun i hi => ?_⟩
  · refine (k.kept.block i (Nat.lt_of_lt_of_le hi h.kept.size) (fun hh => ?_)).trans (h.kept.block i hi hn)
    rcases hh with hh | hh | hh
    · exact hn (.inl hh)
    · rcases h.fresh i hh with h2 | h2
      · exact hn (.inr (.inl h2))
      · omega
    · exact hn (.inr (.inr hh))
  · rcases k.fresh i hi with h2 | h2
    · exact h.fresh i h2
    · exact .inr (Nat.le_trans h.kept.size h2)
/-- What reading finds at hand: the library's errors, the words; all of it ahead of block b. -/
structure RdEnv (b : Nat) (w : World) : Prop where
  err : ErrOk w
  w0 : w.cell? ⟨0, 0, none⟩ = some (.string (sb [110, 117, 108, 108]))
  w1 : w.cell? ⟨0, 1, none⟩ = some (.string (sb [116, 114, 117, 101]))
  w2 : w.cell? ⟨0, 2, none⟩ = some (.string (sb [102, 97, 108, 115, 101]))
  lt : 0 < b ∧ 4 < b ∧ 5 < b
theorem RdEnv.kept {b : Nat} {w w' : World} {S : Nat → Prop} (h : RdEnv b w) (k : Kept w w' S) (hS : ∀ i, i < b → ¬ S i) : RdEnv b w' := by
  obtain ⟨⟨⟨a, c, h1⟩, ⟨d, e, h2⟩⟩, h3, h4, h5, l1, l2, l3⟩ := h
  exact ⟨⟨⟨a, c, k.cell h1 (hS _ l2)⟩, ⟨d, e, k.cell h2 (hS _ l3)⟩⟩, k.cell h3 (hS _ l1), k.cell h4 (hS _ l1), k.cell h5 (hS _ l1), l1, l2, l3⟩
theorem RdEnv.stg {b lo hi : Nat} {w w' : World} {s : List UInt8} {v v' : Value} {L : List V} {d : Int} (h : RdEnv b w) (k : StG w w' b lo hi v v') (r : RSt w b s v L d) (hlo : b < lo) : RdEnv b w' :=
  h.kept k.kept fun i hi hk => by
    rcases hk with hk | hk | hk
    · omega
    · have := (r.own.block hk).1
      omega
    · omega
theorem RdEnv.stp {b : Nat} {w w' : World} {s : List UInt8} {v v' : Value} {L : List V} {d : Int} (h : RdEnv b w) (k : Stp w w' b v v') (r : RSt w b s v L d) : RdEnv b w' :=
  h.stg (k.stg (b + 1) (b + 1)) r (by omega)
theorem RdEnv.below {b : Nat} {w w' : World} (h : RdEnv b w) (k : Below w.heap.size w w') : RdEnv b w' := h.kept (S := fun _ => False) (kept_below k) fun _ _ h => h

/-- One that is read, in world w, state (v, L, d): what comes of it. -/
def OnePost (b lo hi : Nat) (J : List (List UInt8) → World → Prop) (ks : List (List UInt8)) (v : Value) (L : List V) (d : Nat) (w : World) (R : Res) (e : Ending) (w' : World) : Prop :=
  match R with
  | .ok _ l r => e = .returned (.int .i64 0) ∧ ∃ v', RSt w' b r v' (L ++ l) d ∧ StG w w' b lo hi v v' ∧ J (Js.keyOf l :: ks) w'
  | .err c => e = .returned (.int .i64 (c : Nat)) ∧ c ≠ 0 ∧ ∃ s' v' L' d', RSt w' b s' v' L' d' ∧ StG w w' b lo hi v v' ∧ L.length ≤ L'.length
/-- A function that reads one of what a list or an object has. -/
structure OneIs (gid : Nat) (C : Array Value) (b lo hi : Nat) (J : List (List UInt8) → World → Prop) (o : Bool) (F : Nat) : Prop where
  enters : ∀ args w, (callFunc gid args).run Tryz.prog w = .ok (.enter gid args) w
  kept : ∀ ks w w' S, J ks w → Kept w w' S → (∀ k, lo ≤ k → k < hi → ¬ S k) → J ks w'
  call : ∀ (g : Nat), g < F → ∀ (w : World) (ks : List (List UInt8)) (s : List UInt8) (v : Value) (L : List V) (d : Nat), J ks w → RSt w b s v L d → RdEnv b w → (∀ k, v.ownBlock = some k → k < lo ∨ hi ≤ k) → hi ≤ w.heap.size →
    s.length ≤ g → s.length ≤ 1000000000 → L.length ≤ 5000 → d ≤ 50 → ks.length ≤ 5000 → Calls Tryz.prog gid C w (OnePost b lo hi J ks v L d w (oneF g o d L.length ks s))
/-- Where the loop stands. -/
structure GS (w : World) (b lo hi : Nat) (J : List (List UInt8) → World → Prop) (o : Bool) (v : Value) (L : List V) (d : Nat) (R : Res) (g n : Nat) (ks : List (List UInt8)) (l : List V) (s : List UInt8) (vx : Value) (wx : World) : Prop where
  st : RSt wx b s vx (L ++ l) d
  step : StG w wx b lo hi v vx
  j : J ks wx
  env : RdEnv b wx
  res : R = headF g o d (L ++ l).length n ks l s
  fuel : s.length + 1 ≤ g
  zero : n = 0 → l = []
  few : (L ++ l).length ≤ 5000
  cnt : n ≤ l.length
  keys : ks.length = n
/-- What a group comes to. -/
def GrpPost (b lo hi : Nat) (v : Value) (L : List V) (d : Int) (w : World) (R : CR) (e : Ending) (w' : World) : Prop :=
  match R with
  | .ok _ n l r => e = .returned (.tuple #[.int .i64 (n : Nat), .int .i64 0]) ∧ ∃ v', RSt w' b r v' (L ++ l) d ∧ StG w w' b lo hi v v'
  | .err c => e = .returned (.tuple #[.int .i64 0, .int .i64 (c : Nat)]) ∧ c ≠ 0 ∧ ∃ s' v' L' d', RSt w' b s' v' L' d' ∧ StG w w' b lo hi v v' ∧ L.length ≤ L'.length
section
variable {w wx w1 : World} {b lo hi : Nat} {J : List (List UInt8) → World → Prop} {o : Bool} {v vx : Value} {L l : List V} {d g n : Nat} {R : Res} {ks : List (List UInt8)} {s : List UInt8} {gid : Nat} {C : Array Value} {F : Nat}
theorem GS.apart (h : GS w b lo hi J o v L d R g n ks l s vx wx) (hv : ∀ k, v.ownBlock = some k → k < lo ∨ hi ≤ k) (hh : hi ≤ w.heap.size) : ∀ k, vx.ownBlock = some k → k < lo ∨ hi ≤ k := fun k hk => by
  rcases h.step.fresh k hk with h2 | h2
  · exact hv k h2
  · exact .inr (by omega)
/-- Behind blanks or a sign. -/
theorem GS.sign {s2 : List UInt8} (h : GS w b lo hi J o v L d R g n ks l s vx wx) (H : OneIs gid C b lo hi J o F) (hb : b < lo) (hv : ∀ k, v.ownBlock = some k → k < lo ∨ hi ≤ k) (hh : hi ≤ w.heap.size) (h1 : RSt w1 b s2 vx (L ++ l) d) (h2 : Stp wx w1 b vx vx) :
    StG w w1 b lo hi v vx ∧ J ks w1 ∧ RdEnv b w1 :=
  ⟨h.step.trans (h2.stg lo hi), H.kept ks wx w1 _ h.j h2.kept (fun k hk1 hk2 hk => by
    rcases hk with rfl | hk
    · omega
    · have := h.apart hv hh k hk
      omega), h.env.stp h2 h.st⟩
/-- Behind one more. -/
theorem GS.next {m : Nat} {l1 : List V} {r : List UInt8} {v' : Value} {w4 w5 : World} (h : GS w b lo hi J o v L d R (g + 1) n ks l s vx wx) (k1 : StG w w4 b lo hi v vx)
    (hst : R = stepF g o d (L ++ l).length n ks l (oneF g o d (L ++ l).length ks (upto n s))) (hx : Res.ok m l1 r = oneF g o d (L ++ l).length ks (upto n s)) (st : RSt w5 b r v' (L ++ l ++ l1) d) (k2 : StG w4 w5 b lo hi vx v') (j : J (Js.keyOf l1 :: ks) w5) (env : RdEnv b w5) :
    GS w b lo hi J o v L d R g (n + 1) (Js.keyOf l1 :: ks) (l ++ l1) r v' w5 := by
  obtain ⟨_, f2, f3, f4⟩ := one_facts hx.symm
  have hl := upto_len n s
  have hfu := h.fuel
  have e : L ++ (l ++ l1) = L ++ l ++ l1 := (List.append_assoc _ _ _).symm
  refine ⟨by rw [e]; exact st, k1.trans k2, j, env, ?_, by omega, fun h => by omega, by rw [e, List.length_append]; exact f4, by rw [List.length_append]; have := h.cnt; omega, by rw [List.length_cons, h.keys]⟩
  have e2 : (L ++ l ++ l1).length = (L ++ l).length + l1.length := List.length_append
  rw [hst, ← hx, e, e2]
  rfl
end
set_option maxRecDepth 100000 in
set_option maxHeartbeats 8000000 in
theorem js_group (w : World) (b lo hi : Nat) (J : List (List UInt8) → World → Prop) (o : Bool) (F gid : Nat) (C : Array Value) (H : OneIs gid C b lo hi J o F) (a : UInt8) (s : List UInt8) (v : Value) (L : List V) (d : Nat)
    (hR : RSt w b (a :: s) v L d) (hE : RdEnv b w) (hJ : J [] w) (ha : skip (a :: s) = a :: s) (hb : b < lo) (hv : ∀ k, v.ownBlock = some k → k < lo ∨ hi ≤ k) (hh : hi ≤ w.heap.size) (hf : s.length + 1 ≤ F) (hs : s.length ≤ 999999999) (hL : L.length ≤ 5000) (hd : d < 50) :
    Calls Tryz.prog 45 #[.pointer (some ⟨b, 0, none⟩), .string (sb [a]), .string (sb [close o]), .func (.func gid) #[] C] w
      (GrpPost b lo hi v L d w (grpF (kids F o (d + 1) L.length []) (close o) s)) := by
  have HS1 := Lib.hid (js_sign w b (a :: s) [a] v L d hR)
  rw [ha] at HS1
  have hp : [a].isPrefixOf (a :: s) = true := pre_one.2 ⟨s, rfl⟩
  rw [hp, if_pos rfl] at HS1
  change Hid (Calls _ _ _ _ fun e w' => _ ∧ Hid (RSt w' b s v L d ∧ _)) at HS1
  have HH := Lib.hid H
  have HEV := Lib.hid hE
  have HR := Lib.hid hR
  have HJ := Lib.hid hJ
  have HV := Lib.hid hv
  have eg := H.enters
  have hd1 : (0 : Int) ≤ (d : Int) := by omega
  have hd2 : (d : Int) < 50 := by omega
  rw [grp_head]
  obtain ⟨RR, hRR⟩ : ∃ RR, RR = headF F o (d + 1) L.length 0 [] [] s := ⟨_, rfl⟩
  rw [← hRR]
  have HRR := Lib.hid hRR
  clear hRR hp ha hR hE hJ hv H
  go_enter Tryz.func45, Tryz.ntmps45
  go_wp2_with fail
  refine HS1.out.mono ?_
  rintro e w1 ⟨rfl, HX1⟩
  obtain ⟨_, _, c2⟩ := HX1.out.1.cells
  have hf2 := HX1.out.1.row.frozen 2
  have HX2 := Lib.hid (HX1.out.1.deep ((d : Int) + 1))
  clear HS1
  go_wp2_with fail
  have HW := Lib.hid (RdEnv.stp (RdEnv.stp HEV.out HX1.out.2 HR.out) HX2.out.2 HX1.out.1)
  have HST := Lib.hid ((HX1.out.2.trans HX2.out.2).stg lo hi)
  have HJ2 := Lib.hid (HH.out.kept [] w _ _ HJ.out (HX1.out.2.trans HX2.out.2).kept (fun k hk1 hk2 hk => by
    rcases hk with hk | hk
    · omega
    · have := HV.out k hk
      omega))
  generalize hw2 : w1.setCell { block := b, off := 2 } (Value.int IntKind.i64 (↑d + 1)) = w2 at *
  clear hw2 c2 hf2 HJ HEV
  go_loopg [10] F (fun g vc wx => ∃ (n : Nat) (ks : List (List UInt8)) (l : List V) (s2 : List UInt8) (vx : Value), vc = .int .i64 (n : Int) ∧ n ≤ 5000 ∧ g ≤ F ∧ s2.length ≤ 999999999 ∧ Hid (GS w b lo hi J o v L (d + 1) RR g n ks l s2 vx wx))
  case atStart =>
    exact ⟨0, [], [], s, v, rfl, by omega, Nat.le_refl _, hs, Lib.hid ⟨by rw [List.append_nil]; exact HX2.out.1, HST.out, HJ2.out, HW.out, by rw [List.append_nil]; exact HRR.out, hf, fun _ => rfl, by rw [List.append_nil]; exact hL, Nat.zero_le _, rfl⟩⟩
  case round =>
    obtain ⟨n, ks, l, s2, vx, rfl, hn5, hgF, hs2, HS⟩ := hrel
    have HQ := Lib.hid (js_sign wr b s2 [close o] vx (L ++ l) _ HS.out.st)
    have hn0 : (0 : Int) ≤ (n : Int) := by omega
    have hn6 : (n : Int) ≤ 5000 := by omega
    clear HX1 HX2 HW HST HJ2 HRR HR
    cases hq : [close o].isPrefixOf (skip s2) with
    | true =>
      rw [hq, if_pos rfl] at HQ
      change Hid (Calls _ _ _ _ fun e w' => _ ∧ Hid (RSt w' b ((skip s2).drop 1) vx (L ++ l) ((d : Int) + 1) ∧ _)) at HQ
      have hres : RR = .ok n l ((skip s2).drop 1) := by rw [HS.out.res]; exact head_close hq HS.out.zero
      have HRES := Lib.hid hres
      have HP := Lib.hid (fun w4 (h1 : RSt w4 b ((skip s2).drop 1) vx (L ++ l) d) (h2 : Stp wr w4 b vx vx) => show ∃ v', RSt w4 b ((skip s2).drop 1) v' (L ++ l) d ∧ StG w w4 b lo hi v v' from ⟨vx, h1, HS.out.step.trans (h2.stg lo hi)⟩)
      clear HS hres hq
      generalize (skip s2).drop 1 = s3 at *
      go_wp2_with fail
      refine HQ.out.mono ?_
      rintro e w3 ⟨rfl, HX3⟩
      have c2 : w3.cell? ⟨b, 2, none⟩ = some (.int .i64 ((d : Int) + 1)) := HX3.out.1.cells.2.2
      have hf2 := HX3.out.1.row.frozen 2
      have HX4 := Lib.hid (HX3.out.1.deep (d : Int))
      clear HQ
      go_wp2_with fail
      go_ret2
      show GrpPost b lo hi v L (d : Int) w (toC RR) _ _
      rw [HRES.out]
      refine ⟨rfl, HP.out _ ?_ ?_⟩
      · exact HX4.out.1
      · exact HX3.out.2.trans HX4.out.2
    | false =>
      rw [hq, if_neg (by decide)] at HQ
      change Hid (Calls _ _ _ _ fun e w' => _ ∧ Hid (RSt w' b (skip s2) vx (L ++ l) ((d : Int) + 1) ∧ _)) at HQ
      cases gk with
      | zero => exact absurd HS.out.fuel (by omega)
      | succ g =>
        have HTL := Lib.hid (fun w4 (h1 : RSt w4 b (upto n s2) vx (L ++ l) ((d + 1 : Nat) : Int)) (h2 : Stp wr w4 b vx vx) => by
          obtain ⟨k1, k2, k3⟩ := HS.out.sign HH.out hb HV.out hh h1 h2
          have hl := upto_len n s2
          have hfu := HS.out.fuel
          have hsz := k1.kept.size
          exact HH.out.call g (by omega) w4 ks (upto n s2) vx (L ++ l) (d + 1) k2 h1 k3 (HS.out.apart HV.out hh) (by omega) (by omega) (by omega) HS.out.few (by omega) (by rw [HS.out.keys]; exact hn5))
        by_cases hz : n = 0
        · subst hz
          have hup : upto 0 s2 = skip s2 := if_pos rfl
          have hst := HS.out.res.trans (head_step hq (fun h => absurd rfl h) HS.out.zero)
          rw [hup] at HTL hst
          have HUP := Lib.hid hup
          clear hup hq
          go_wp2_with fail
          refine HQ.out.mono ?_
          rintro e w3 ⟨rfl, HX3⟩
          have HK := Lib.hid (HS.out.sign HH.out hb HV.out hh HX3.out.1 HX3.out.2)
          clear HQ
          go_wp2_with fail
          have HENV := Lib.hid (fun w5 v' (k2 : StG w3 w5 b lo hi vx v') => RdEnv.stg (HK.out.2.2) k2 HX3.out.1 hb)
          obtain ⟨R1, hR1⟩ : ∃ R1, R1 = oneF g o (d + 1) (L ++ l).length ks (skip s2) := ⟨_, rfl⟩
          rw [← hR1] at HTL hst
          cases R1 with
          | ok m l1 r =>
            have HFA := Lib.hid (one_facts hR1.symm)
            have HN := Lib.hid (fun v' w5 (st : RSt w5 b r v' (L ++ l ++ l1) ((d + 1 : Nat) : Int)) (k2 : StG w3 w5 b lo hi vx v') (j : J (Js.keyOf l1 :: ks) w5) => HS.out.next (w4 := w3) HK.out.1 (by rw [HUP.out, ← hR1]; exact hst) (by rw [HUP.out]; exact hR1) st k2 j (HENV.out w5 v' k2))
            have HTM := Lib.hid (HTL.out w3 HX3.out.1 HX3.out.2)
            have HCN := Lib.hid (And.intro HS.out.cnt HS.out.few)
            have HLE := Lib.hid (HUP.out ▸ upto_len 0 s2)
            clear HTL hst hR1 HENV HK HS HX3 HUP
            refine HTM.out.mono ?_
            rintro e w5 ⟨rfl, v', P1, P2, P3⟩
            have HG := Lib.hid (HN.out v' w5 P1 P2 P3)
            clear HN HTM P1 P2 P3
            go_wp2_with fail
            go_roundg g
            case measure => omega
            case rel =>
              have h1 := HFA.out
              have h2 := HCN.out
              have h3 := HG.out.cnt
              have h4 := HG.out.few
              have h5 := HLE.out
              rw [List.length_append] at h3 h4
              rw [List.length_append] at h4
              refine ⟨0 + 1, _, l ++ l1, r, v', by go_num, by omega, by omega, ?_, HG⟩
              have := h1.2.2.1
              have := HG.out.fuel
              omega
          | err c =>
            have HK2 := Lib.hid (fun v' w5 (k2 : StG w3 w5 b lo hi vx v') => HK.out.1.trans k2)
            have HTM := Lib.hid (HTL.out w3 HX3.out.1 HX3.out.2)
            have HRES := Lib.hid (show RR = .err c from hst)
            clear HTL hst hR1 HENV HK HS HX3 HUP
            refine HTM.out.mono ?_
            rintro e w5 ⟨rfl, hc0, s', v', L', d', P1, P2, P3⟩
            have HG := Lib.hid (And.intro P1 (And.intro (HK2.out v' w5 P2) P3))
            have hc1 : ¬ (c : Int) = 0 := by omega
            clear HK2 HTM P1 P2 P3
            go_wp2_with fail
            go_ret2
            show GrpPost b lo hi v L (d : Int) w (toC RR) _ _
            rw [HRES.out]
            refine ⟨rfl, hc0, s', v', L', d', HG.out.1, HG.out.2.1, ?_⟩
            have := HG.out.2.2
            rw [List.length_append] at this
            omega
        · have hnz : (0 : Int) < (n : Int) := by omega
          have hup : upto n s2 = (skip s2).drop 1 := if_neg hz
          have HQ2 := Lib.hid (fun w3 (h : RSt w3 b (skip s2) vx (L ++ l) ((d : Int) + 1)) => js_sign w3 b (skip s2) [44] vx (L ++ l) _ h)
          rw [skip_skip] at HQ2
          cases hq2 : [44].isPrefixOf (skip s2) with
          | false =>
            rw [hq2, if_neg (by decide)] at HQ2
            have HRES := Lib.hid (HS.out.res.trans (head_none hq hq2 hz))
            have HP := Lib.hid (fun w4 (h1 : RSt w4 b (skip s2) vx (L ++ l) ((d : Int) + 1)) (h2 : Stp wr w4 b vx vx) => show ∃ s' v' L' d', RSt w4 b s' v' L' d' ∧ StG w w4 b lo hi v v' ∧ L.length ≤ L'.length from ⟨_, vx, _, _, h1, HS.out.step.trans (h2.stg lo hi), by rw [List.length_append]; omega⟩)
            clear HS hq hq2 HTL hup
            go_wp2_with fail
            refine HQ.out.mono ?_
            rintro e w3 ⟨rfl, HX3⟩
            have HQ3 := Lib.hid (HQ2.out w3 HX3.out.1)
            clear HQ HQ2
            go_wp2_with fail
            refine HQ3.out.mono ?_
            rintro e w4 ⟨rfl, HX4⟩
            clear HQ3
            go_wp2_with fail
            go_ret2
            show GrpPost b lo hi v L (d : Int) w (toC RR) _ _
            rw [HRES.out]
            exact ⟨rfl, by decide, HP.out _ HX4.out.1 (HX3.out.2.trans HX4.out.2)⟩
          | true =>
            rw [hq2, if_pos rfl] at HQ2
            change Hid (∀ w3, RSt w3 b (skip s2) vx (L ++ l) ((d : Int) + 1) → Calls _ _ _ _ fun e w' => _ ∧ Hid (RSt w' b ((skip s2).drop 1) vx (L ++ l) ((d : Int) + 1) ∧ _)) at HQ2
            have hst := HS.out.res.trans (head_step hq (fun _ => hq2) HS.out.zero)
            rw [hup] at HTL hst
            have HUP := Lib.hid hup
            clear hup hq hq2
            go_wp2_with fail
            refine HQ.out.mono ?_
            rintro e wq ⟨rfl, HXq⟩
            have HQ3 := Lib.hid (HQ2.out wq HXq.out.1)
            clear HQ HQ2
            go_wp2_with fail
            refine HQ3.out.mono ?_
            rintro e w3 ⟨rfl, HXr⟩
            have HX3 := Lib.hid (And.intro HXr.out.1 (HXq.out.2.trans HXr.out.2))
            have HK := Lib.hid (HS.out.sign HH.out hb HV.out hh HX3.out.1 HX3.out.2)
            clear HQ3 HXq HXr
            go_wp2_with fail
            have HENV := Lib.hid (fun w5 v' (k2 : StG w3 w5 b lo hi vx v') => RdEnv.stg (HK.out.2.2) k2 HX3.out.1 hb)
            obtain ⟨R1, hR1⟩ : ∃ R1, R1 = oneF g o (d + 1) (L ++ l).length ks ((skip s2).drop 1) := ⟨_, rfl⟩
            rw [← hR1] at HTL hst
            cases R1 with
            | ok m l1 r =>
              have HFA := Lib.hid (one_facts hR1.symm)
              have HN := Lib.hid (fun v' w5 (st : RSt w5 b r v' (L ++ l ++ l1) ((d + 1 : Nat) : Int)) (k2 : StG w3 w5 b lo hi vx v') (j : J (Js.keyOf l1 :: ks) w5) => HS.out.next (w4 := w3) HK.out.1 (by rw [HUP.out, ← hR1]; exact hst) (by rw [HUP.out]; exact hR1) st k2 j (HENV.out w5 v' k2))
              have HTM := Lib.hid (HTL.out w3 HX3.out.1 HX3.out.2)
              have HCN := Lib.hid (And.intro HS.out.cnt HS.out.few)
              have HLE := Lib.hid (HUP.out ▸ upto_len n s2)
              clear HTL hst hR1 HENV HK HS HX3 HUP
              refine HTM.out.mono ?_
              rintro e w5 ⟨rfl, v', P1, P2, P3⟩
              have HG := Lib.hid (HN.out v' w5 P1 P2 P3)
              clear HN HTM P1 P2 P3
              go_wp2_with fail
              go_roundg g
              case measure => omega
              case rel =>
                have h1 := HFA.out
                have h2 := HCN.out
                have h3 := HG.out.cnt
                have h4 := HG.out.few
                have h5 := HLE.out
                rw [List.length_append] at h3 h4
                rw [List.length_append] at h4
                refine ⟨n + 1, _, l ++ l1, r, v', by go_num, by omega, by omega, ?_, HG⟩
                have := h1.2.2.1
                have := HG.out.fuel
                omega
            | err c =>
              have HK2 := Lib.hid (fun v' w5 (k2 : StG w3 w5 b lo hi vx v') => HK.out.1.trans k2)
              have HTM := Lib.hid (HTL.out w3 HX3.out.1 HX3.out.2)
              have HRES := Lib.hid (show RR = .err c from hst)
              clear HTL hst hR1 HENV HK HS HX3 HUP
              refine HTM.out.mono ?_
              rintro e w5 ⟨rfl, hc0, s', v', L', d', P1, P2, P3⟩
              have HG := Lib.hid (And.intro P1 (And.intro (HK2.out v' w5 P2) P3))
              have hc1 : ¬ (c : Int) = 0 := by omega
              clear HK2 HTM P1 P2 P3
              go_wp2_with fail
              go_ret2
              show GrpPost b lo hi v L (d : Int) w (toC RR) _ _
              rw [HRES.out]
              refine ⟨rfl, hc0, s', v', L', d', HG.out.1, HG.out.2.1, ?_⟩
              have := HG.out.2.2
              rw [List.length_append] at this
              omega
end Go.Proofs.YtpakfjfkibphjaaGreatDoor
