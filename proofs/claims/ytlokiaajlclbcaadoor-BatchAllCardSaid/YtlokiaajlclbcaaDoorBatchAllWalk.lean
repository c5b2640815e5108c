/-
  The law BatchAll: its walk.
-/
import Derived.Test.YtlokiaajlclbcaaDoorBaSmall
import Derived.Test.YtlokiaajlclbcaaDoorBaDuo
namespace Go.Proofs.YtlokiaajlclbcaaDoor
open Go Go.RowKit Go.Maps Go.Sort Sh

theorem has_mem {T : List (Value × List UInt8)} {t : Value × List UInt8} (h : t ∈ T) : hasE (entries T) (dg t.2) = true := dg_mem.2 ⟨t, h, rfl⟩
/-- What was staged is there behind a Commit. -/
theorem has_committed {T P U : List (Value × List UInt8)} (h : U.map (·.2) = (missL T P).map (·.2)) {t : Value × List UInt8} (ht : t ∈ P) : hasE (entries (T ++ U)) (dg t.2) = true := by
  rw [has_split, has_bytes h]
  cases h1 : hasE (entries T) (dg t.2)
  · rw [Bool.false_or]
    exact has_mem (List.mem_filter.2 ⟨ht, by simp [h1]⟩)
  · rfl
theorem Duo.room_top {wr : World} {G : Nat → Prop} {s mb b bm : Nat} {T P : List (Value × List UInt8)} {room : Nat} (h : Duo wr G s mb b bm T P room) : room ≤ 1073741824 := h.top.2
theorem Fin.used_le {wr : World} {G : Nat → Prop} {s mb b : Nat} {T : List (Value × List UInt8)} {room : Nat} (h : Fin wr G s mb b T room) : (usedN T : Int) ≤ (room : Int) := by
  obtain ⟨Z, h1⟩ := h.st
  have := h1.fits
  omega

/-- What a batch has behind Put, and what it tells of it. -/
theorem BStep.there {T P P' : List (Value × List UInt8)} {room : Nat} {bs : List UInt8} {D : List Value} {E : Int} (h : BStep T P room bs P' D E) (hE : E = 0) : D = (digest bs).map v8 ∧ (hasE (entries P') (dg bs) || hasE (entries T) (dg bs)) = true := by
  rcases h with ⟨h1, rfl, rfl, _⟩ | ⟨_, _, _, _, _, rfl⟩ | ⟨_, _, _, rfl, _, v, rfl⟩
  · refine ⟨rfl, ?_⟩
    rcases h1 with h1 | h1
    · rw [h1, Bool.or_true]
    · rw [h1, Bool.true_or]
  · cases hE
  · exact ⟨rfl, by rw [has_split, has_ab, Bool.or_true, Bool.true_or]⟩
theorem BStep.news {T P P' : List (Value × List UInt8)} {room : Nat} {bs : List UInt8} {D : List Value} {E : Int} (h : BStep T P room bs P' D E) (hE : E = 0) (hn : (hasE (entries P) (dg bs) || hasE (entries T) (dg bs)) = false) (hd : ((entries P').map (·.1)).Nodup) : (if hasE (entries P') (dg bs) then bsE P' (dg bs) else bsE T (dg bs)) = bs := by
  rcases h with ⟨h1, rfl, rfl, _⟩ | ⟨_, _, _, _, _, rfl⟩ | ⟨_, _, _, rfl, _, v, rfl⟩
  · obtain ⟨n1, n2⟩ := Bool.or_eq_false_iff.1 hn
    rcases h1 with h1 | h1
    · rw [h1] at n2; cases n2
    · rw [h1] at n1; cases n1
  · cases hE
  · have hm : (v, bs) ∈ P ++ [(v, bs)] := by simp
    rw [show hasE (entries (P ++ [(v, bs)])) (dg bs) = true from has_mem (t := (v, bs)) hm, if_pos rfl]
    exact bs_mem (t := (v, bs)) hd hm
theorem BStep.or {T P P' : List (Value × List UInt8)} {room : Nat} {bs : List UInt8} {D : List Value} {E : Int} (h : BStep T P room bs P' D E) : E = 0 ∨ E = 2 := by
  rcases h with ⟨_, _, _, rfl⟩ | ⟨_, _, _, _, _, rfl⟩ | ⟨_, _, _, _, rfl, _⟩
  · exact .inl rfl
  · exact .inr rfl
  · exact .inl rfl
theorem BStep.dig {T P P' : List (Value × List UInt8)} {room : Nat} {bs : List UInt8} {D : List Value} {E : Int} (h : BStep T P room bs P' D E) : ∃ x : D32, x.1.map v8 = D := by
  rcases h with ⟨_, _, rfl, _⟩ | ⟨_, _, _, _, rfl, _⟩ | ⟨_, _, _, rfl, _⟩
  · exact ⟨dg bs, rfl⟩
  · exact ⟨zero32, rfl⟩
  · exact ⟨dg bs, rfl⟩
/-- Nothing is staged that the store has. -/
def Apartly (T P : List (Value × List UInt8)) : Prop := ∀ t ∈ P, hasE (entries T) (dg t.2) = false
theorem BStep.apart {T P P' : List (Value × List UInt8)} {room : Nat} {bs : List UInt8} {D : List Value} {E : Int} (h : BStep T P room bs P' D E) (ha : Apartly T P) : Apartly T P' := by
  rcases h with ⟨_, rfl, _⟩ | ⟨_, _, _, rfl, _⟩ | ⟨h1, _, _, _, _, v, rfl⟩
  · exact ha
  · exact ha
  · intro t ht
    rcases List.mem_append.1 ht with ht | ht
    · exact ha t ht
    · obtain rfl : t = (v, bs) := by simpa using ht
      exact h1
theorem Duo.nodup {wr : World} {G : Nat → Prop} {s mb b bm : Nat} {T P : List (Value × List UInt8)} {room : Nat} (h : Duo wr G s mb b bm T P room) : ((entries P).map (·.1)).Nodup := by
  obtain ⟨ov, Z, h1, h2, _⟩ := h
  exact h2.map.nodup
/-- What the slice of a store's digests looks like. -/
theorem keys_shape {w : World} {B : Nat} {v : Value} {ds : List D32} (hk : OwnDigs w B v ds) : ∃ (A : Option Addr) (c : Nat), v = .slice A ds.length c ∧ ∀ i, i < ds.length → ∃ g, A = some ⟨g, 0, none⟩ ∧ w.rangeAt g (i * 32) ((ds.getD i default).1.map v8) := by
  rcases hk.shape with ⟨e, h0⟩ | ⟨g, cap, e, hB, hlt, _, _⟩
  · subst h0
    exact ⟨none, 0, e, fun i hi => absurd hi (by simp)⟩
  · subst e
    exact ⟨_, cap, rfl, fun i hi => ⟨g, rfl, hk.elem i hi⟩⟩
theorem keyh {T : List (Value × List UInt8)} {i : Nat} (hi : i < (keysOf T).length) : hasE (entries T) ((keysOf T).getD i default) = true := by
  have h : (keysOf T).getD i default ∈ keysOf T := by
    rw [show (keysOf T).getD i default = (keysOf T)[i] by simp [List.getD, hi]]
    exact List.getElem_mem hi
  obtain ⟨t, ht, e⟩ := List.mem_map.1 ((keys_perm T).mem_iff.1 h)
  exact dg_mem.2 ⟨t, ht, e⟩
theorem has_key {T U : List (Value × List UInt8)} {i : Nat} (hi : i < (keysOf T).length) : hasE (entries (T ++ U)) ((keysOf T).getD i default) = true := by
  rw [has_split, keyh hi]
  rfl

set_option maxRecDepth 100000 in
set_option maxHeartbeats 20000000 in
theorem batchAll_all (w : World) (r : Int) (A : Option Addr) (n c : Nat) (X : Nat → Option Addr) (C : Nat → Nat) (B : Nat → List UInt8) (hm : n ≤ maxLen) (hK : KT w) (S : RowsAt w A n X C B) (hB : ∀ i, i < n → (B i).length ≤ 140737488351232) (A2 : Option Addr) (n2 c2 : Nat) (X2 : Nat → Option Addr) (C2 : Nat → Nat) (B2 : Nat → List UInt8) (hm2 : n2 ≤ maxLen) (S2 : RowsAt w A2 n2 X2 C2 B2) (hB2 : ∀ i, i < n2 → (B2 i).length ≤ 140737488351232) (cm : Bool) :
    Calls Tryd.prog 5 #[.int .i64 r, .slice A n c, .slice A2 n2 c2, .bool cm] w fun e w' => e = .returned (.bool true) ∧ Below w.heap.size w w' := by
  have HK := Lib.hid hK
  have HKL := Lib.hid hK.lt
  have HS := Lib.hid S
  have HF := Lib.hid (fun (w' : World) (k : Kept w w' (fun _ => False)) => few_any w' A n c X C B hm (S.kept k) hB)
  clear S hB
  unfold maxLen at hm
  have HS2 := Lib.hid S2
  have HF2 := Lib.hid (fun (w' : World) (k : Kept w w' (fun _ => False)) => few_any w' A2 n2 c2 X2 C2 B2 hm2 (S2.kept k) hB2)
  clear S2 hB2
  unfold maxLen at hm2
  obtain ⟨room, htop, hroom⟩ := room_clamp r
  have HR := Lib.hid hroom
  clear hroom
  clear hK
  go_enter Tryd.func5, Tryd.ntmps5
  go_wp2_with fail
  refine (small4 w HK.out).mono ?_
  rintro e w1 ⟨rfl, K1⟩
  go_wp2_with fail
  refine (HF.out w1 K1.out).mono ?_
  rintro e wf0 ⟨rfl, KF0⟩
  have MF0 := Lib.hid (kept_trans K1.out KF0.out)
  clear KF0 HF K1
  go_wp2_with fail
  refine (HF2.out wf0 MF0.out).mono ?_
  rintro e wf1 ⟨rfl, KF1⟩
  have MF1 := Lib.hid (kept_trans MF0.out KF1.out)
  clear KF1 HF2 MF0
  go_wp2_with fail
  refine (snew_any wf1 r room HR.out htop).mono ?_
  rintro e w3 ⟨rfl, H3, K3, Z3⟩
  have M3 := Lib.hid (kept_trans MF1.out K3.out)
  have LS' : Hid (w.heap.size ≤ wf1.heap.size + 1 ∧ w.heap.size ≤ wf1.heap.size) := ⟨by have := MF1.out.size; omega, MF1.out.size⟩
  generalize wf1.heap.size + 1 = s at H3 LS' ⊢
  generalize wf1.heap.size = mb at H3 LS' ⊢
  have Ls := LS'
  clear LS' MF1 K3 Z3
  by_cases hfew : fewB n B = true
  · have hfn := fewB_n hfew
    rw [hfew]
    have HF := Lib.hid hfn
    have h40 : (n : Int) ≤ 40 := by omega
    clear hfew hfn
    by_cases hfew2 : fewB n2 B2 = true
    · have hfn2 := fewB_n hfew2
      rw [hfew2]
      have HF2 := Lib.hid hfn2
      have h402 : (n2 : Int) ≤ 40 := by omega
      clear hfew2 hfn2
      go_wp2_with fail
      go_loopg [13] n (fun gg s13 wr => ∃ (k : Nat) (T : List (Value × List UInt8)), s13 = .int .i64 k ∧ k ≤ n ∧ gg = n - k ∧ Hid (StAt wr s mb T room (stZ s mb)) ∧ Hid (Kept w wr (fun _ => False)) ∧ Hid (T.length ≤ k))
      case atStart => exact ⟨0, [], rfl, Nat.zero_le _, rfl, H3, M3, Nat.zero_le _⟩
      case round =>
        clear H3 M3
        obtain ⟨k, T, rfl, hk, hg, HT, KW, HLT⟩ := hrel
        by_cases hlt : k < n
        · obtain ⟨b0, o0, rfl, hb0⟩ := HS.out.at_ (by omega)
          have SW := Lib.hid (HS.out.kept KW.out)
          have hc := SW.out.cell k hlt b0 o0 rfl
          go_wp2_with fail
          refine (put_any HT.out (X k) (C k) (B k) (HK.out.kept KW.out (fun h => h)) (SW.out.row k hlt) (SW.out.nil k hlt) (by have := sumB_le B hlt; have := HF.out.2; omega) (by have := HLT.out; have := HF.out.1; omega)).mono ?_
          rintro e w5 ⟨T', D, E, rfl, D5, K5, _, _, ST⟩
          have M5 := Lib.hid (show Kept w w5 (fun _ => False) from kept_new KW.out K5.out (fun x hx h => by have := Ls.out; rcases h with rfl | rfl <;> omega))
          have HL5 := Lib.hid (show T'.length ≤ k + 1 from by have := ST.out.le; have := HLT.out; omega)
          clear SW hc KW K5 HT HLT ST
          go_wp2_with fail
          go_roundg (n - (k + 1))
          case rel => exact ⟨k + 1, T', by go_num, by omega, rfl, D5, M5, HL5⟩
          case measure => omega
        · obtain rfl : k = n := by omega
          have HTL := Lib.hid (show T.length ≤ 40 by have := HLT.out; have := HF.out.1; omega)
          go_wp2_with fail
          refine (skeys_any HT.out).mono ?_
          rintro e w4 ⟨kv, rfl, DK4, K4, _⟩
          have M4 := Lib.hid (kept_trans KW.out K4.out)
          have T4 := Lib.hid (HT.out.quiet K4.out)
          have HKB := Lib.hid (show ∀ g, kv.ownBlock = some g → g < w4.heap.size ∧ g ≠ s ∧ g ≠ mb from fun g e => by
            have h1 := DK4.out.under g e
            have h2 := HT.out.zlt s HT.out.zs
            have h3 := HT.out.zlt mb HT.out.zm
            omega)
          have DK4 := Lib.hid (DK4.out.low (Nat.zero_le _))
          clear KW HT K4
          go_wp2_with fail
          refine (duo_new T4.out).mono ?_
          rintro e w5 ⟨b, bm, rfl, D5, K5⟩
          have M5 := Lib.hid (kept_trans M4.out K5.out)
          have DK5 := Lib.hid (DK4.out.kept K5.out (fun _ _ h => h))
          have HG0 := Lib.hid (show ∀ x, x < w.heap.size → (x < w4.heap.size ∧ x ≠ s ∧ x ≠ mb) from fun x hx => by have := Ls.out; have := M4.out.size; omega)
          obtain ⟨G, hG⟩ : ∃ G : Nat → Prop, (fun k => k < w4.heap.size ∧ k ≠ s ∧ k ≠ mb) = G := ⟨_, rfl⟩
          rw [hG] at D5
          have HG := Lib.hid (show ∀ x, x < w.heap.size → G x from fun x hx => by rw [← hG]; exact HG0.out x hx)
          have HKV := Lib.hid (show ∀ g, kv.ownBlock = some g → G g from fun g e => by rw [← hG]; exact HKB.out g e)
          have HU0 := Lib.hid (show usedN T + usedN [] ≤ room by have := T4.out.fits; show usedN T + 0 ≤ room; omega)
          clear hG HG0 K5 M4 T4 DK4 HKB
          go_wp2_with fail
          go_loopg [16] n2 (fun gg s16 wr => ∃ (j : Nat) (P : List (Value × List UInt8)), s16 = .int .i64 j ∧ j ≤ n2 ∧ gg = n2 - j ∧ Hid (Duo wr G s mb b bm T P room) ∧ Hid (Kept w wr (fun _ => False)) ∧ Hid (OwnDigs wr 0 kv (keysOf T)) ∧ Hid (P.length ≤ j) ∧ Hid (usedN T + usedN P ≤ room) ∧ Hid (Apartly T P))
          case atStart => exact ⟨0, [], rfl, Nat.zero_le _, rfl, D5, M5, DK5, Nat.zero_le _, HU0, fun t ht => by cases ht⟩
          case round =>
            clear D5 M5 DK5 HU0
            obtain ⟨j, P, rfl, hj, hg2, HD, KW, DK, HL, HU, HAP⟩ := hrel
            by_cases hlt2 : j < n2
            · obtain ⟨b1, o1, rfl, hb1⟩ := HS2.out.at_ (by omega)
              have HW := Lib.hid (fun (v : World) (hv : Kept w v (fun _ => False)) => (HS2.out.kept hv).cell j hlt2 b1 o1 rfl)
              have HBL := Lib.hid (show (B2 j).length ≤ 2000 from by have := sumB_le B2 hlt2; have := HF2.out.2; omega)
              obtain ⟨D0, hD0⟩ : ∃ D, (digest (B2 j)).map v8 = D := ⟨_, rfl⟩
              have HD0 := Lib.hid hD0
              have hji : (j : Int) < (n2 : Int) := by omega
              clear hD0
              have hc := HW.out wr KW.out
              go_wp2_with fail
              refine (refsum_DB wr (X2 j) (C2 j) (B2 j) D0 HD0.out ((HS2.out.kept KW.out).row j hlt2) ((HS2.out.kept KW.out).nil j hlt2) (by have := HBL.out; omega)).mono ?_
              rintro e w6 ⟨rfl, hb6⟩
              have K6 := Lib.hid (kept_below hb6)
              have M6 := Lib.hid (kept_trans KW.out K6.out)
              have D6 := Lib.hid (HD.out.quiet K6.out)
              have DK6 := Lib.hid (DK.out.kept K6.out (fun _ _ h => h))
              clear hb6 K6 hc KW HD DK
              obtain ⟨had, HHAD⟩ : ∃ had, Hid ((hasE (entries P) (dg (B2 j)) || hasE (entries T) (dg (B2 j))) = had) := ⟨_, rfl⟩
              go_wp2_with fail
              refine (duo_get D6.out (dg (B2 j)) D0 HD0.out HHAD.out rfl).mono ?_
              rintro e w7 ⟨x7, rfl, _, K7⟩
              have M7 := Lib.hid (kept_trans M6.out K7.out)
              have D7 := Lib.hid (D6.out.quiet K7.out)
              have DK7 := Lib.hid (DK6.out.kept K7.out (fun _ _ h => h))
              clear K7 M6 D6 DK6
              have hc := HW.out w7 M7.out
              go_wp2_with fail
              refine (duo_put D7.out (X2 j) (C2 j) (B2 j) (HK.out.kept M7.out (fun h => h)) ((HS2.out.kept M7.out).row j hlt2) ((HS2.out.kept M7.out).nil j hlt2) (by have := HBL.out; omega) (by have := HL.out; have := HF2.out.1; omega)).mono ?_
              rintro e w8 ⟨P', D, E, rfl, D8, K8, HDL, HDC, ST⟩
              have M8 := Lib.hid (K8.out.from M7.out HG.out)
              have DK8 := Lib.hid (K8.out.digs DK7.out HKV.out)
              have HL5 := Lib.hid (show P'.length ≤ j + 1 from by have := ST.out.le; have := HL.out; omega)
              have HU5 := Lib.hid (ST.out.fits HU.out)
              have HA5 := Lib.hid (ST.out.apart HAP.out)
              have HND := Lib.hid D8.out.nodup
              clear hc M7 K8 D7 DK7 HL HU HAP
              go_upto_region 20 with ((with_reducible refine store_arr ?_ (.tmp 19) (.tmp 89) ?_ w8.heap.size D HDL.out HDC.out ?_ ?_ (List.replicate 32 (v8 0)) rfl ?_ ?_); rfl; rfl; go_must (rfl; rfl; exact Row.at_ _ _ _ rfl rfl); intro w9 RD KQ ZZ)
              clear ZZ
              have J9 := Lib.hid (kept_stored KQ.out)
              have M9 := Lib.hid (kept_trans M8.out J9.out)
              have D9 := Lib.hid (D8.out.quiet J9.out)
              have DK9 := Lib.hid (DK8.out.kept J9.out (fun _ _ h => h))
              generalize w8.heap.size = b8 at RD ⊢
              clear KQ J9 M8 D8 DK8
              have HCE := Lib.hid (fun (v : World) (hv : Kept w9 v (fun _ => False)) => HW.out v (kept_trans M9.out hv))
              rcases ST.out.or with hE | hE
              · obtain ⟨hDD, hok⟩ := ST.out.there hE
                have HDD := Lib.hid (hDD.symm)
                have HOK := Lib.hid hok
                have HE := Lib.hid hE
                clear hDD hok
                subst hE
                cases had with
                | true =>
                  obtain ⟨bs11, hbs11⟩ : ∃ bs11, (if hasE (entries P') (dg (B2 j)) then bsE P' (dg (B2 j)) else bsE T (dg (B2 j))) = bs11 := ⟨_, rfl⟩
                  have HBS := Lib.hid hbs11
                  clear hbs11
                  go_wp2_with ((with_reducible refine load_arr ?_ (.tmp 19) ?_ b8 D HDL.out ?_ RD.out ?_); rfl; rfl; rfl)
                  refine (duo_get D9.out (dg (B2 j)) D HDD.out HOK.out HBS.out).mono ?_
                  rintro e w11 ⟨x11, rfl, OB11, K11⟩
                  have M11 := Lib.hid (kept_trans M9.out K11.out)
                  have D11 := Lib.hid (D9.out.quiet K11.out)
                  have DK11 := Lib.hid (DK9.out.kept K11.out (fun _ _ h => h))
                  obtain ⟨Ab, cb, hbv, hbb, _, _⟩ := OB11.out.bytes
                  subst hbv
                  have HB := Lib.hid (show Kept w11 w11.drew (fun _ => False) from (Kept.refl w11 _).drewN 1)
                  clear K11 M9 D9 DK9 OB11 RD
                  go_wp2_with fail
                  refine wp_region_held (S := fun v => Kept w11 v (fun _ => False)) (by kernel_rfl) ?_
                  change wpAnyH _ _ _ _ _ _ _ _ (World.drew _)
                  refine wpAnyH_take (i := 0) (v := ?_) rfl (by kernel_rfl) (by kernel_rfl) (by kernel_rfl) (fun _ _ _ h => h) (Or.inl ⟨by rfl, ?_⟩) HB.out ?_
                  rotate_left
                  · (intro v hv; go_simp <;> with_reducible rfl)
                  simp only [List.getElem_toArray, List.getElem_cons_zero, Act.put, List.setIfInBounds_toArray, List.set_cons_zero, List.set_cons_succ]
                  refine wpAnyH_take (i := 1) (v := ?_) rfl (by kernel_rfl) (by kernel_rfl) (by kernel_rfl) (fun _ _ _ h => h) (Or.inl ⟨by rfl, ?_⟩) HB.out ?_
                  rotate_left
                  · (intro v hv; go_simp <;> with_reducible rfl)
                  simp only [List.getElem_toArray, List.getElem_cons_succ, List.getElem_cons_zero, Act.put, List.setIfInBounds_toArray, List.set_cons_zero, List.set_cons_succ]
                  refine wpAnyH_take (i := 2) (v := ?_) rfl (by kernel_rfl) (by kernel_rfl) (by kernel_rfl) (fun _ _ _ h => h) (Or.inl ⟨by rfl, ?_⟩) HB.out ?_
                  rotate_left
                  · (intro v hv; go_simp <;> with_reducible rfl)
                  simp only [List.getElem_toArray, List.getElem_cons_succ, List.getElem_cons_zero, Act.put, List.setIfInBounds_toArray, List.set_cons_zero, List.set_cons_succ]
                  refine wpAnyH_take (i := 3) (v := ?_) rfl (by kernel_rfl) (by kernel_rfl) (by kernel_rfl) (fun _ _ _ h => h) (Or.inl ⟨by rfl, ?_⟩) HB.out ?_
                  rotate_left
                  · (intro v hv; go_simp <;> with_reducible rfl)
                  simp only [List.getElem_toArray, List.getElem_cons_succ, List.getElem_cons_zero, Act.put, List.setIfInBounds_toArray, List.set_cons_zero, List.set_cons_succ]
                  refine wpAnyH_take (i := 4) (v := ?_) rfl (by kernel_rfl) (by kernel_rfl) (by kernel_rfl) (fun _ _ _ h => h) (Or.inl ⟨by rfl, ?_⟩) HB.out ?_
                  rotate_left
                  · (intro v hv; go_simp <;> with_reducible rfl)
                  simp only [List.getElem_toArray, List.getElem_cons_succ, List.getElem_cons_zero, Act.put, List.setIfInBounds_toArray, List.set_cons_zero, List.set_cons_succ]
                  refine wpAnyH_take (i := 5) (v := ?_) rfl (by kernel_rfl) (by kernel_rfl) (by kernel_rfl) (fun _ _ _ h => h) (Or.inl ⟨by rfl, ?_⟩) HB.out ?_
                  rotate_left
                  · (intro v hv; go_simp <;> with_reducible rfl)
                  simp only [List.getElem_toArray, List.getElem_cons_succ, List.getElem_cons_zero, Act.put, List.setIfInBounds_toArray, List.set_cons_zero, List.set_cons_succ]
                  refine wpAnyH_take (i := 6) (v := ?_) rfl (by kernel_rfl) (by kernel_rfl) (by kernel_rfl) (fun _ _ _ h => h) (Or.inl ⟨by rfl, ?_⟩) HB.out ?_
                  rotate_left
                  · (intro v hv; go_simp <;> with_reducible rfl)
                  simp only [List.getElem_toArray, List.getElem_cons_succ, List.getElem_cons_zero, Act.put, List.setIfInBounds_toArray, List.set_cons_zero, List.set_cons_succ]
                  refine wpAnyH_take (i := 7) (v := ?_) rfl (by kernel_rfl) (by kernel_rfl) (by kernel_rfl) (fun _ _ _ h => h) (Or.inl ⟨by rfl, ?_⟩) HB.out ?_
                  rotate_left
                  · (intro v hv; go_simp <;> with_reducible rfl)
                  simp only [List.getElem_toArray, List.getElem_cons_succ, List.getElem_cons_zero, Act.put, List.setIfInBounds_toArray, List.set_cons_zero, List.set_cons_succ]
                  refine wpAnyH_take (i := 8) (v := ?_) rfl (by kernel_rfl) (by kernel_rfl) (by kernel_rfl) (fun _ _ _ h => h) (Or.inl ⟨by rfl, ?_⟩) HB.out ?_
                  rotate_left
                  · (intro v hv; go_simp <;> with_reducible rfl)
                  simp only [List.getElem_toArray, List.getElem_cons_succ, List.getElem_cons_zero, Act.put, List.setIfInBounds_toArray, List.set_cons_zero, List.set_cons_succ]
                  refine wpAnyH_take (i := 9) (v := undef) rfl (by kernel_rfl) (by kernel_rfl) (by kernel_rfl) (fun _ _ _ h => h) (Or.inr ⟨by rfl, rfl⟩) HB.out ?_
                  simp only [List.getElem_toArray, List.getElem_cons_succ, List.getElem_cons_zero, Act.put, List.setIfInBounds_toArray, List.set_cons_zero, List.set_cons_succ]
                  refine wpAnyH_take (i := 10) (v := undef) rfl (by kernel_rfl) (by kernel_rfl) (by kernel_rfl) (fun _ _ _ h => h) (Or.inr ⟨by rfl, rfl⟩) HB.out ?_
                  simp only [List.getElem_toArray, List.getElem_cons_succ, List.getElem_cons_zero, Act.put, List.setIfInBounds_toArray, List.set_cons_zero, List.set_cons_succ]
                  refine wpAnyH_take (i := 11) (v := undef) rfl (by kernel_rfl) (by kernel_rfl) (by kernel_rfl) (fun _ _ _ h => h) (Or.inr ⟨by rfl, rfl⟩) HB.out ?_
                  simp only [List.getElem_toArray, List.getElem_cons_succ, List.getElem_cons_zero, Act.put, List.setIfInBounds_toArray, List.set_cons_zero, List.set_cons_succ]
                  refine wpAnyH_take (i := 12) (v := undef) rfl (by kernel_rfl) (by kernel_rfl) (by kernel_rfl) (fun _ _ _ h => h) (Or.inr ⟨by rfl, rfl⟩) HB.out ?_
                  simp only [List.getElem_toArray, List.getElem_cons_succ, List.getElem_cons_zero, Act.put, List.setIfInBounds_toArray, List.set_cons_zero, List.set_cons_succ]
                  refine wpAnyH_take (i := 13) (v := undef) rfl (by kernel_rfl) (by kernel_rfl) (by kernel_rfl) (fun _ _ _ h => h) (Or.inr ⟨by rfl, rfl⟩) HB.out ?_
                  simp only [List.getElem_toArray, List.getElem_cons_succ, List.getElem_cons_zero, Act.put, List.setIfInBounds_toArray, List.set_cons_zero, List.set_cons_succ]
                  refine wpAnyH_take (i := 14) (v := undef) rfl (by kernel_rfl) (by kernel_rfl) (by kernel_rfl) (fun _ _ _ h => h) (Or.inr ⟨by rfl, rfl⟩) HB.out ?_
                  simp only [List.getElem_toArray, List.getElem_cons_succ, List.getElem_cons_zero, Act.put, List.setIfInBounds_toArray, List.set_cons_zero, List.set_cons_succ]
                  refine wpAnyH_take (i := 15) (v := undef) rfl (by kernel_rfl) (by kernel_rfl) (by kernel_rfl) (fun _ _ _ h => h) (Or.inr ⟨by rfl, rfl⟩) HB.out ?_
                  simp only [List.getElem_toArray, List.getElem_cons_succ, List.getElem_cons_zero, Act.put, List.setIfInBounds_toArray, List.set_cons_zero, List.set_cons_succ]
                  refine wpAnyH_take (i := 16) (v := undef) rfl (by kernel_rfl) (by kernel_rfl) (by kernel_rfl) (fun _ _ _ h => h) (Or.inr ⟨by rfl, rfl⟩) HB.out ?_
                  simp only [List.getElem_toArray, List.getElem_cons_succ, List.getElem_cons_zero, Act.put, List.setIfInBounds_toArray, List.set_cons_zero, List.set_cons_succ]
                  refine wpAnyH_take (i := 17) (v := ?_) rfl (by kernel_rfl) (by kernel_rfl) (by kernel_rfl) (fun _ _ _ h => h) (Or.inl ⟨by rfl, ?_⟩) HB.out ?_
                  rotate_left
                  · (intro v hv; go_simp <;> with_reducible rfl)
                  simp only [List.getElem_toArray, List.getElem_cons_succ, List.getElem_cons_zero, Act.put, List.setIfInBounds_toArray, List.set_cons_zero, List.set_cons_succ]
                  refine wpAnyH_take (i := 18) (v := ?_) rfl (by kernel_rfl) (by kernel_rfl) (by kernel_rfl) (fun _ _ _ h => h) (Or.inl ⟨by rfl, ?_⟩) HB.out ?_
                  rotate_left
                  · (intro v hv; go_simp <;> with_reducible rfl)
                  simp only [List.getElem_toArray, List.getElem_cons_succ, List.getElem_cons_zero, Act.put, List.setIfInBounds_toArray, List.set_cons_zero, List.set_cons_succ]
                  refine wpAnyH_take (i := 19) (v := ?_) rfl (by kernel_rfl) (by kernel_rfl) (by kernel_rfl) (fun _ _ _ h => h) (Or.inl ⟨by rfl, ?_⟩) HB.out ?_
                  rotate_left
                  · (intro v hv; go_simp <;> with_reducible rfl)
                  simp only [List.getElem_toArray, List.getElem_cons_succ, List.getElem_cons_zero, Act.put, List.setIfInBounds_toArray, List.set_cons_zero, List.set_cons_succ]
                  refine wpAnyH_take (i := 20) (v := ?_) rfl (by kernel_rfl) (by kernel_rfl) (by kernel_rfl) (fun _ _ _ h => h) (Or.inl ⟨by rfl, ?_⟩) HB.out ?_
                  rotate_left
                  · (intro v hv; go_simp <;> with_reducible rfl)
                  simp only [List.getElem_toArray, List.getElem_cons_succ, List.getElem_cons_zero, Act.put, List.setIfInBounds_toArray, List.set_cons_zero, List.set_cons_succ]
                  refine wpAnyH_take (i := 21) (v := ?_) rfl (by kernel_rfl) (by kernel_rfl) (by kernel_rfl) (fun _ _ _ h => h) (Or.inl ⟨by rfl, ?_⟩) HB.out ?_
                  rotate_left
                  · (intro v hv; go_simp <;> with_reducible rfl)
                  simp only [List.getElem_toArray, List.getElem_cons_succ, List.getElem_cons_zero, Act.put, List.setIfInBounds_toArray, List.set_cons_zero, List.set_cons_succ]
                  refine wpAnyH_take (i := 22) (v := ?_) rfl (by kernel_rfl) (by kernel_rfl) (by kernel_rfl) (fun _ _ _ h => h) (Or.inl ⟨by rfl, ?_⟩) HB.out ?_
                  rotate_left
                  · (intro v hv; go_simp <;> with_reducible rfl)
                  simp only [List.getElem_toArray, List.getElem_cons_succ, List.getElem_cons_zero, Act.put, List.setIfInBounds_toArray, List.set_cons_zero, List.set_cons_succ]
                  refine wpAnyH_take (i := 23) (v := ?_) rfl (by kernel_rfl) (by kernel_rfl) (by kernel_rfl) (fun _ _ _ h => h) (Or.inl ⟨by rfl, ?_⟩) HB.out ?_
                  rotate_left
                  · (intro v hv; go_simp <;> with_reducible rfl)
                  simp only [List.getElem_toArray, List.getElem_cons_succ, List.getElem_cons_zero, Act.put, List.setIfInBounds_toArray, List.set_cons_zero, List.set_cons_succ]
                  refine wpAnyH_take (i := 24) (v := undef) rfl (by kernel_rfl) (by kernel_rfl) (by kernel_rfl) (fun _ _ _ h => h) (Or.inr ⟨by rfl, rfl⟩) HB.out ?_
                  simp only [List.getElem_toArray, List.getElem_cons_succ, List.getElem_cons_zero, Act.put, List.setIfInBounds_toArray, List.set_cons_zero, List.set_cons_succ]
                  refine wpAnyH_take (i := 25) (v := undef) rfl (by kernel_rfl) (by kernel_rfl) (by kernel_rfl) (fun _ _ _ h => h) (Or.inr ⟨by rfl, rfl⟩) HB.out ?_
                  simp only [List.getElem_toArray, List.getElem_cons_succ, List.getElem_cons_zero, Act.put, List.setIfInBounds_toArray, List.set_cons_zero, List.set_cons_succ]
                  refine wpAnyH_take (i := 26) (v := ?_) rfl (by kernel_rfl) (by kernel_rfl) (by kernel_rfl) (fun _ _ _ h => h) (Or.inl ⟨by rfl, ?_⟩) HB.out ?_
                  rotate_left
                  · (intro v hv; go_simp <;> with_reducible rfl)
                  simp only [List.getElem_toArray, List.getElem_cons_succ, List.getElem_cons_zero, Act.put, List.setIfInBounds_toArray, List.set_cons_zero, List.set_cons_succ]
                  refine wpAnyH_take (i := 27) (v := ?_) rfl (by kernel_rfl) (by kernel_rfl) (by kernel_rfl) (fun _ _ _ h => h) (Or.inl ⟨by rfl, ?_⟩) HB.out ?_
                  rotate_left
                  · (intro v hv; go_simp <;> with_reducible rfl)
                  simp only [List.getElem_toArray, List.getElem_cons_succ, List.getElem_cons_zero, Act.put, List.setIfInBounds_toArray, List.set_cons_zero, List.set_cons_succ]
                  refine wpAnyH_take (i := 28) (v := ?_) rfl (by kernel_rfl) (by kernel_rfl) (by kernel_rfl) (fun _ _ _ h => h) (Or.inl ⟨by rfl, ?_⟩) HB.out ?_
                  rotate_left
                  · (intro v hv; go_simp <;> with_reducible rfl)
                  simp only [List.getElem_toArray, List.getElem_cons_succ, List.getElem_cons_zero, Act.put, List.setIfInBounds_toArray, List.set_cons_zero, List.set_cons_succ]
                  refine wpAnyH_take (i := 29) (v := ?_) rfl (by kernel_rfl) (by kernel_rfl) (by kernel_rfl) (fun _ _ _ h => h) (Or.inl ⟨by rfl, ?_⟩) HB.out ?_
                  rotate_left
                  · (intro v hv; go_simp <;> with_reducible rfl)
                  simp only [List.getElem_toArray, List.getElem_cons_succ, List.getElem_cons_zero, Act.put, List.setIfInBounds_toArray, List.set_cons_zero, List.set_cons_succ]
                  refine wpAnyH_take (i := 30) (v := ?_) rfl (by kernel_rfl) (by kernel_rfl) (by kernel_rfl) (fun _ _ _ h => h) (Or.inl ⟨by rfl, ?_⟩) HB.out ?_
                  rotate_left
                  · (intro v hv; go_simp <;> with_reducible rfl)
                  simp only [List.getElem_toArray, List.getElem_cons_succ, List.getElem_cons_zero, Act.put, List.setIfInBounds_toArray, List.set_cons_zero, List.set_cons_succ]
                  refine wpAnyH_ready (rs := [31]) (by kernel_rfl) (by simp) ?_
                  refine AllReadyH.cons rfl (fun K hK => ?_) AllReadyH.nil
                  go_simp
                  refine (duo_keys (D11.out.quiet HB.out)).mono ?_
                  rintro e w12 ⟨kv2, rfl, DK12, K12, _⟩
                  have HB := Lib.hid (kept_trans HB.out K12.out)
                  have DK12 := Lib.hid (DK12.out.low (Nat.zero_le _))
                  clear K12
                  simp only []
                  refine hK _ _ HB.out (fun _ => ?_)
                  clear hK K
                  refine wpAnyH_ready (rs := [32]) (by kernel_rfl) (by simp) ?_
                  refine AllReadyH.cons rfl (fun K hK => ?_) AllReadyH.nil
                  go_simp
                  refine (keys_same w12 kv kv2 (keysOf T) (DK11.out.kept HB.out (fun _ _ h => h)) DK12.out).mono ?_
                  rintro e w13 ⟨rfl, K13⟩
                  have HB := Lib.hid (kept_trans HB.out K13.out)
                  clear K13
                  simp only []
                  refine hK _ _ HB.out (fun _ => ?_)
                  clear hK K
                  refine wpAnyH_take (i := 33) (v := ?_) rfl (by kernel_rfl) (by kernel_rfl) (by kernel_rfl) (fun _ _ _ h => h) (Or.inl ⟨by rfl, ?_⟩) HB.out ?_
                  rotate_left
                  · (intro v hv; go_simp <;> with_reducible rfl)
                  simp only [List.getElem_toArray, List.getElem_cons_succ, List.getElem_cons_zero, Act.put, List.setIfInBounds_toArray, List.set_cons_zero, List.set_cons_succ]
                  refine wpAnyH_take (i := 34) (v := ?_) rfl (by kernel_rfl) (by kernel_rfl) (by kernel_rfl) (fun _ _ _ h => h) (Or.inl ⟨by rfl, ?_⟩) HB.out ?_
                  rotate_left
                  · (intro v hv; go_simp <;> with_reducible rfl)
                  simp only [List.getElem_toArray, List.getElem_cons_succ, List.getElem_cons_zero, Act.put, List.setIfInBounds_toArray, List.set_cons_zero, List.set_cons_succ]
                  refine wpAnyH_done (by kernel_rfl) ?_ _
                  go_wp2_with fail
                  go_roundg (n2 - (j + 1))
                  case rel => exact ⟨j + 1, P', by go_num, by omega, rfl, D11.out.quiet HB.out, kept_trans M11.out HB.out, DK11.out.kept HB.out (fun _ _ h => h), HL5, HU5, HA5⟩
                  case measure => omega
                | false =>
                  have HNW := Lib.hid (ST.out.news rfl HHAD.out HND.out)
                  go_wp2_with ((with_reducible refine load_arr ?_ (.tmp 19) ?_ b8 D HDL.out ?_ RD.out ?_); rfl; rfl; rfl)
                  refine (duo_get D9.out (dg (B2 j)) D HDD.out HOK.out HNW.out).mono ?_
                  rintro e w11 ⟨x11, rfl, OB11, K11⟩
                  have M11 := Lib.hid (kept_trans M9.out K11.out)
                  have D11 := Lib.hid (D9.out.quiet K11.out)
                  have DK11 := Lib.hid (DK9.out.kept K11.out (fun _ _ h => h))
                  obtain ⟨Ab, cb, hbv, hbb, _, _⟩ := OB11.out.bytes
                  subst hbv
                  have HB := Lib.hid (show Kept w11 w11.drew (fun _ => False) from (Kept.refl w11 _).drewN 1)
                  clear K11 M9 D9 DK9 OB11 RD
                  have HCV := Lib.hid (fun (v : World) (hv : Kept w11 v (fun _ => False)) => conv_bytes v Ab (B2 j).length cb (B2 j) (hbb.kept hv (fun _ _ _ _ h => h)))
                  have HCW := Lib.hid (fun (v : World) (hv : Kept w11 v (fun _ => False)) => conv_bytes v (X2 j) (B2 j).length (C2 j) (B2 j) ((HS2.out.kept (kept_trans M11.out hv)).row j hlt2))
                  have HCE := Lib.hid (fun (v : World) (hv : Kept w11 v (fun _ => False)) => HW.out v (kept_trans M11.out hv))
                  clear hbb
                  go_wp2_with fail
                  refine wp_region_held (S := fun v => Kept w11 v (fun _ => False)) (by kernel_rfl) ?_
                  change wpAnyH _ _ _ _ _ _ _ _ (World.drew _)
                  refine wpAnyH_take (i := 0) (v := ?_) rfl (by kernel_rfl) (by kernel_rfl) (by kernel_rfl) (fun _ _ _ h => h) (Or.inl ⟨by rfl, ?_⟩) HB.out ?_
                  rotate_left
                  · (intro v hv; go_simp <;> with_reducible rfl)
                  simp only [List.getElem_toArray, List.getElem_cons_zero, Act.put, List.setIfInBounds_toArray, List.set_cons_zero, List.set_cons_succ]
                  refine wpAnyH_take (i := 1) (v := ?_) rfl (by kernel_rfl) (by kernel_rfl) (by kernel_rfl) (fun _ _ _ h => h) (Or.inl ⟨by rfl, ?_⟩) HB.out ?_
                  rotate_left
                  · (intro v hv; go_simp <;> with_reducible rfl)
                  simp only [List.getElem_toArray, List.getElem_cons_succ, List.getElem_cons_zero, Act.put, List.setIfInBounds_toArray, List.set_cons_zero, List.set_cons_succ]
                  refine wpAnyH_take (i := 2) (v := ?_) rfl (by kernel_rfl) (by kernel_rfl) (by kernel_rfl) (fun _ _ _ h => h) (Or.inl ⟨by rfl, ?_⟩) HB.out ?_
                  rotate_left
                  · (intro v hv; go_simp <;> with_reducible rfl)
                  simp only [List.getElem_toArray, List.getElem_cons_succ, List.getElem_cons_zero, Act.put, List.setIfInBounds_toArray, List.set_cons_zero, List.set_cons_succ]
                  refine wpAnyH_take (i := 3) (v := ?_) rfl (by kernel_rfl) (by kernel_rfl) (by kernel_rfl) (fun _ _ _ h => h) (Or.inl ⟨by rfl, ?_⟩) HB.out ?_
                  rotate_left
                  · (intro v hv; go_simp <;> with_reducible rfl)
                  simp only [List.getElem_toArray, List.getElem_cons_succ, List.getElem_cons_zero, Act.put, List.setIfInBounds_toArray, List.set_cons_zero, List.set_cons_succ]
                  refine wpAnyH_take (i := 4) (v := ?_) rfl (by kernel_rfl) (by kernel_rfl) (by kernel_rfl) (fun _ _ _ h => h) (Or.inl ⟨by rfl, ?_⟩) HB.out ?_
                  rotate_left
                  · (intro v hv; go_simp <;> with_reducible rfl)
                  simp only [List.getElem_toArray, List.getElem_cons_succ, List.getElem_cons_zero, Act.put, List.setIfInBounds_toArray, List.set_cons_zero, List.set_cons_succ]
                  refine wpAnyH_take (i := 5) (v := ?_) rfl (by kernel_rfl) (by kernel_rfl) (by kernel_rfl) (fun _ _ _ h => h) (Or.inl ⟨by rfl, ?_⟩) HB.out ?_
                  rotate_left
                  · (intro v hv; go_simp <;> with_reducible rfl)
                  simp only [List.getElem_toArray, List.getElem_cons_succ, List.getElem_cons_zero, Act.put, List.setIfInBounds_toArray, List.set_cons_zero, List.set_cons_succ]
                  refine wpAnyH_take (i := 6) (v := ?_) rfl (by kernel_rfl) (by kernel_rfl) (by kernel_rfl) (fun _ _ _ h => h) (Or.inl ⟨by rfl, ?_⟩) HB.out ?_
                  rotate_left
                  · (intro v hv; go_simp <;> with_reducible rfl)
                  simp only [List.getElem_toArray, List.getElem_cons_succ, List.getElem_cons_zero, Act.put, List.setIfInBounds_toArray, List.set_cons_zero, List.set_cons_succ]
                  refine wpAnyH_take (i := 7) (v := ?_) rfl (by kernel_rfl) (by kernel_rfl) (by kernel_rfl) (fun _ _ _ h => h) (Or.inl ⟨by rfl, ?_⟩) HB.out ?_
                  rotate_left
                  · (intro v hv; go_simp <;> with_reducible rfl)
                  simp only [List.getElem_toArray, List.getElem_cons_succ, List.getElem_cons_zero, Act.put, List.setIfInBounds_toArray, List.set_cons_zero, List.set_cons_succ]
                  refine wpAnyH_take (i := 8) (v := ?_) rfl (by kernel_rfl) (by kernel_rfl) (by kernel_rfl) (fun _ _ _ h => h) (Or.inl ⟨by rfl, ?_⟩) HB.out ?_
                  rotate_left
                  · (intro v hv; go_simp <;> with_reducible rfl)
                  simp only [List.getElem_toArray, List.getElem_cons_succ, List.getElem_cons_zero, Act.put, List.setIfInBounds_toArray, List.set_cons_zero, List.set_cons_succ]
                  refine wpAnyH_take (i := 9) (v := ?_) rfl (by kernel_rfl) (by kernel_rfl) (by kernel_rfl) (fun _ _ _ h => h) (Or.inl ⟨by rfl, ?_⟩) HB.out ?_
                  rotate_left
                  · (intro v hv; go_simp <;> with_reducible rfl)
                  simp only [List.getElem_toArray, List.getElem_cons_succ, List.getElem_cons_zero, Act.put, List.setIfInBounds_toArray, List.set_cons_zero, List.set_cons_succ]
                  refine wpAnyH_take (i := 10) (v := ?_) rfl (by kernel_rfl) (by kernel_rfl) (by kernel_rfl) (fun _ _ _ h => h) (Or.inl ⟨by rfl, ?_⟩) HB.out ?_
                  rotate_left
                  · (intro v hv; have hcv := HCV.out v hv; go_simp <;> with_reducible rfl)
                  simp only [List.getElem_toArray, List.getElem_cons_succ, List.getElem_cons_zero, Act.put, List.setIfInBounds_toArray, List.set_cons_zero, List.set_cons_succ]
                  refine wpAnyH_take (i := 11) (v := ?_) rfl (by kernel_rfl) (by kernel_rfl) (by kernel_rfl) (fun _ _ _ h => h) (Or.inl ⟨by rfl, ?_⟩) HB.out ?_
                  rotate_left
                  · (intro v hv; go_simp <;> with_reducible rfl)
                  simp only [List.getElem_toArray, List.getElem_cons_succ, List.getElem_cons_zero, Act.put, List.setIfInBounds_toArray, List.set_cons_zero, List.set_cons_succ]
                  refine wpAnyH_take (i := 12) (v := ?_) rfl (by kernel_rfl) (by kernel_rfl) (by kernel_rfl) (fun _ _ _ h => h) (Or.inl ⟨by rfl, ?_⟩) HB.out ?_
                  rotate_left
                  · (intro v hv; go_simp <;> with_reducible rfl)
                  simp only [List.getElem_toArray, List.getElem_cons_succ, List.getElem_cons_zero, Act.put, List.setIfInBounds_toArray, List.set_cons_zero, List.set_cons_succ]
                  refine wpAnyH_take (i := 13) (v := ?_) rfl (by kernel_rfl) (by kernel_rfl) (by kernel_rfl) (fun _ _ _ h => h) (Or.inl ⟨by rfl, ?_⟩) HB.out ?_
                  rotate_left
                  · (intro v hv; go_simp <;> with_reducible rfl)
                  simp only [List.getElem_toArray, List.getElem_cons_succ, List.getElem_cons_zero, Act.put, List.setIfInBounds_toArray, List.set_cons_zero, List.set_cons_succ]
                  refine wpAnyH_take (i := 14) (v := ?_) rfl (by kernel_rfl) (by kernel_rfl) (by kernel_rfl) (fun _ _ _ h => h) (Or.inl ⟨by rfl, ?_⟩) HB.out ?_
                  rotate_left
                  · (intro v hv; have hce := HCE.out v hv; go_simp <;> with_reducible rfl)
                  simp only [List.getElem_toArray, List.getElem_cons_succ, List.getElem_cons_zero, Act.put, List.setIfInBounds_toArray, List.set_cons_zero, List.set_cons_succ]
                  refine wpAnyH_take (i := 15) (v := ?_) rfl (by kernel_rfl) (by kernel_rfl) (by kernel_rfl) (fun _ _ _ h => h) (Or.inl ⟨by rfl, ?_⟩) HB.out ?_
                  rotate_left
                  · (intro v hv; have hcw := HCW.out v hv; go_simp <;> with_reducible rfl)
                  simp only [List.getElem_toArray, List.getElem_cons_succ, List.getElem_cons_zero, Act.put, List.setIfInBounds_toArray, List.set_cons_zero, List.set_cons_succ]
                  refine wpAnyH_take (i := 16) (v := ?_) rfl (by kernel_rfl) (by kernel_rfl) (by kernel_rfl) (fun _ _ _ h => h) (Or.inl ⟨by rfl, ?_⟩) HB.out ?_
                  rotate_left
                  · (intro v hv; go_simp <;> with_reducible rfl)
                  simp only [List.getElem_toArray, List.getElem_cons_succ, List.getElem_cons_zero, Act.put, List.setIfInBounds_toArray, List.set_cons_zero, List.set_cons_succ]
                  refine wpAnyH_take (i := 17) (v := ?_) rfl (by kernel_rfl) (by kernel_rfl) (by kernel_rfl) (fun _ _ _ h => h) (Or.inl ⟨by rfl, ?_⟩) HB.out ?_
                  rotate_left
                  · (intro v hv; go_simp <;> with_reducible rfl)
                  simp only [List.getElem_toArray, List.getElem_cons_succ, List.getElem_cons_zero, Act.put, List.setIfInBounds_toArray, List.set_cons_zero, List.set_cons_succ]
                  refine wpAnyH_take (i := 18) (v := ?_) rfl (by kernel_rfl) (by kernel_rfl) (by kernel_rfl) (fun _ _ _ h => h) (Or.inl ⟨by rfl, ?_⟩) HB.out ?_
                  rotate_left
                  · (intro v hv; go_simp <;> with_reducible rfl)
                  simp only [List.getElem_toArray, List.getElem_cons_succ, List.getElem_cons_zero, Act.put, List.setIfInBounds_toArray, List.set_cons_zero, List.set_cons_succ]
                  refine wpAnyH_take (i := 19) (v := ?_) rfl (by kernel_rfl) (by kernel_rfl) (by kernel_rfl) (fun _ _ _ h => h) (Or.inl ⟨by rfl, ?_⟩) HB.out ?_
                  rotate_left
                  · (intro v hv; go_simp <;> with_reducible rfl)
                  simp only [List.getElem_toArray, List.getElem_cons_succ, List.getElem_cons_zero, Act.put, List.setIfInBounds_toArray, List.set_cons_zero, List.set_cons_succ]
                  refine wpAnyH_take (i := 20) (v := ?_) rfl (by kernel_rfl) (by kernel_rfl) (by kernel_rfl) (fun _ _ _ h => h) (Or.inl ⟨by rfl, ?_⟩) HB.out ?_
                  rotate_left
                  · (intro v hv; go_simp <;> with_reducible rfl)
                  simp only [List.getElem_toArray, List.getElem_cons_succ, List.getElem_cons_zero, Act.put, List.setIfInBounds_toArray, List.set_cons_zero, List.set_cons_succ]
                  refine wpAnyH_take (i := 21) (v := ?_) rfl (by kernel_rfl) (by kernel_rfl) (by kernel_rfl) (fun _ _ _ h => h) (Or.inl ⟨by rfl, ?_⟩) HB.out ?_
                  rotate_left
                  · (intro v hv; go_simp <;> with_reducible rfl)
                  simp only [List.getElem_toArray, List.getElem_cons_succ, List.getElem_cons_zero, Act.put, List.setIfInBounds_toArray, List.set_cons_zero, List.set_cons_succ]
                  refine wpAnyH_take (i := 22) (v := ?_) rfl (by kernel_rfl) (by kernel_rfl) (by kernel_rfl) (fun _ _ _ h => h) (Or.inl ⟨by rfl, ?_⟩) HB.out ?_
                  rotate_left
                  · (intro v hv; go_simp <;> with_reducible rfl)
                  simp only [List.getElem_toArray, List.getElem_cons_succ, List.getElem_cons_zero, Act.put, List.setIfInBounds_toArray, List.set_cons_zero, List.set_cons_succ]
                  refine wpAnyH_take (i := 23) (v := ?_) rfl (by kernel_rfl) (by kernel_rfl) (by kernel_rfl) (fun _ _ _ h => h) (Or.inl ⟨by rfl, ?_⟩) HB.out ?_
                  rotate_left
                  · (intro v hv; go_simp <;> with_reducible rfl)
                  simp only [List.getElem_toArray, List.getElem_cons_succ, List.getElem_cons_zero, Act.put, List.setIfInBounds_toArray, List.set_cons_zero, List.set_cons_succ]
                  refine wpAnyH_take (i := 24) (v := undef) rfl (by kernel_rfl) (by kernel_rfl) (by kernel_rfl) (fun _ _ _ h => h) (Or.inr ⟨by rfl, rfl⟩) HB.out ?_
                  simp only [List.getElem_toArray, List.getElem_cons_succ, List.getElem_cons_zero, Act.put, List.setIfInBounds_toArray, List.set_cons_zero, List.set_cons_succ]
                  refine wpAnyH_take (i := 25) (v := undef) rfl (by kernel_rfl) (by kernel_rfl) (by kernel_rfl) (fun _ _ _ h => h) (Or.inr ⟨by rfl, rfl⟩) HB.out ?_
                  simp only [List.getElem_toArray, List.getElem_cons_succ, List.getElem_cons_zero, Act.put, List.setIfInBounds_toArray, List.set_cons_zero, List.set_cons_succ]
                  refine wpAnyH_take (i := 26) (v := ?_) rfl (by kernel_rfl) (by kernel_rfl) (by kernel_rfl) (fun _ _ _ h => h) (Or.inl ⟨by rfl, ?_⟩) HB.out ?_
                  rotate_left
                  · (intro v hv; go_simp <;> with_reducible rfl)
                  simp only [List.getElem_toArray, List.getElem_cons_succ, List.getElem_cons_zero, Act.put, List.setIfInBounds_toArray, List.set_cons_zero, List.set_cons_succ]
                  refine wpAnyH_take (i := 27) (v := ?_) rfl (by kernel_rfl) (by kernel_rfl) (by kernel_rfl) (fun _ _ _ h => h) (Or.inl ⟨by rfl, ?_⟩) HB.out ?_
                  rotate_left
                  · (intro v hv; go_simp <;> with_reducible rfl)
                  simp only [List.getElem_toArray, List.getElem_cons_succ, List.getElem_cons_zero, Act.put, List.setIfInBounds_toArray, List.set_cons_zero, List.set_cons_succ]
                  refine wpAnyH_take (i := 28) (v := ?_) rfl (by kernel_rfl) (by kernel_rfl) (by kernel_rfl) (fun _ _ _ h => h) (Or.inl ⟨by rfl, ?_⟩) HB.out ?_
                  rotate_left
                  · (intro v hv; go_simp <;> with_reducible rfl)
                  simp only [List.getElem_toArray, List.getElem_cons_succ, List.getElem_cons_zero, Act.put, List.setIfInBounds_toArray, List.set_cons_zero, List.set_cons_succ]
                  refine wpAnyH_take (i := 29) (v := ?_) rfl (by kernel_rfl) (by kernel_rfl) (by kernel_rfl) (fun _ _ _ h => h) (Or.inl ⟨by rfl, ?_⟩) HB.out ?_
                  rotate_left
                  · (intro v hv; go_simp <;> with_reducible rfl)
                  simp only [List.getElem_toArray, List.getElem_cons_succ, List.getElem_cons_zero, Act.put, List.setIfInBounds_toArray, List.set_cons_zero, List.set_cons_succ]
                  refine wpAnyH_take (i := 30) (v := ?_) rfl (by kernel_rfl) (by kernel_rfl) (by kernel_rfl) (fun _ _ _ h => h) (Or.inl ⟨by rfl, ?_⟩) HB.out ?_
                  rotate_left
                  · (intro v hv; go_simp <;> with_reducible rfl)
                  simp only [List.getElem_toArray, List.getElem_cons_succ, List.getElem_cons_zero, Act.put, List.setIfInBounds_toArray, List.set_cons_zero, List.set_cons_succ]
                  refine wpAnyH_ready (rs := [31]) (by kernel_rfl) (by simp) ?_
                  refine AllReadyH.cons rfl (fun K hK => ?_) AllReadyH.nil
                  go_simp
                  refine (duo_keys (D11.out.quiet HB.out)).mono ?_
                  rintro e w12 ⟨kv2, rfl, DK12, K12, _⟩
                  have HB := Lib.hid (kept_trans HB.out K12.out)
                  have DK12 := Lib.hid (DK12.out.low (Nat.zero_le _))
                  clear K12
                  simp only []
                  refine hK _ _ HB.out (fun _ => ?_)
                  clear hK K
                  refine wpAnyH_ready (rs := [32]) (by kernel_rfl) (by simp) ?_
                  refine AllReadyH.cons rfl (fun K hK => ?_) AllReadyH.nil
                  go_simp
                  refine (keys_same w12 kv kv2 (keysOf T) (DK11.out.kept HB.out (fun _ _ h => h)) DK12.out).mono ?_
                  rintro e w13 ⟨rfl, K13⟩
                  have HB := Lib.hid (kept_trans HB.out K13.out)
                  clear K13
                  simp only []
                  refine hK _ _ HB.out (fun _ => ?_)
                  clear hK K
                  refine wpAnyH_take (i := 33) (v := ?_) rfl (by kernel_rfl) (by kernel_rfl) (by kernel_rfl) (fun _ _ _ h => h) (Or.inl ⟨by rfl, ?_⟩) HB.out ?_
                  rotate_left
                  · (intro v hv; go_simp <;> with_reducible rfl)
                  simp only [List.getElem_toArray, List.getElem_cons_succ, List.getElem_cons_zero, Act.put, List.setIfInBounds_toArray, List.set_cons_zero, List.set_cons_succ]
                  refine wpAnyH_take (i := 34) (v := ?_) rfl (by kernel_rfl) (by kernel_rfl) (by kernel_rfl) (fun _ _ _ h => h) (Or.inl ⟨by rfl, ?_⟩) HB.out ?_
                  rotate_left
                  · (intro v hv; go_simp <;> with_reducible rfl)
                  simp only [List.getElem_toArray, List.getElem_cons_succ, List.getElem_cons_zero, Act.put, List.setIfInBounds_toArray, List.set_cons_zero, List.set_cons_succ]
                  refine wpAnyH_done (by kernel_rfl) ?_ _
                  go_wp2_with fail
                  go_roundg (n2 - (j + 1))
                  case rel => exact ⟨j + 1, P', by go_num, by omega, rfl, D11.out.quiet HB.out, kept_trans M11.out HB.out, DK11.out.kept HB.out (fun _ _ h => h), HL5, HU5, HA5⟩
                  case measure => omega
              · have HDD := ST.out.dig
                obtain ⟨xz, hxz⟩ := HDD
                have HXZ := Lib.hid hxz
                clear hxz
                subst hE
                obtain ⟨okz, hokz⟩ : ∃ ok, (hasE (entries P') xz || hasE (entries T) xz) = ok := ⟨_, rfl⟩
                have HOK := Lib.hid hokz
                obtain ⟨bs11, hbs11⟩ : ∃ bs11, (if hasE (entries P') xz then bsE P' xz else bsE T xz) = bs11 := ⟨_, rfl⟩
                have HBS := Lib.hid hbs11
                clear hbs11 hokz
                go_wp2_with ((with_reducible refine load_arr ?_ (.tmp 19) ?_ b8 D HDL.out ?_ RD.out ?_); rfl; rfl; rfl)
                refine (duo_get D9.out xz D HXZ.out HOK.out HBS.out).mono ?_
                rintro e w11 ⟨x11, rfl, OB11, K11⟩
                have M11 := Lib.hid (kept_trans M9.out K11.out)
                have D11 := Lib.hid (D9.out.quiet K11.out)
                have DK11 := Lib.hid (DK9.out.kept K11.out (fun _ _ h => h))
                obtain ⟨Ab, cb, hbv, hbb, _, _⟩ := OB11.out.bytes
                subst hbv
                have HB := Lib.hid (show Kept w11 w11.drew (fun _ => False) from (Kept.refl w11 _).drewN 1)
                clear K11 M9 D9 DK9 OB11 RD
                go_wp2_with fail
                refine wp_region_held (S := fun v => Kept w11 v (fun _ => False)) (by kernel_rfl) ?_
                change wpAnyH _ _ _ _ _ _ _ _ (World.drew _)
                refine wpAnyH_take (i := 0) (v := ?_) rfl (by kernel_rfl) (by kernel_rfl) (by kernel_rfl) (fun _ _ _ h => h) (Or.inl ⟨by rfl, ?_⟩) HB.out ?_
                rotate_left
                · (intro v hv; go_simp <;> with_reducible rfl)
                simp only [List.getElem_toArray, List.getElem_cons_zero, Act.put, List.setIfInBounds_toArray, List.set_cons_zero, List.set_cons_succ]
                refine wpAnyH_take (i := 1) (v := ?_) rfl (by kernel_rfl) (by kernel_rfl) (by kernel_rfl) (fun _ _ _ h => h) (Or.inl ⟨by rfl, ?_⟩) HB.out ?_
                rotate_left
                · (intro v hv; go_simp <;> with_reducible rfl)
                simp only [List.getElem_toArray, List.getElem_cons_succ, List.getElem_cons_zero, Act.put, List.setIfInBounds_toArray, List.set_cons_zero, List.set_cons_succ]
                refine wpAnyH_take (i := 2) (v := ?_) rfl (by kernel_rfl) (by kernel_rfl) (by kernel_rfl) (fun _ _ _ h => h) (Or.inl ⟨by rfl, ?_⟩) HB.out ?_
                rotate_left
                · (intro v hv; go_simp <;> with_reducible rfl)
                simp only [List.getElem_toArray, List.getElem_cons_succ, List.getElem_cons_zero, Act.put, List.setIfInBounds_toArray, List.set_cons_zero, List.set_cons_succ]
                refine wpAnyH_take (i := 3) (v := undef) rfl (by kernel_rfl) (by kernel_rfl) (by kernel_rfl) (fun _ _ _ h => h) (Or.inr ⟨by rfl, rfl⟩) HB.out ?_
                simp only [List.getElem_toArray, List.getElem_cons_succ, List.getElem_cons_zero, Act.put, List.setIfInBounds_toArray, List.set_cons_zero, List.set_cons_succ]
                refine wpAnyH_take (i := 4) (v := undef) rfl (by kernel_rfl) (by kernel_rfl) (by kernel_rfl) (fun _ _ _ h => h) (Or.inr ⟨by rfl, rfl⟩) HB.out ?_
                simp only [List.getElem_toArray, List.getElem_cons_succ, List.getElem_cons_zero, Act.put, List.setIfInBounds_toArray, List.set_cons_zero, List.set_cons_succ]
                refine wpAnyH_take (i := 5) (v := undef) rfl (by kernel_rfl) (by kernel_rfl) (by kernel_rfl) (fun _ _ _ h => h) (Or.inr ⟨by rfl, rfl⟩) HB.out ?_
                simp only [List.getElem_toArray, List.getElem_cons_succ, List.getElem_cons_zero, Act.put, List.setIfInBounds_toArray, List.set_cons_zero, List.set_cons_succ]
                refine wpAnyH_take (i := 6) (v := undef) rfl (by kernel_rfl) (by kernel_rfl) (by kernel_rfl) (fun _ _ _ h => h) (Or.inr ⟨by rfl, rfl⟩) HB.out ?_
                simp only [List.getElem_toArray, List.getElem_cons_succ, List.getElem_cons_zero, Act.put, List.setIfInBounds_toArray, List.set_cons_zero, List.set_cons_succ]
                refine wpAnyH_take (i := 7) (v := undef) rfl (by kernel_rfl) (by kernel_rfl) (by kernel_rfl) (fun _ _ _ h => h) (Or.inr ⟨by rfl, rfl⟩) HB.out ?_
                simp only [List.getElem_toArray, List.getElem_cons_succ, List.getElem_cons_zero, Act.put, List.setIfInBounds_toArray, List.set_cons_zero, List.set_cons_succ]
                refine wpAnyH_take (i := 8) (v := undef) rfl (by kernel_rfl) (by kernel_rfl) (by kernel_rfl) (fun _ _ _ h => h) (Or.inr ⟨by rfl, rfl⟩) HB.out ?_
                simp only [List.getElem_toArray, List.getElem_cons_succ, List.getElem_cons_zero, Act.put, List.setIfInBounds_toArray, List.set_cons_zero, List.set_cons_succ]
                refine wpAnyH_take (i := 9) (v := undef) rfl (by kernel_rfl) (by kernel_rfl) (by kernel_rfl) (fun _ _ _ h => h) (Or.inr ⟨by rfl, rfl⟩) HB.out ?_
                simp only [List.getElem_toArray, List.getElem_cons_succ, List.getElem_cons_zero, Act.put, List.setIfInBounds_toArray, List.set_cons_zero, List.set_cons_succ]
                refine wpAnyH_take (i := 10) (v := undef) rfl (by kernel_rfl) (by kernel_rfl) (by kernel_rfl) (fun _ _ _ h => h) (Or.inr ⟨by rfl, rfl⟩) HB.out ?_
                simp only [List.getElem_toArray, List.getElem_cons_succ, List.getElem_cons_zero, Act.put, List.setIfInBounds_toArray, List.set_cons_zero, List.set_cons_succ]
                refine wpAnyH_take (i := 11) (v := undef) rfl (by kernel_rfl) (by kernel_rfl) (by kernel_rfl) (fun _ _ _ h => h) (Or.inr ⟨by rfl, rfl⟩) HB.out ?_
                simp only [List.getElem_toArray, List.getElem_cons_succ, List.getElem_cons_zero, Act.put, List.setIfInBounds_toArray, List.set_cons_zero, List.set_cons_succ]
                refine wpAnyH_take (i := 12) (v := undef) rfl (by kernel_rfl) (by kernel_rfl) (by kernel_rfl) (fun _ _ _ h => h) (Or.inr ⟨by rfl, rfl⟩) HB.out ?_
                simp only [List.getElem_toArray, List.getElem_cons_succ, List.getElem_cons_zero, Act.put, List.setIfInBounds_toArray, List.set_cons_zero, List.set_cons_succ]
                refine wpAnyH_take (i := 13) (v := undef) rfl (by kernel_rfl) (by kernel_rfl) (by kernel_rfl) (fun _ _ _ h => h) (Or.inr ⟨by rfl, rfl⟩) HB.out ?_
                simp only [List.getElem_toArray, List.getElem_cons_succ, List.getElem_cons_zero, Act.put, List.setIfInBounds_toArray, List.set_cons_zero, List.set_cons_succ]
                refine wpAnyH_take (i := 14) (v := undef) rfl (by kernel_rfl) (by kernel_rfl) (by kernel_rfl) (fun _ _ _ h => h) (Or.inr ⟨by rfl, rfl⟩) HB.out ?_
                simp only [List.getElem_toArray, List.getElem_cons_succ, List.getElem_cons_zero, Act.put, List.setIfInBounds_toArray, List.set_cons_zero, List.set_cons_succ]
                refine wpAnyH_take (i := 15) (v := undef) rfl (by kernel_rfl) (by kernel_rfl) (by kernel_rfl) (fun _ _ _ h => h) (Or.inr ⟨by rfl, rfl⟩) HB.out ?_
                simp only [List.getElem_toArray, List.getElem_cons_succ, List.getElem_cons_zero, Act.put, List.setIfInBounds_toArray, List.set_cons_zero, List.set_cons_succ]
                refine wpAnyH_take (i := 16) (v := undef) rfl (by kernel_rfl) (by kernel_rfl) (by kernel_rfl) (fun _ _ _ h => h) (Or.inr ⟨by rfl, rfl⟩) HB.out ?_
                simp only [List.getElem_toArray, List.getElem_cons_succ, List.getElem_cons_zero, Act.put, List.setIfInBounds_toArray, List.set_cons_zero, List.set_cons_succ]
                refine wpAnyH_take (i := 17) (v := undef) rfl (by kernel_rfl) (by kernel_rfl) (by kernel_rfl) (fun _ _ _ h => h) (Or.inr ⟨by rfl, rfl⟩) HB.out ?_
                simp only [List.getElem_toArray, List.getElem_cons_succ, List.getElem_cons_zero, Act.put, List.setIfInBounds_toArray, List.set_cons_zero, List.set_cons_succ]
                refine wpAnyH_take (i := 18) (v := undef) rfl (by kernel_rfl) (by kernel_rfl) (by kernel_rfl) (fun _ _ _ h => h) (Or.inr ⟨by rfl, rfl⟩) HB.out ?_
                simp only [List.getElem_toArray, List.getElem_cons_succ, List.getElem_cons_zero, Act.put, List.setIfInBounds_toArray, List.set_cons_zero, List.set_cons_succ]
                refine wpAnyH_take (i := 19) (v := ?_) rfl (by kernel_rfl) (by kernel_rfl) (by kernel_rfl) (fun _ _ _ h => h) (Or.inl ⟨by rfl, ?_⟩) HB.out ?_
                rotate_left
                · (intro v hv; go_simp <;> with_reducible rfl)
                simp only [List.getElem_toArray, List.getElem_cons_succ, List.getElem_cons_zero, Act.put, List.setIfInBounds_toArray, List.set_cons_zero, List.set_cons_succ]
                refine wpAnyH_take (i := 20) (v := ?_) rfl (by kernel_rfl) (by kernel_rfl) (by kernel_rfl) (fun _ _ _ h => h) (Or.inl ⟨by rfl, ?_⟩) HB.out ?_
                rotate_left
                · (intro v hv; go_simp <;> with_reducible rfl)
                simp only [List.getElem_toArray, List.getElem_cons_succ, List.getElem_cons_zero, Act.put, List.setIfInBounds_toArray, List.set_cons_zero, List.set_cons_succ]
                refine wpAnyH_take (i := 21) (v := ?_) rfl (by kernel_rfl) (by kernel_rfl) (by kernel_rfl) (fun _ _ _ h => h) (Or.inl ⟨by rfl, ?_⟩) HB.out ?_
                rotate_left
                · (intro v hv; go_simp <;> with_reducible rfl)
                simp only [List.getElem_toArray, List.getElem_cons_succ, List.getElem_cons_zero, Act.put, List.setIfInBounds_toArray, List.set_cons_zero, List.set_cons_succ]
                refine wpAnyH_take (i := 22) (v := ?_) rfl (by kernel_rfl) (by kernel_rfl) (by kernel_rfl) (fun _ _ _ h => h) (Or.inl ⟨by rfl, ?_⟩) HB.out ?_
                rotate_left
                · (intro v hv; go_simp <;> with_reducible rfl)
                simp only [List.getElem_toArray, List.getElem_cons_succ, List.getElem_cons_zero, Act.put, List.setIfInBounds_toArray, List.set_cons_zero, List.set_cons_succ]
                refine wpAnyH_take (i := 23) (v := ?_) rfl (by kernel_rfl) (by kernel_rfl) (by kernel_rfl) (fun _ _ _ h => h) (Or.inl ⟨by rfl, ?_⟩) HB.out ?_
                rotate_left
                · (intro v hv; go_simp <;> with_reducible rfl)
                simp only [List.getElem_toArray, List.getElem_cons_succ, List.getElem_cons_zero, Act.put, List.setIfInBounds_toArray, List.set_cons_zero, List.set_cons_succ]
                refine wpAnyH_take (i := 24) (v := ?_) rfl (by kernel_rfl) (by kernel_rfl) (by kernel_rfl) (fun _ _ _ h => h) (Or.inl ⟨by rfl, ?_⟩) HB.out ?_
                rotate_left
                · (intro v hv; go_simp <;> with_reducible rfl)
                simp only [List.getElem_toArray, List.getElem_cons_succ, List.getElem_cons_zero, Act.put, List.setIfInBounds_toArray, List.set_cons_zero, List.set_cons_succ]
                refine wpAnyH_take (i := 25) (v := ?_) rfl (by kernel_rfl) (by kernel_rfl) (by kernel_rfl) (fun _ _ _ h => h) (Or.inl ⟨by rfl, ?_⟩) HB.out ?_
                rotate_left
                · (intro v hv; go_simp <;> with_reducible rfl)
                simp only [List.getElem_toArray, List.getElem_cons_succ, List.getElem_cons_zero, Act.put, List.setIfInBounds_toArray, List.set_cons_zero, List.set_cons_succ]
                refine wpAnyH_take (i := 26) (v := ?_) rfl (by kernel_rfl) (by kernel_rfl) (by kernel_rfl) (fun _ _ _ h => h) (Or.inl ⟨by rfl, ?_⟩) HB.out ?_
                rotate_left
                · (intro v hv; go_simp <;> with_reducible rfl)
                simp only [List.getElem_toArray, List.getElem_cons_succ, List.getElem_cons_zero, Act.put, List.setIfInBounds_toArray, List.set_cons_zero, List.set_cons_succ]
                refine wpAnyH_take (i := 27) (v := ?_) rfl (by kernel_rfl) (by kernel_rfl) (by kernel_rfl) (fun _ _ _ h => h) (Or.inl ⟨by rfl, ?_⟩) HB.out ?_
                rotate_left
                · (intro v hv; go_simp <;> with_reducible rfl)
                simp only [List.getElem_toArray, List.getElem_cons_succ, List.getElem_cons_zero, Act.put, List.setIfInBounds_toArray, List.set_cons_zero, List.set_cons_succ]
                refine wpAnyH_take (i := 28) (v := ?_) rfl (by kernel_rfl) (by kernel_rfl) (by kernel_rfl) (fun _ _ _ h => h) (Or.inl ⟨by rfl, ?_⟩) HB.out ?_
                rotate_left
                · (intro v hv; go_simp <;> with_reducible rfl)
                simp only [List.getElem_toArray, List.getElem_cons_succ, List.getElem_cons_zero, Act.put, List.setIfInBounds_toArray, List.set_cons_zero, List.set_cons_succ]
                refine wpAnyH_take (i := 29) (v := ?_) rfl (by kernel_rfl) (by kernel_rfl) (by kernel_rfl) (fun _ _ _ h => h) (Or.inl ⟨by rfl, ?_⟩) HB.out ?_
                rotate_left
                · (intro v hv; go_simp <;> with_reducible rfl)
                simp only [List.getElem_toArray, List.getElem_cons_succ, List.getElem_cons_zero, Act.put, List.setIfInBounds_toArray, List.set_cons_zero, List.set_cons_succ]
                refine wpAnyH_take (i := 30) (v := ?_) rfl (by kernel_rfl) (by kernel_rfl) (by kernel_rfl) (fun _ _ _ h => h) (Or.inl ⟨by rfl, ?_⟩) HB.out ?_
                rotate_left
                · (intro v hv; go_simp <;> with_reducible rfl)
                simp only [List.getElem_toArray, List.getElem_cons_succ, List.getElem_cons_zero, Act.put, List.setIfInBounds_toArray, List.set_cons_zero, List.set_cons_succ]
                refine wpAnyH_ready (rs := [31]) (by kernel_rfl) (by simp) ?_
                refine AllReadyH.cons rfl (fun K hK => ?_) AllReadyH.nil
                go_simp
                refine (duo_keys (D11.out.quiet HB.out)).mono ?_
                rintro e w12 ⟨kv2, rfl, DK12, K12, _⟩
                have HB := Lib.hid (kept_trans HB.out K12.out)
                have DK12 := Lib.hid (DK12.out.low (Nat.zero_le _))
                clear K12
                simp only []
                refine hK _ _ HB.out (fun _ => ?_)
                clear hK K
                refine wpAnyH_ready (rs := [32]) (by kernel_rfl) (by simp) ?_
                refine AllReadyH.cons rfl (fun K hK => ?_) AllReadyH.nil
                go_simp
                refine (keys_same w12 kv kv2 (keysOf T) (DK11.out.kept HB.out (fun _ _ h => h)) DK12.out).mono ?_
                rintro e w13 ⟨rfl, K13⟩
                have HB := Lib.hid (kept_trans HB.out K13.out)
                clear K13
                simp only []
                refine hK _ _ HB.out (fun _ => ?_)
                clear hK K
                refine wpAnyH_take (i := 33) (v := ?_) rfl (by kernel_rfl) (by kernel_rfl) (by kernel_rfl) (fun _ _ _ h => h) (Or.inl ⟨by rfl, ?_⟩) HB.out ?_
                rotate_left
                · (intro v hv; go_simp <;> with_reducible rfl)
                simp only [List.getElem_toArray, List.getElem_cons_succ, List.getElem_cons_zero, Act.put, List.setIfInBounds_toArray, List.set_cons_zero, List.set_cons_succ]
                refine wpAnyH_take (i := 34) (v := ?_) rfl (by kernel_rfl) (by kernel_rfl) (by kernel_rfl) (fun _ _ _ h => h) (Or.inl ⟨by rfl, ?_⟩) HB.out ?_
                rotate_left
                · (intro v hv; go_simp <;> with_reducible rfl)
                simp only [List.getElem_toArray, List.getElem_cons_succ, List.getElem_cons_zero, Act.put, List.setIfInBounds_toArray, List.set_cons_zero, List.set_cons_succ]
                refine wpAnyH_done (by kernel_rfl) ?_ _
                go_wp2_with fail
                go_roundg (n2 - (j + 1))
                case rel => exact ⟨j + 1, P', by go_num, by omega, rfl, D11.out.quiet HB.out, kept_trans M11.out HB.out, DK11.out.kept HB.out (fun _ _ h => h), HL5, HU5, HA5⟩
                case measure => omega
            · obtain rfl : j = n2 := by omega
              have HPL := Lib.hid (show P.length ≤ 40 by have := HL.out; have := HF2.out.1; omega)
              go_wp2_with fail
              refine (duo_staged HD.out).mono ?_
              rintro e w6 ⟨sv, rfl, DS6, K6⟩
              have M6 := Lib.hid (kept_trans KW.out K6.out)
              have D6 := Lib.hid (HD.out.guard K6.out)
              have DK6 := Lib.hid (DK.out.kept K6.out (fun _ _ h => h))
              obtain ⟨G6, hG6⟩ : ∃ G6 : Nat → Prop, (fun q => G q ∨ (wr.heap.size ≤ q ∧ q < w6.heap.size)) = G6 := ⟨_, rfl⟩
              rw [hG6] at D6
              have HG6 := Lib.hid (show ∀ x, x < w.heap.size → G6 x from fun x hx => by rw [← hG6]; exact .inl (HG.out x hx))
              have HKV6 := Lib.hid (show ∀ g, kv.ownBlock = some g → G6 g from fun g e => by rw [← hG6]; exact .inl (HKV.out g e))
              have HSV := Lib.hid (show ∀ g, sv.ownBlock = some g → G6 g from fun g e => by rw [← hG6]; have := DS6.out.under g e; exact .inr ⟨this.2, this.1⟩)
              have DS6 := Lib.hid (DS6.out.low (Nat.zero_le _))
              clear hG6 HG HKV KW HD K6 DK
              cases cm
              · go_wp2_with fail
                refine (duo_discard D6.out).mono ?_
                rintro e w7 ⟨rfl, F7, K7⟩
                have M7 := Lib.hid (K7.out.from M6.out HG6.out)
                have DK7 := Lib.hid (K7.out.digs DK6.out HKV6.out)
                clear M6 D6 DK6 K7 DS6
                go_wp2_with fail
                refine (fin_keys F7.out).mono ?_
                rintro e w8 ⟨kv2, rfl, DK8, K8, _⟩
                have M8 := Lib.hid (kept_trans M7.out K8.out)
                have F8 := Lib.hid (F7.out.quiet K8.out)
                have DK7 := Lib.hid (DK7.out.kept K8.out (fun _ _ h => h))
                clear M7 F7 K8
                go_wp2_with fail
                refine (keys_same w8 kv kv2 (keysOf T) DK7.out (DK8.out.low (Nat.zero_le _))).mono ?_
                rintro e w9 ⟨rfl, K9⟩
                have M9 := Lib.hid (kept_trans M8.out K9.out)
                have F9 := Lib.hid (F8.out.quiet K9.out)
                go_wp2_with fail
                refine (ocommit_any F9.out.over).mono ?_
                rintro e w9' ⟨rfl, rfl⟩
                go_wp2_with fail
                go_ret
                exact ⟨rfl, M9.out.below (Nat.le_refl _) (fun _ _ h => h)⟩
              · have HMP := Lib.hid (show missL T P = P from missL_all HAP.out)
                go_wp2_with fail
                refine (duo_all D6.out (HK.out.kept M6.out (fun h => h)) (HG6.out _ HKL.out) (by rw [HMP.out]; exact HU.out) (by have := HPL.out; have := HTL.out; omega)).mono ?_
                rintro e w7 ⟨U, rfl, F7, K7, U7⟩
                have M7 := Lib.hid (K7.out.from M6.out HG6.out)
                have DK7 := Lib.hid (K7.out.digs DK6.out HKV6.out)
                have DS7 := Lib.hid (K7.out.digs DS6.out HSV.out)
                have HHC := Lib.hid (fun (t : Value × List UInt8) (ht : t ∈ P) => has_committed U7.out ht)
                have HHK := Lib.hid (fun (i : Nat) (hi : i < (keysOf T).length) => has_key (U := U) hi)
                have HUL := Lib.hid (show (keysOf (T ++ U)).length = (keysOf T).length + P.length by
                  have := congrArg List.length U7.out
                  rw [List.length_map, List.length_map, HMP.out] at this
                  rw [keysOf_len, keysOf_len, List.length_append, this])
                have HKL2 := Lib.hid (show (keysOf T).length ≤ 40 by rw [keysOf_len]; exact HTL.out)
                generalize T ++ U = V at F7 HHC HHK HUL
                clear M6 D6 DK6 DS6 K7 U7
                go_wp2_with fail
                refine (fin_keys F7.out).mono ?_
                rintro e w8 ⟨kv2, rfl, DK8, K8, _⟩
                have M8 := Lib.hid (kept_trans M7.out K8.out)
                have F8 := Lib.hid (F7.out.quiet K8.out)
                have DK7 := Lib.hid (DK7.out.kept K8.out (fun _ _ h => h))
                have DS7 := Lib.hid (DS7.out.kept K8.out (fun _ _ h => h))
                obtain ⟨Ak, ck, hkv, hkcell⟩ := keys_shape DK7.out
                obtain ⟨Ak2, ck2, hkv2, _⟩ := keys_shape DK8.out
                obtain ⟨As, cs, hsv, hscell⟩ := digs_shape DS7.out
                subst hkv hkv2 hsv
                have HCK := Lib.hid hkcell
                have HCS := Lib.hid (show ∀ i, i < P.length → ∃ g, As = some ⟨g, 0, none⟩ ∧ w8.rangeAt g (i * 32) ((dg (P.getD i default).2).1.map v8) from fun i hi => by
                  obtain ⟨g, h1, _, _, h2⟩ := hscell i hi
                  exact ⟨g, h1, h2⟩)
                have hule : ((keysOf V).length : Int) = ((keysOf T).length : Int) + (P.length : Int) := by rw [HUL.out]; omega
                obtain ⟨m, hm⟩ : ∃ m, (keysOf T).length = m := ⟨_, rfl⟩
                rw [hm] at HCK HHK hule HKL2 ⊢
                obtain ⟨q, hq⟩ : ∃ q, (keysOf V).length = q := ⟨_, rfl⟩
                rw [hq] at hule ⊢
                have hm40 : (m : Int) ≤ 40 := by have := HKL2.out; omega
                have hp40 : (P.length : Int) ≤ 40 := by have := HPL.out; omega
                have hw64 : wrap64 ((m : Int) + (P.length : Int)) = (q : Int) := by unfold wrap64; omega
                clear M7 F7 K8 DK7 DS7 DK8 hkcell hscell hm hq HUL hw64
                go_wp2_with fail
                go_loopg [24] P.length (fun gg sx wr => ∃ (i : Nat), sx = .int .i64 (i : Int) ∧ i ≤ P.length ∧ gg = P.length - i ∧ Hid (Kept w8 wr (fun _ => False)))
                case atStart => exact ⟨0, rfl, Nat.zero_le _, rfl, Kept.refl _ _⟩
                case round =>
                  obtain ⟨i, rfl, hi, hg3, KI⟩ := hrel
                  by_cases hlt3 : i < P.length
                  · obtain ⟨g, rfl, hr1⟩ := HCS.out i hlt3
                    have HH := Lib.hid (HHC.out _ (mem_getD hlt3))
                    have hDL : ((dg (P.getD i default).2).1.map v8).length = 32 := by rw [List.length_map]; exact (dg (P.getD i default).2).2
                    generalize dg (P.getD i default).2 = x at hr1 HH hDL
                    obtain ⟨D, hD⟩ : ∃ D, x.1.map v8 = D := ⟨_, rfl⟩
                    rw [hD] at hr1 hDL
                    have HDX := Lib.hid hD
                    have HDL := Lib.hid hDL
                    have HR0 := Lib.hid (show wr.rangeAt g (i * 32) D from fun q u hu => KI.out.cell (hr1 q u hu) (fun h => h))
                    have hii : (i : Int) < (P.length : Int) := by omega
                    clear hr1 hDL hD
                    go_wp2_with ((with_reducible refine load_mid_g ?_ (.tmp 173) ?_ g (i * 32) D HDL.out ?_ HR0.out ?_); rfl; rfl; rfl)
                    refine (fin_has (F8.out.quiet KI.out) x D HDX.out HH.out).mono ?_
                    rintro e w8 ⟨rfl, K8⟩
                    go_wp2_with fail
                    go_roundg (P.length - (i + 1))
                    case rel => exact ⟨i + 1, by go_num, by omega, rfl, kept_trans KI.out K8.out⟩
                    case measure => omega
                  · obtain rfl : i = P.length := by omega
                    have F9 := Lib.hid (F8.out.quiet KI.out)
                    have M9 := Lib.hid (kept_trans M8.out KI.out)
                    obtain ⟨wr0, hwr0⟩ : ∃ wr0, wr0 = wr := ⟨_, rfl⟩
                    subst hwr0
                    have HCK := Lib.hid (show ∀ i, i < m → ∃ g, Ak = some ⟨g, 0, none⟩ ∧ wr0.rangeAt g (i * 32) (((keysOf T).getD i default).1.map v8) from fun i hi => by
                      obtain ⟨g, h1, h2⟩ := HCK.out i hi
                      exact ⟨g, h1, fun q u hu => KI.out.cell (h2 q u hu) (fun h => h)⟩)
                    go_wp2_with fail
                    go_loopg [25] m (fun gg sx wr => ∃ (i : Nat), sx = .int .i64 (i : Int) ∧ i ≤ m ∧ gg = m - i ∧ Hid (Kept wr0 wr (fun _ => False)))
                    case atStart => exact ⟨0, rfl, Nat.zero_le _, rfl, Kept.refl _ _⟩
                    case round =>
                      obtain ⟨i, rfl, hi, hg4, KJ⟩ := hrel
                      by_cases hlt4 : i < m
                      · obtain ⟨g, rfl, hr1⟩ := HCK.out i hlt4
                        have HH := Lib.hid (HHK.out i hlt4)
                        have hDL : (((keysOf T).getD i default).1.map v8).length = 32 := by rw [List.length_map]; exact ((keysOf T).getD i default).2
                        generalize (keysOf T).getD i default = x at hr1 HH hDL
                        obtain ⟨D, hD⟩ : ∃ D, x.1.map v8 = D := ⟨_, rfl⟩
                        rw [hD] at hr1 hDL
                        have HDX := Lib.hid hD
                        have HDL := Lib.hid hDL
                        have HR0 := Lib.hid (show wr.rangeAt g (i * 32) D from fun q u hu => KJ.out.cell (hr1 q u hu) (fun h => h))
                        have hii : (i : Int) < (m : Int) := by omega
                        clear hr1 hDL hD
                        go_wp2_with ((with_reducible refine load_mid_g ?_ (.tmp 186) ?_ g (i * 32) D HDL.out ?_ HR0.out ?_); rfl; rfl; rfl)
                        refine (fin_has (F9.out.quiet KJ.out) x D HDX.out HH.out).mono ?_
                        rintro e w8 ⟨rfl, K8⟩
                        go_wp2_with fail
                        go_roundg (m - (i + 1))
                        case rel => exact ⟨i + 1, by go_num, by omega, rfl, kept_trans KJ.out K8.out⟩
                        case measure => omega
                      · obtain rfl : i = m := by omega
                        have F9y := Lib.hid (F9.out.quiet KJ.out)
                        have M9y := Lib.hid (kept_trans M9.out KJ.out)
                        have hle := F9y.out.used_le
                        go_wp2_with fail
                        refine (fin_used F9y.out).mono ?_
                        rintro e w9' ⟨rfl, rfl⟩
                        go_wp2_with fail
                        refine (fin_room F9y.out).mono ?_
                        rintro e w9' ⟨rfl, rfl⟩
                        go_wp2_with fail
                        go_ret
                        exact ⟨rfl, M9y.out.below (Nat.le_refl _) (fun _ _ h => h)⟩
    · have hf2 : fewB n2 B2 = false := by simpa using hfew2
      rw [hf2]
      go_wp2_with fail
      go_ret
      exact ⟨rfl, M3.out.below (Nat.le_refl _) (fun _ _ h => h)⟩
  · have hf : fewB n B = false := by simpa using hfew
    rw [hf]
    go_wp2_with fail
    go_ret
    exact ⟨rfl, M3.out.below (Nat.le_refl _) (fun _ _ h => h)⟩
end Go.Proofs.YtlokiaajlclbcaaDoor
