/-
  The law StoreTwice: its walk.
-/
import Derived.Test.YtjejldfpehaacaaDoorStSmall
import Derived.Test.YtjejldfpehaacaaDoorStPutAny
namespace Go.Proofs.YtjejldfpehaacaaDoor
open Go Go.RowKit Go.Maps Go.Sort Sh

theorem PutStep.again {T T' T'' : List (Value × List UInt8)} {room : Nat} {bs : List UInt8} {D D' : List Value} {E E' : Int} (h : PutStep T room bs T' D E) (k : PutStep T' room bs T'' D' E') : T'' = T' ∧ D' = D ∧ E' = E := by
  rcases h with ⟨h1, rfl, rfl, rfl⟩ | ⟨h1, h2, rfl, rfl, rfl⟩ | ⟨h1, h2, rfl, rfl, v, rfl⟩
  · rcases k with ⟨k1, rfl, rfl, rfl⟩ | ⟨k1, k2, rfl, rfl, rfl⟩ | ⟨k1, k2, rfl, rfl, v, rfl⟩
    · exact ⟨rfl, rfl, rfl⟩
    · rw [h1] at k1; cases k1
    · rw [h1] at k1; cases k1
  · rcases k with ⟨k1, rfl, rfl, rfl⟩ | ⟨k1, k2, rfl, rfl, rfl⟩ | ⟨k1, k2, rfl, rfl, v, rfl⟩
    · rw [h1] at k1; cases k1
    · exact ⟨rfl, rfl, rfl⟩
    · omega
  · have hh : hasE (entries (T ++ [(v, bs)])) (dg bs) = true := dg_mem.2 ⟨(v, bs), by simp, rfl⟩
    rcases k with ⟨k1, rfl, rfl, rfl⟩ | ⟨k1, k2, rfl, rfl, rfl⟩ | ⟨k1, k2, rfl, rfl, v, rfl⟩
    · exact ⟨rfl, rfl, rfl⟩
    · rw [hh] at k1; cases k1
    · rw [hh] at k1; cases k1
theorem PutStep.eq_run {T T' : List (Value × List UInt8)} {room : Nat} {bs : List UInt8} {D : List Value} {E : Int} (h : PutStep T room bs T' D E) (W : World) : (Op.equalIn 10000 31 (.agg D.toArray) (.agg D.toArray)).run Tryd.prog W = .ok true W := by
  have hx : ∃ x : D32, D = x.1.map v8 := by
    rcases h with ⟨_, _, rfl, _⟩ | ⟨_, _, _, rfl, _⟩ | ⟨_, _, rfl, _⟩
    · exact ⟨dg bs, rfl⟩
    · exact ⟨zero32, rfl⟩
    · exact ⟨dg bs, rfl⟩
  obtain ⟨x, rfl⟩ := hx
  rw [eq_bytes_run x.1 x.1 x.2 x.2 W]
  simp

set_option maxRecDepth 100000 in
set_option maxHeartbeats 4000000 in
theorem twice_all (w : World) (r : Int) (A : Option Addr) (n c : Nat) (X : Nat → Option Addr) (C : Nat → Nat) (B : Nat → List UInt8) (hm : n ≤ maxLen) (hK : KT w) (S : RowsAt w A n X C B) (hB : ∀ i, i < n → (B i).length ≤ 140737488351232) :
    Calls Tryd.prog 8 #[.int .i64 r, .slice A n c] w fun e w' => e = .returned (.bool true) ∧ Below w.heap.size w w' := by
  have HS := Lib.hid S
  have HK := Lib.hid hK
  have HF := Lib.hid (fun (w' : World) (k : Kept w w' (fun _ => False)) => few_any w' A n c X C B hm (S.kept k) hB)
  obtain ⟨room, htop, hroom⟩ := room_clamp r
  have HR := Lib.hid hroom
  clear hroom
  clear S hK hB
  unfold maxLen at hm
  go_enter Tryd.func8, Tryd.ntmps8
  go_wp2_with fail
  refine (small3 w HK.out).mono ?_
  rintro e w1 ⟨rfl, K1⟩
  go_wp2_with fail
  refine (HF.out w1 K1.out).mono ?_
  rintro e w2 ⟨rfl, K2⟩
  have M2 := Lib.hid (kept_trans K1.out K2.out)
  clear K1 K2 HF
  go_wp2_with fail
  refine (snew_any w2 r room HR.out htop).mono ?_
  rintro e w3 ⟨rfl, H3, K3, Z3⟩
  have M3 := Lib.hid (kept_trans M2.out K3.out)
  have LS' : Hid (w.heap.size ≤ w2.heap.size + 1 ∧ w.heap.size ≤ w2.heap.size) := ⟨by have := M2.out.size; omega, M2.out.size⟩
  generalize w2.heap.size + 1 = s at H3 LS' ⊢
  generalize w2.heap.size = mb at H3 LS' ⊢
  have LS := LS'
  clear LS' M2 K3 Z3
  by_cases hfew : fewB n B = true
  · have hfn := fewB_n hfew
    rw [hfew]
    have HF := Lib.hid hfn
    have h40 : (n : Int) ≤ 40 := by omega
    clear hfew hfn
    go_wp2_with fail
    go_loopg [8] n (fun gg s8 wr => ∃ (k : Nat) (T : List (Value × List UInt8)), s8 = .int .i64 k ∧ k ≤ n ∧ gg = n - k ∧ Hid (StAt wr s mb T room (stZ s mb)) ∧ Hid (Kept w wr (fun _ => False)) ∧ Hid (T.length ≤ k))
    case atStart => exact ⟨0, [], rfl, Nat.zero_le _, rfl, H3, M3, Nat.zero_le _⟩
    case round =>
      obtain ⟨k, T, rfl, hk, hg, HT, KW, HL⟩ := hrel
      by_cases hlt : k < n
      · obtain ⟨b0, o0, rfl, hb0⟩ := HS.out.at_ (by omega)
        have SW := Lib.hid (HS.out.kept KW.out)
        have hc := SW.out.cell k hlt b0 o0 rfl
        go_wp2_with fail
        refine (put_any HT.out (X k) (C k) (B k) (HK.out.kept KW.out (fun h => h)) (SW.out.row k hlt) (SW.out.nil k hlt) (by have := sumB_le B hlt; have := HF.out.2; omega) (by have := HL.out; have := HF.out.1; omega)).mono ?_
        rintro e w4 ⟨T', D, E, rfl, H4, K4, HDL, HDC, P4⟩
        have M4 := Lib.hid (kept_new KW.out K4.out (fun x hx h => by have := LS.out; rcases h with rfl | rfl <;> omega))
        have HL4 := Lib.hid (show T'.length ≤ k + 1 from by have := P4.out.le; have := HL.out; omega)
        clear SW hc KW K4 HT HL
        go_upto_region 10 with ((with_reducible refine store_arr ?_ (.tmp 9) (.tmp 44) ?_ w4.heap.size D HDL.out HDC.out ?_ ?_ (List.replicate 32 (v8 0)) rfl ?_ ?_); rfl; rfl; go_must (rfl; rfl; exact Row.at_ _ _ _ rfl rfl); intro w5 RD KQ ZZ)
        clear ZZ
        have J5 := Lib.hid (kept_stored KQ.out)
        have M5 := Lib.hid (kept_trans M4.out J5.out)
        have S5 := Lib.hid (H4.out.quiet J5.out)
        have ND := Lib.hid (show ∀ k, stZ s mb k → k < w4.heap.size from fun k hk => H4.out.zlt k hk)
        generalize hb4 : w4.heap.size = b4 at RD ND
        clear hb4 H4 M4 KQ J5
        go_wp2_with fail
        refine (sused_any S5.out).mono ?_
        rintro e w6 ⟨rfl, rfl⟩
        go_wp2_with fail
        refine (skeys_any S5.out).mono ?_
        rintro e w7 ⟨kv, rfl, D7, K7, _⟩
        have M7 := Lib.hid (kept_trans M5.out K7.out)
        have S7 := Lib.hid (S5.out.quiet K7.out)
        have RD7 := Lib.hid (K7.out.row RD.out (fun h => h))
        have KB7 := Lib.hid (show ∀ b, kv.ownBlock = some b → ¬ stZ s mb b from fun b e h => by have := D7.out.under b e; have := S5.out.zlt b h; omega)
        have SW := Lib.hid (HS.out.kept M7.out)
        have hc := SW.out.cell k hlt b0 o0 rfl
        clear S5 M5 K7 RD
        go_wp2_with fail
        refine (put_any S7.out (X k) (C k) (B k) (HK.out.kept M7.out (fun h => h)) (SW.out.row k hlt) (SW.out.nil k hlt) (by have := sumB_le B hlt; have := HF.out.2; omega) (by have := HL4.out; have := HF.out.1; omega)).mono ?_
        rintro e w8 ⟨T'', D', E', rfl, H8, K8, _, _, P8⟩
        obtain ⟨rfl, rfl, rfl⟩ := P4.out.again P8.out
        have M8 := Lib.hid (kept_new M7.out K8.out (fun x hx h => by have := LS.out; rcases h with rfl | rfl <;> omega))
        have RD8 := Lib.hid (K8.out.row RD7.out (fun h => by have := ND.out _ h; omega))
        have D8 := Lib.hid (D7.out.kept K8.out KB7.out)
        have heq := P4.out.eq_run
        clear SW hc S7 M7 K8 D7 KB7 RD7
        go_upto_region 13 with ((with_reducible refine store_arr ?_ (.tmp 13) (.tmp 57) ?_ w8.heap.size D' HDL.out HDC.out ?_ ?_ (List.replicate 32 (v8 0)) rfl ?_ ?_); rfl; rfl; go_must (rfl; rfl; exact Row.at_ _ _ _ rfl rfl); intro w9 R9 KQ ZZ)
        clear ZZ
        have J9 := Lib.hid (kept_stored KQ.out)
        have M9 := Lib.hid (kept_trans M8.out J9.out)
        have S9 := Lib.hid (H8.out.quiet J9.out)
        have RD9 := Lib.hid (J9.out.row RD8.out (fun h => h))
        have D9 := Lib.hid (D8.out.kept J9.out (fun _ _ h => h))
        generalize hb8 : w8.heap.size = b8 at R9
        clear hb8 H8 M8 KQ J9 RD8 D8
        go_wp2_with first
          | ((with_reducible refine load_arr ?_ (.tmp 9) ?_ b4 _ HDL.out ?_ RD9.out ?_); rfl; rfl; rfl)
          | ((with_reducible refine load_arr ?_ (.tmp 13) ?_ b8 _ HDL.out ?_ R9.out ?_); rfl; rfl; rfl)
        refine (sused_any S9.out).mono ?_
        rintro e w10 ⟨rfl, rfl⟩
        go_wp2_with fail
        refine (skeys_any S9.out).mono ?_
        rintro e w10 ⟨kv2, rfl, D10, K10, _⟩
        have M10 := Lib.hid (kept_trans M9.out K10.out)
        have S10 := Lib.hid (S9.out.quiet K10.out)
        have DV10 := Lib.hid (D9.out.kept K10.out (fun _ _ h => h))
        clear M9 S9 K10 D9 heq RD9 R9
        go_wp2_with fail
        refine (keys_same w10 kv kv2 (keysOf T'') (DV10.out.low (Nat.zero_le _)) (D10.out.low (Nat.zero_le _))).mono ?_
        rintro e w11 ⟨rfl, K11⟩
        have M11 := Lib.hid (kept_trans M10.out K11.out)
        have S11 := Lib.hid (S10.out.quiet K11.out)
        clear M10 S10 K11 D10 DV10
        go_wp2_with fail
        go_roundg (n - (k + 1))
        case rel => exact ⟨k + 1, T'', by go_num, by omega, rfl, S11, M11, HL4⟩
        case measure => omega
      · obtain rfl : k = n := by omega
        go_wp2_with fail
        go_ret
        exact ⟨rfl, KW.out.below (Nat.le_refl _) (fun _ _ h => h)⟩
  · have hf : fewB n B = false := by simpa using hfew
    rw [hf]
    go_wp2_with fail
    go_ret
    exact ⟨rfl, M3.out.below (Nat.le_refl _) (fun _ _ h => h)⟩
end Go.Proofs.YtjejldfpehaacaaDoor
