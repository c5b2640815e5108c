/-
  JsonBlanks: blanks between do not matter.
-/
import Derived.Test.YtpakfjfkibphjaaGreatDoorJsBackW
import Derived.Test.YtpakfjfkibphjaaGreatDoorJsA
import Derived.Lib.ConvBytes
namespace Go.Proofs.YtpakfjfkibphjaaGreatDoor
open Go.RowKit Sh Jt Js
theorem js_kept_conv (w : World) (e : TypeId) (s : ByteArray) : Below w.heap.size w (Lib.bytesWorld w e s) :=
  ⟨rfl, rfl, rfl, by rw [Lib.bytesWorld_size]; omega, fun k hk => Lib.bytesWorld_at_old w e s k hk⟩
theorem js_conv_str (w : World) (s : List UInt8) : ∃ c w', (convert 9 22 (.string (sb s))).run Tryz.prog w = .ok (.slice (some ⟨w.heap.size, 0, none⟩) s.length c) w' ∧ BytesAt w' (some ⟨w.heap.size, 0, none⟩) s.length c s ∧ Below w.heap.size w w' := by
  have h := Lib.run_convert_string_bytes (P := Tryz.prog) w 9 22 5 ⟨s.toArray⟩ Tryz.underlying9 Tryz.underlying22 Tryz.underlying5
  have e : (⟨s.toArray⟩ : ByteArray).size = s.length := rfl
  rw [e] at h
  refine ⟨_, _, h, ⟨rfl, ?_, fun hn => ⟨w.heap.size, 0, rfl, by rw [Lib.bytesWorld_size]; omega, fun j v hj => ?_⟩⟩, js_kept_conv _ _ _⟩
  · have := grownCap_ge w s.length 0 5
    exact this
  · have hjl : j < s.length := by simpa using (List.getElem?_eq_some_iff.1 hj).1
    rw [Nat.zero_add, Lib.bytesWorld_cell w 5 ⟨s.toArray⟩ j (by rw [e]; exact hjl), ← hj]
    simp [hjl, v8, n8, List.getD]
def lstR : Res → List V
  | .ok _ l _ => l
  | .err _ => []
def codeR : Res → Nat
  | .ok _ _ _ => 0
  | .err c => c
theorem post_vals {w w' : World} {R : Res} {e : Ending} (h : ParsePost w R e w') : ∃ (A : Option Addr) (c : Nat), e = .returned (.tuple #[.slice A (lstR R).length c, .int .i64 (codeR R : Nat)]) ∧ ValsAt w' A (lstR R).length c (lstR R) ∧ Below w.heap.size w w' := by
  cases R with
  | ok n l r =>
    obtain ⟨v, rfl, o, k⟩ := h
    obtain ⟨A, c, rfl, hv, _⟩ := o.vals
    exact ⟨A, c, rfl, hv, k⟩
  | err c =>
    obtain ⟨rfl, _, k⟩ := h
    exact ⟨none, 0, rfl, ValsAt.nil _ _ _, k⟩
/-- Blanks, so many times four. -/
def blk : Nat → List UInt8
  | 0 => []
  | n + 1 => blk n ++ [32, 9, 10, 13]
theorem blk_is : ∀ n, Blanks (blk n)
  | 0 => fun a h => by cases h
  | n + 1 => fun a h => by
    rcases List.mem_append.1 h with h | h
    · exact blk_is n a h
    · simp only [List.mem_cons, List.not_mem_nil, or_false] at h
      rcases h with rfl | rfl | rfl | rfl
      · exact .inl rfl
      · exact .inr (.inl rfl)
      · exact .inr (.inr (.inl rfl))
      · exact .inr (.inr (.inr rfl))
theorem blk_len : ∀ n, (blk n).length = 4 * n
  | 0 => rfl
  | n + 1 => by
    rw [blk, List.length_append, blk_len n]
    show 4 * n + 4 = _
    omega
/-- The two texts that are parsed. -/
def plainT (x y : List UInt8) : List UInt8 := [91] ++ x ++ [44] ++ y ++ [93]
def blankT (s x y : List UInt8) : List UInt8 := s ++ [91] ++ s ++ x ++ s ++ [44] ++ s ++ y ++ s ++ [93] ++ s
theorem two_same {a b : List V} {x y : List UInt8} (ha : Js.Row a x) (hb : Js.Row b y) {s : List UInt8} (hs : Blanks s) : parseF (blankT s x y) = parseF (plainT x y) := by
  obtain ⟨R, hR⟩ := two_is ha hb
  have hn : Blanks [] := fun a h => by cases h
  have h1 := hR s s s s s s hs hs hs hs hs hs
  have h2 := hR [] [] [] [] [] [] hn hn hn hn hn hn
  have e1 : blankT s x y = s ++ 91 :: (s ++ (x ++ (s ++ 44 :: (s ++ (y ++ (s ++ 93 :: s)))))) := by simp [blankT]
  have e2 : plainT x y = [] ++ 91 :: ([] ++ (x ++ ([] ++ 44 :: ([] ++ (y ++ ([] ++ 93 :: [])))))) := by simp [plainT]
  rw [e1, e2, h1, h2]
theorem sz_ok (a b : List UInt8) (h : a.length + b.length ≤ 9223372036854775807) : ¬ 9223372036854775807 < (sb a).size + (sb b).size := by
  rw [sb_size, sb_size]
  omega
theorem plain_chain (x y : List UInt8) (hx : x.length ≤ 100000000) (hy : y.length ≤ 100000000) : ∃ S1 S2 S3 : ByteArray, ((⟨#[91]⟩ : ByteArray) ++ sb x = S1) ∧ (¬ 9223372036854775807 < ((⟨#[91]⟩ : ByteArray)).size + (sb x).size) ∧ (S1 ++ (⟨#[44]⟩ : ByteArray) = S2) ∧ (¬ 9223372036854775807 < (S1).size + ((⟨#[44]⟩ : ByteArray)).size) ∧ (S2 ++ sb y = S3) ∧ (¬ 9223372036854775807 < (S2).size + (sb y).size) ∧ (S3 ++ (⟨#[93]⟩ : ByteArray) = sb (plainT x y)) ∧ (¬ 9223372036854775807 < (S3).size + ((⟨#[93]⟩ : ByteArray)).size) :=
  ⟨sb ([91] ++ x), sb ([91] ++ x ++ [44]), sb ([91] ++ x ++ [44] ++ y), sb_app ([91]) (x), sz_ok ([91]) (x) (by simp only [List.length_cons, List.length_nil]; omega), sb_app ([91] ++ x) ([44]), sz_ok ([91] ++ x) ([44]) (by simp only [List.length_append, List.length_cons, List.length_nil]; omega), sb_app ([91] ++ x ++ [44]) (y), sz_ok ([91] ++ x ++ [44]) (y) (by simp only [List.length_append, List.length_cons, List.length_nil]; omega), sb_app ([91] ++ x ++ [44] ++ y) ([93]), sz_ok ([91] ++ x ++ [44] ++ y) ([93]) (by simp only [List.length_append, List.length_cons, List.length_nil]; omega)⟩
theorem blank_chain (s x y : List UInt8) (hs : s.length ≤ 100000000) (hx : x.length ≤ 100000000) (hy : y.length ≤ 100000000) : ∃ R1 R2 R3 R4 R5 R6 R7 R8 R9 : ByteArray, (sb s ++ (⟨#[91]⟩ : ByteArray) = R1) ∧ (¬ 9223372036854775807 < (sb s).size + ((⟨#[91]⟩ : ByteArray)).size) ∧ (R1 ++ sb s = R2) ∧ (¬ 9223372036854775807 < (R1).size + (sb s).size) ∧ (R2 ++ sb x = R3) ∧ (¬ 9223372036854775807 < (R2).size + (sb x).size) ∧ (R3 ++ sb s = R4) ∧ (¬ 9223372036854775807 < (R3).size + (sb s).size) ∧ (R4 ++ (⟨#[44]⟩ : ByteArray) = R5) ∧ (¬ 9223372036854775807 < (R4).size + ((⟨#[44]⟩ : ByteArray)).size) ∧ (R5 ++ sb s = R6) ∧ (¬ 9223372036854775807 < (R5).size + (sb s).size) ∧ (R6 ++ sb y = R7) ∧ (¬ 9223372036854775807 < (R6).size + (sb y).size) ∧ (R7 ++ sb s = R8) ∧ (¬ 9223372036854775807 < (R7).size + (sb s).size) ∧ (R8 ++ (⟨#[93]⟩ : ByteArray) = R9) ∧ (¬ 9223372036854775807 < (R8).size + ((⟨#[93]⟩ : ByteArray)).size) ∧ (R9 ++ sb s = sb (blankT s x y)) ∧ (¬ 9223372036854775807 < (R9).size + (sb s).size) :=
  ⟨sb (s ++ [91]), sb (s ++ [91] ++ s), sb (s ++ [91] ++ s ++ x), sb (s ++ [91] ++ s ++ x ++ s), sb (s ++ [91] ++ s ++ x ++ s ++ [44]), sb (s ++ [91] ++ s ++ x ++ s ++ [44] ++ s), sb (s ++ [91] ++ s ++ x ++ s ++ [44] ++ s ++ y), sb (s ++ [91] ++ s ++ x ++ s ++ [44] ++ s ++ y ++ s), sb (s ++ [91] ++ s ++ x ++ s ++ [44] ++ s ++ y ++ s ++ [93]), sb_app (s) ([91]), sz_ok (s) ([91]) (by simp only [List.length_cons, List.length_nil]; omega), sb_app (s ++ [91]) (s), sz_ok (s ++ [91]) (s) (by simp only [List.length_append, List.length_cons, List.length_nil]; omega), sb_app (s ++ [91] ++ s) (x), sz_ok (s ++ [91] ++ s) (x) (by simp only [List.length_append, List.length_cons, List.length_nil]; omega), sb_app (s ++ [91] ++ s ++ x) (s), sz_ok (s ++ [91] ++ s ++ x) (s) (by simp only [List.length_append, List.length_cons, List.length_nil]; omega), sb_app (s ++ [91] ++ s ++ x ++ s) ([44]), sz_ok (s ++ [91] ++ s ++ x ++ s) ([44]) (by simp only [List.length_append, List.length_cons, List.length_nil]; omega), sb_app (s ++ [91] ++ s ++ x ++ s ++ [44]) (s), sz_ok (s ++ [91] ++ s ++ x ++ s ++ [44]) (s) (by simp only [List.length_append, List.length_cons, List.length_nil]; omega), sb_app (s ++ [91] ++ s ++ x ++ s ++ [44] ++ s) (y), sz_ok (s ++ [91] ++ s ++ x ++ s ++ [44] ++ s) (y) (by simp only [List.length_append, List.length_cons, List.length_nil]; omega), sb_app (s ++ [91] ++ s ++ x ++ s ++ [44] ++ s ++ y) (s), sz_ok (s ++ [91] ++ s ++ x ++ s ++ [44] ++ s ++ y) (s) (by simp only [List.length_append, List.length_cons, List.length_nil]; omega), sb_app (s ++ [91] ++ s ++ x ++ s ++ [44] ++ s ++ y ++ s) ([93]), sz_ok (s ++ [91] ++ s ++ x ++ s ++ [44] ++ s ++ y ++ s) ([93]) (by simp only [List.length_append, List.length_cons, List.length_nil]; omega), sb_app (s ++ [91] ++ s ++ x ++ s ++ [44] ++ s ++ y ++ s ++ [93]) (s), sz_ok (s ++ [91] ++ s ++ x ++ s ++ [44] ++ s ++ y ++ s ++ [93]) (s) (by simp only [List.length_append, List.length_cons, List.length_nil]; omega)⟩
set_option maxRecDepth 100000 in
set_option maxHeartbeats 8000000 in
theorem blanks_out (w : World) (A : Option Addr) (c : Nat) (L : List V) (hL : ValsAt w A L.length c L) (hn : L.length ≤ 140737488351232) (hs : Fits L) (A2 : Option Addr) (c2 : Nat) (M : List V) (hM : ValsAt w A2 M.length c2 M) (hm : M.length ≤ 140737488351232) (ht : Fits M) (x : Int) (hE : LEnv w)
    (h : fewF L = false ∨ fewF M = false ∨ x < 0 ∨ 20 < x) : Calls Tryz.prog 6 #[.slice A L.length c, .slice A2 M.length c2, .int .i64 x] w fun e w' => e = .returned (.bool true) ∧ Below w.heap.size w w' := by
  have HS := Lib.hid (js_small w hE)
  have HF := Lib.hid (fun W (k : Below w.heap.size w W) => js_few W A L.length c L (hL.below k) hn hs)
  have HG := Lib.hid (fun W (k : Below w.heap.size w W) => js_few W A2 M.length c2 M (hM.below k) hm ht)
  clear hE hL hs hM ht
  by_cases hf : fewF L = false
  · rw [hf] at HF
    clear h hf
    go_enter Tryz.func6, Tryz.ntmps6
    go_wp2_with fail
    refine HS.out.mono ?_
    rintro e w1 ⟨rfl, HB⟩
    have HFF := Lib.hid (HF.out w1 HB.out)
    clear HS HF
    go_wp2_with fail
    refine HFF.out.mono ?_
    rintro e w2 ⟨rfl, m, rfl⟩
    have HB2 := Lib.hid (below_drew (m := m) HB.out)
    clear HFF HB
    generalize w1.drewN m = w2 at *
    have HGG := Lib.hid (HG.out w2 HB2.out)
    clear HG
    go_wp2_with fail
    refine HGG.out.mono ?_
    rintro e w3 ⟨rfl, m3, rfl⟩
    have HB3 := Lib.hid (below_drew (m := m3) HB2.out)
    clear HGG HB2
    generalize w2.drewN m3 = w3 at *
    go_wp2_with fail
    go_ret
    exact ⟨rfl, HB3.out⟩
  · rw [Bool.not_eq_false] at hf
    rw [hf] at HF
    by_cases hg : fewF M = false
    · rw [hg] at HG
      clear h hf hg
      go_enter Tryz.func6, Tryz.ntmps6
      go_wp2_with fail
      refine HS.out.mono ?_
      rintro e w1 ⟨rfl, HB⟩
      have HFF := Lib.hid (HF.out w1 HB.out)
      clear HS HF
      go_wp2_with fail
      refine HFF.out.mono ?_
      rintro e w2 ⟨rfl, m, rfl⟩
      have HB2 := Lib.hid (below_drew (m := m) HB.out)
      clear HFF HB
      generalize w1.drewN m = w2 at *
      have HGG := Lib.hid (HG.out w2 HB2.out)
      clear HG
      go_wp2_with fail
      refine HGG.out.mono ?_
      rintro e w3 ⟨rfl, m3, rfl⟩
      have HB3 := Lib.hid (below_drew (m := m3) HB2.out)
      clear HGG HB2
      generalize w2.drewN m3 = w3 at *
      go_wp2_with fail
      go_ret
      exact ⟨rfl, HB3.out⟩
    · rw [Bool.not_eq_false] at hg
      rw [hg] at HG
      by_cases hx : x < 0
      · clear h hf hg
        have hd : decide (x < 0) = true := decide_eq_true hx
        go_enter Tryz.func6, Tryz.ntmps6
        go_wp2_with fail
        refine HS.out.mono ?_
        rintro e w1 ⟨rfl, HB⟩
        have HFF := Lib.hid (HF.out w1 HB.out)
        clear HS HF
        go_wp2_with fail
        refine HFF.out.mono ?_
        rintro e w2 ⟨rfl, m, rfl⟩
        have HB2 := Lib.hid (below_drew (m := m) HB.out)
        clear HFF HB
        generalize w1.drewN m = w2 at *
        have HGG := Lib.hid (HG.out w2 HB2.out)
        clear HG
        go_wp2_with fail
        refine HGG.out.mono ?_
        rintro e w3 ⟨rfl, m3, rfl⟩
        have HB3 := Lib.hid (below_drew (m := m3) HB2.out)
        clear HGG HB2
        generalize w2.drewN m3 = w3 at *
        go_wp2_with fail
        go_ret
        exact ⟨rfl, HB3.out⟩
      · have hy : 20 < x := by
          rcases h with h | h | h | h
          · rw [hf] at h; cases h
          · rw [hg] at h; cases h
          · exact absurd h hx
          · exact h
        clear h hf hg
        have hd : decide (x < 0) = false := decide_eq_false hx
        have hd2 : decide (20 < x) = true := decide_eq_true hy
        go_enter Tryz.func6, Tryz.ntmps6
        go_wp2_with fail
        refine HS.out.mono ?_
        rintro e w1 ⟨rfl, HB⟩
        have HFF := Lib.hid (HF.out w1 HB.out)
        clear HS HF
        go_wp2_with fail
        refine HFF.out.mono ?_
        rintro e w2 ⟨rfl, m, rfl⟩
        have HB2 := Lib.hid (below_drew (m := m) HB.out)
        clear HFF HB
        generalize w1.drewN m = w2 at *
        have HGG := Lib.hid (HG.out w2 HB2.out)
        clear HG
        go_wp2_with fail
        refine HGG.out.mono ?_
        rintro e w3 ⟨rfl, m3, rfl⟩
        have HB3 := Lib.hid (below_drew (m := m3) HB2.out)
        clear HGG HB2
        generalize w2.drewN m3 = w3 at *
        go_wp2_with fail
        go_ret
        exact ⟨rfl, HB3.out⟩
set_option maxRecDepth 100000 in
set_option maxHeartbeats 8000000 in
theorem blanks_in (w : World) (A : Option Addr) (c : Nat) (L : List V) (hL : ValsAt w A L.length c L) (hn : L.length ≤ 140737488351232) (hs : Fits L) (A2 : Option Addr) (c2 : Nat) (M : List V) (hM : ValsAt w A2 M.length c2 M) (hm : M.length ≤ 140737488351232) (ht : Fits M) (N : Nat) (hN : N ≤ 20) (hE : LEnv w)
    (hf : fewF L = true) (hg : fewF M = true) : Calls Tryz.prog 6 #[.slice A L.length c, .slice A2 M.length c2, .int .i64 (N : Int)] w fun e w' => e = .returned (.bool true) ∧ Below w.heap.size w w' := by
  have HS := Lib.hid (js_small w hE)
  have HF := Lib.hid (fun W (k : Below w.heap.size w W) => js_few W A L.length c L (hL.below k) hn hs)
  have HG := Lib.hid (fun W (k : Below w.heap.size w W) => js_few W A2 M.length c2 M (hM.below k) hm ht)
  have HL := Lib.hid hL
  have HM := Lib.hid hM
  have HE := Lib.hid hE
  rw [hf] at HF
  rw [hg] at HG
  obtain ⟨hl8, hsh⟩ := few_is hf
  obtain ⟨hm8, hth⟩ := few_is hg
  have hx1 : ¬ (N : Int) < 0 := by omega
  have hx2 : ¬ 20 < (N : Int) := by omega
  have hd1 : decide ((N : Int) < 0) = false := decide_eq_false hx1
  have hd2 : decide (20 < (N : Int)) = false := decide_eq_false hx2
  clear hE hL hs hM ht hf hg
  go_enter Tryz.func6, Tryz.ntmps6
  go_wp2_with fail
  refine HS.out.mono ?_
  rintro e w1 ⟨rfl, HB⟩
  have HFF := Lib.hid (HF.out w1 HB.out)
  clear HS HF
  go_wp2_with fail
  refine HFF.out.mono ?_
  rintro e w2 ⟨rfl, m, rfl⟩
  have HB2 := Lib.hid (below_drew (m := m) HB.out)
  clear HFF HB
  generalize w1.drewN m = w2 at *
  have HGG := Lib.hid (HG.out w2 HB2.out)
  clear HG
  go_wp2_with fail
  refine HGG.out.mono ?_
  rintro e w3 ⟨rfl, m3, rfl⟩
  have HB3 := Lib.hid (below_drew (m := m3) HB2.out)
  clear HGG HB2
  generalize w2.drewN m3 = w3 at *
  cases hr : rightPF L with
  | false =>
    have HP := Lib.hid (js_print_no w3 A L.length c L (HL.out.below HB3.out) (by omega) (hsh.mono (by decide)) (HE.out.below HB3.out).tab hr)
    go_wp2_with fail
    refine HP.out.mono ?_
    rintro e w4 ⟨rfl, K4⟩
    have HB4 := Lib.hid (HB3.out.trans (K4.out.mono HB3.out.size))
    clear K4 HP HB3
    cases hq : rightPF M with
    | false =>
      have HP := Lib.hid (js_print_no w4 A2 M.length c2 M (HM.out.below HB4.out) (by omega) (hth.mono (by decide)) (HE.out.below HB4.out).tab hq)
      go_wp2_with fail
      refine HP.out.mono ?_
      rintro e w5 ⟨rfl, K5⟩
      have HB5 := Lib.hid (HB4.out.trans (K5.out.mono HB4.out.size))
      clear K5 HP HB4
      go_wp2_with fail
      go_ret
      exact ⟨rfl, HB5.out⟩
    | true =>
      obtain ⟨y, hy⟩ := (prog_is M).1 hq
      have HP := Lib.hid (js_print w4 A2 M.length c2 M y (HM.out.below HB4.out) (hth.mono (by decide)) (HE.out.below HB4.out).tab (HE.out.below HB4.out).js hy)
      go_wp2_with fail
      refine HP.out.mono ?_
      rintro e w5 ⟨v5, rfl, K5⟩
      have HB5 := Lib.hid (HB4.out.trans (K5.out.2.mono HB4.out.size))
      clear K5 HP HB4
      go_wp2_with fail
      go_ret
      exact ⟨rfl, HB5.out⟩
  | true =>
    obtain ⟨x, hx⟩ := (prog_is L).1 hr
    have htx := row_text_len hx hsh (by decide)
    have hxl : x.length ≤ 100000000 := by
      have h5 := rows_len hx.2 hsh
      have h6 : L.length * (12 * 3000 + 40) ≤ 80 * (12 * 3000 + 40) := Nat.mul_le_mul_right _ hl8
      omega
    clear htx
    have HP := Lib.hid (js_print w3 A L.length c L x (HL.out.below HB3.out) (hsh.mono (by decide)) (HE.out.below HB3.out).tab (HE.out.below HB3.out).js hx)
    go_wp2_with fail
    refine HP.out.mono ?_
    rintro e w4 ⟨v4, rfl, HX4⟩
    obtain ⟨A4, c4, rfl, B4, -, -⟩ := HX4.out.1.bytes
    have HT4 := Lib.hid B4
    have HB4 := Lib.hid (HB3.out.trans (HX4.out.2.mono HB3.out.size))
    clear HX4 B4 HP HB3
    cases hq : rightPF M with
    | false =>
      have HP := Lib.hid (js_print_no w4 A2 M.length c2 M (HM.out.below HB4.out) (by omega) (hth.mono (by decide)) (HE.out.below HB4.out).tab hq)
      go_wp2_with fail
      refine HP.out.mono ?_
      rintro e w5 ⟨rfl, K5⟩
      have HB5 := Lib.hid (HB4.out.trans (K5.out.mono HB4.out.size))
      clear K5 HP HB4
      go_wp2_with fail
      go_ret
      exact ⟨rfl, HB5.out⟩
    | true =>
      obtain ⟨y, hy⟩ := (prog_is M).1 hq
      have hyl : y.length ≤ 100000000 := by
        have h5 := rows_len hy.2 hth
        have h6 : M.length * (12 * 3000 + 40) ≤ 80 * (12 * 3000 + 40) := Nat.mul_le_mul_right _ hm8
        omega
      have HP := Lib.hid (js_print w4 A2 M.length c2 M y (HM.out.below HB4.out) (hth.mono (by decide)) (HE.out.below HB4.out).tab (HE.out.below HB4.out).js hy)
      go_wp2_with fail
      refine HP.out.mono ?_
      rintro e w5 ⟨v5, rfl, HX5⟩
      obtain ⟨A5, c5, rfl, B5, -, -⟩ := HX5.out.1.bytes
      have HU5 := Lib.hid B5
      have HT5 := Lib.hid (HT4.out.below HX5.out.2)
      have HB5 := Lib.hid (HB4.out.trans (HX5.out.2.mono HB4.out.size))
      have HSAME := Lib.hid (two_same hx hy (blk_is N))
      clear HX5 B5 HP HB4 HT4 hx hy hr hq hsh hth hl8 hm8
      have hbl := blk_len N
      have hln : (lstR (parseF (plainT x y))).length ≤ 5000 := by
        cases hpp : parseF (plainT x y) with
        | ok a l r =>
          obtain ⟨_, _, t, ht⟩ := parse_right hpp
          exact ht.1
        | err c => exact Nat.zero_le _
      have HPL : (plainT x y).length ≤ 1000000000 := by
        unfold plainT
        simp only [List.length_append, List.length_cons, List.length_nil]
        omega
      have HBL : (blankT (blk N) x y).length ≤ 1000000000 := by
        unfold blankT
        simp only [List.length_append, List.length_cons, List.length_nil]
        omega
      obtain ⟨S1, S2, S3, pa1, pz1, pa2, pz2, pa3, pz3, pa4, pz4⟩ := plain_chain x y hxl hyl
      obtain ⟨R1, R2, R3, R4, R5, R6, R7, R8, R9, qa1, qz1, qa2, qz2, qa3, qz3, qa4, qz4, qa5, qz5, qa6, qz6, qa7, qz7, qa8, qz8, qa9, qz9, qa10, qz10⟩ := blank_chain (blk N) x y (by omega) hxl hyl
      have hc1 := conv_bytes w5 A4 x.length c4 x HT5.out
      have hc2 := conv_bytes w5 A5 y.length c5 y HU5.out
      rw [show (⟨x.toArray⟩ : ByteArray) = sb x from rfl] at hc1
      rw [show (⟨y.toArray⟩ : ByteArray) = sb y from rfl] at hc2
      obtain ⟨k6, w6, hv6, HB6, K6⟩ := js_conv_str w5 (plainT x y)
      have HPP := Lib.hid (js_parse w6 _ _ k6 (plainT x y) HB6 HPL ((HE.out.below HB5.out).below K6).js)
      have K6' := Lib.hid K6
      clear hbl HPL HB6 K6
      go_wp2_with fail
      go_loopg [14, 15] N (fun g v14 v15 wr => ∃ j : Nat, v15 = .int .i64 (j : Int) ∧ v14 = .string (sb (blk j)) ∧ j + g = N ∧ wr = w5)
      case atStart => exact ⟨0, rfl, rfl, by omega, rfl⟩
      case round =>
        obtain ⟨j, rfl, rfl, hjg, rfl⟩ := hrel
        cases gk with
        | succ g =>
          have hjn : (j : Int) < (N : Int) := by omega
          have ha := sb_app (blk j) [32, 9, 10, 13]
          have hz : ¬ 9223372036854775807 < (sb (blk j)).size + (⟨#[32, 9, 10, 13]⟩ : ByteArray).size := by
            rw [sb_size, blk_len]
            show ¬ 9223372036854775807 < 4 * j + 4
            omega
          change sb (blk j) ++ (⟨#[32, 9, 10, 13]⟩ : ByteArray) = sb (blk (j + 1)) at ha
          have HNX := Lib.hid (rfl : sb (blk (j + 1)) = sb (blk (j + 1)))
          clear pa1 pz1 pa2 pz2 pa3 pz3 pa4 pz4 qa1 qz1 qa2 qz2 qa3 qz3 qa4 qz4 qa5 qz5 qa6 qz6 qa7 qz7 qa8 qz8 qa9 qz9 qa10 qz10 hc1 hc2 hv6 HPP HNX
          go_wp2_with fail
          go_roundg g
          case measure => omega
          case rel => exact ⟨j + 1, by go_num, rfl, by omega, rfl⟩
        | zero =>
          obtain rfl : j = N := by omega
          have hge : ¬ (j : Int) < (j : Int) := by omega
          go_wp2_with fail
          refine HPP.out.mono ?_
          rintro e w7 hp7
          obtain ⟨A7, k7, rfl, V7, K7⟩ := post_vals hp7
          have KK := Lib.hid (K6'.out.trans (K7.mono K6'.out.size))
          have HV7 := Lib.hid V7
          have HB7 := Lib.hid (HB5.out.trans (KK.out.mono HB5.out.size))
          have hc3 := conv_bytes w7 A4 x.length c4 x (HT5.out.below KK.out)
          have hc4 := conv_bytes w7 A5 y.length c5 y (HU5.out.below KK.out)
          rw [show (⟨x.toArray⟩ : ByteArray) = sb x from rfl] at hc3
          rw [show (⟨y.toArray⟩ : ByteArray) = sb y from rfl] at hc4
          obtain ⟨k8, w8, hv8, HB8, K8⟩ := js_conv_str w7 (blankT (blk j) x y)
          have HPQ := Lib.hid (js_parse w8 _ _ k8 (blankT (blk j) x y) HB8 HBL ((HE.out.below HB7.out).below K8).js)
          rw [HSAME.out] at HPQ
          have K8' := Lib.hid K8
          clear hp7 V7 K7 HPP HB8 K8 hc1 hc2 hv6 KK K6' HB5 HT5 HU5 HBL
          go_wp2_with fail
          refine HPQ.out.mono ?_
          rintro e w9 hp9
          obtain ⟨A9, k9, rfl, V9, K9⟩ := post_vals hp9
          have KK := Lib.hid (K8'.out.trans (K9.mono K8'.out.size))
          have HB9 := Lib.hid (HB7.out.trans (KK.out.mono HB7.out.size))
          have HSM := Lib.hid (js_same w9 A7 A9 (lstR (parseF (plainT x y))).length k7 (lstR (parseF (plainT x y))).length k9 _ _ (HV7.out.below KK.out) V9 (by have := hln; omega) (by have := hln; omega))
          rw [decide_eq_true (rfl : lstR (parseF (plainT x y)) = lstR (parseF (plainT x y)))] at HSM
          clear hp9 V9 K9 HPQ hc3 hc4 hv8 KK K8' HB7 HV7
          generalize (lstR (parseF (plainT x y))).length = ln at *
          generalize codeR (parseF (plainT x y)) = cd at *
          go_wp2_with fail
          refine HSM.out.mono ?_
          rintro e w10 ⟨rfl, m10, rfl⟩
          go_wp2_with fail
          go_ret
          exact ⟨rfl, below_drew HB9.out⟩
theorem jsonBlanks_all (w : World) (A : Option Addr) (n c : Nat) (L : List V) (hL : ValsAt w A n c L) (hn : n ≤ 140737488351232) (hs : Fits L) (A2 : Option Addr) (n2 c2 : Nat) (M : List V) (hM : ValsAt w A2 n2 c2 M) (hm : n2 ≤ 140737488351232) (ht : Fits M) (x : Int) (hE : LEnv w) :
    Calls Tryz.prog 6 #[.slice A n c, .slice A2 n2 c2, .int .i64 x] w fun e w' => e = .returned (.bool true) ∧ Below w.heap.size w w' := by
  obtain rfl := hL.len
  obtain rfl := hM.len
  by_cases h : fewF L = false ∨ fewF M = false ∨ x < 0 ∨ 20 < x
  · exact blanks_out w A c L hL hn hs A2 c2 M hM hm ht x hE h
  · obtain ⟨N, rfl⟩ : ∃ N : Nat, x = (N : Int) := ⟨x.toNat, by omega⟩
    cases hf : fewF L with
    | false => exact absurd (.inl hf) h
    | true =>
      cases hg : fewF M with
      | false => exact absurd (.inr (.inl hg)) h
      | true => exact blanks_in w A c L hL hn hs A2 c2 M hM hm ht N (by omega) hE hf hg
end Go.Proofs.YtpakfjfkibphjaaGreatDoor
