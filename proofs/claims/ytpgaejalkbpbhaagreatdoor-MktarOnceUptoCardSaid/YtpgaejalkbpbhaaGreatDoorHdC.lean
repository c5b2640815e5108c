/-
  The reference's has, lay; the bytes of a string.
-/
import Derived.Test.YtpgaejalkbpbhaaGreatDoorHdB
import Derived.Test.YtpgaejalkbpbhaaGreatDoorOcB
import Derived.Lib.ConvBytes
import Derived.Test.YtpgaejalkbpbhaaGreatDoorHdA
namespace Go.Proofs.YtpgaejalkbpbhaaGreatDoor
open Go.RowKit Sh Oc Hd

theorem kept_conv (w : World) (e : TypeId) (s : ByteArray) : Below w.heap.size w (Lib.bytesWorld w e s) :=
  ⟨rfl, rfl, rfl, by rw [Lib.bytesWorld_size]; omega, fun k hk => Lib.bytesWorld_at_old w e s k hk⟩
/-- The bytes of a string, as a slice of their own. -/
structure CvAt (w w' : World) (s : List UInt8) (c : Nat) : Prop where
  at_ : BytesAt w' (some ⟨w.heap.size, 0, none⟩) s.length c s
  below : Below w.heap.size w w'
theorem conv_str (w : World) (s : List UInt8) : ∃ c w', (convert 9 31 (strV s)).run Tryz.prog w = .ok (.slice (some ⟨w.heap.size, 0, none⟩) s.length c) w' ∧ CvAt w w' s c := by
  have h := Lib.run_convert_string_bytes (P := Tryz.prog) w 9 31 5 ⟨s.toArray⟩ Tryz.underlying9 Tryz.underlying31 Tryz.underlying5
  have e : (⟨s.toArray⟩ : ByteArray).size = s.length := rfl
  rw [e] at h
  refine ⟨_, _, h, ⟨rfl, ?_, fun hn => ⟨w.heap.size, 0, rfl, by rw [Lib.bytesWorld_size]; omega, fun j v hj => ?_⟩⟩, kept_conv _ _ _⟩
  · have := grownCap_ge w s.length 0 5
    exact this
  · have hjl : j < s.length := by simpa using (List.getElem?_eq_some_iff.1 hj).1
    rw [Nat.zero_add, Lib.bytesWorld_cell w 5 ⟨s.toArray⟩ j (by rw [e]; exact hjl), ← hj]
    simp [hjl, v8, n8, List.getD]

theorem str_size {s : List UInt8} {S : ByteArray} (h : strV s = .string S) : S.size = s.length := by
  have e : S = ⟨s.toArray⟩ := by
    have := h.symm
    simpa [strV] using this
  rw [e]; rfl
theorem str_index {s : List UInt8} {S : ByteArray} (h : strV s = .string S) (j : Nat) (hj : j < s.length) (W : World) : (Instr.index 9 (.string S) (.int .i64 (j : Int))).run Tryz.prog W = .ok (.int .u8 (n8 s[j])) W := by
  have e : S = ⟨s.toArray⟩ := by
    have := h.symm
    simpa [strV] using this
  subst e
  have hs : (⟨s.toArray⟩ : ByteArray)[j]? = some s[j] := by
    rw [getElem?_pos (⟨s.toArray⟩ : ByteArray) j (by exact hj)]
    rfl
  simp [Instr.index, run_underlying Tryz.underlying9, asIntOf, hs, n8]
def hasF (s : List UInt8) : Bool := s.contains 0
set_option maxRecDepth 100000 in
set_option maxHeartbeats 1000000 in
theorem has_any (w : World) (s : List UInt8) (hl : s.length ≤ 140737488351232) (S : ByteArray) (hS : strV s = .string S) :
    Calls Tryz.prog 56 #[.string S] w fun e w' => e = .returned (.bool (hasF s)) ∧ w' = w := by
  have hsz := str_size hS
  have HS := Lib.hid hS
  clear hS
  go_enter Tryz.func56, Tryz.ntmps56
  go_wp2_with fail
  go_loopw [3] (fun i wr => ∃ j : Nat, j ≤ s.length ∧ i = .int .i64 j ∧ Hid ((s.take j).contains 0 = false) ∧ wr = w) (fun i _ => s.length - (intOf i).toNat)
  case atStart => exact ⟨0, Nat.zero_le _, rfl, Lib.hid rfl, rfl⟩
  case round =>
    obtain ⟨j, hj, rfl, ho, rfl⟩ := hrel
    by_cases hlt : j < s.length
    · have hix := str_index HS.out j hlt
      have hs := take_snoc (bs := s) (j := j) hlt
      have HM := Lib.hid (show s[j] ∈ s from List.getElem_mem _)
      have HX := Lib.hid (show n8 s[j] ≠ 0 → (s.take (j + 1)).contains 0 = false from fun h => by
        rw [hs]
        cases hc : (s.take j ++ [s[j]]).contains 0 with
        | false => rfl
        | true =>
          rcases List.mem_append.1 (List.contains_iff_mem.1 hc) with h2 | h2
          · have := List.contains_iff_mem.2 h2
            rw [ho.out] at this
            cases this
          · have h3 : s[j] = 0 := (List.mem_singleton.1 h2).symm
            exact absurd (by rw [h3]; rfl) h)
      have HN := Lib.hid (show n8 s[j] = 0 → hasF s = true from fun h => List.contains_iff_mem.2 (by rw [← n8_zero h]; exact HM.out))
      clear hs HM
      generalize n8 s[j] = d at *
      have hlt' : (j : Int) < (s.length : Int) := by omega
      by_cases h1 : d = 0
      · subst h1
        go_wp2_with fail
        go_ret
        exact ⟨by rw [HN.out (by simp)]; rfl, rfl⟩
      · go_wp2_with fail
        go_roundw
        case rel => exact ⟨j + 1, by omega, by go_num, Lib.hid (HX.out h1), trivial⟩
        case measure => simp [intOf] <;> omega
    · obtain rfl : j = s.length := by omega
      have hge : ¬ (s.length : Int) < (s.length : Int) := by omega
      have h2 := ho.out
      rw [List.take_length] at h2
      have H2 := Lib.hid (show hasF s = false from h2)
      clear h2
      go_wp2_with fail
      go_ret
      exact ⟨by rw [H2.out]; rfl, rfl⟩

set_option maxRecDepth 100000 in
set_option maxHeartbeats 2000000 in
theorem rlay_own (w : World) (bb bo c : Nat) (bs : List UInt8) (S : BytesAt w (some ⟨bb, bo, none⟩) 512 c bs) (hm : c ≤ maxLen) (p : Nat) (A : Option Addr) (n c2 : Nat) (xs : List UInt8) (X : BytesAt w A n c2 xs) (hA : A = none → c2 = 0) (hp : p + n < 512) :
    Calls Tryz.prog 57 #[.slice (some ⟨bb, bo, none⟩) 512 c, .int .i64 p, .slice A n c2] w fun e w' => (∃ b o c, e = .returned (.slice (some ⟨b, o, none⟩) 512 c) ∧ Hid (BytesAt w' (some ⟨b, o, none⟩) 512 c (lay p xs bs)) ∧ Hid (c ≤ maxLen) ∧ Hid (OwnBytes w' w.heap.size (.slice (some ⟨b, o, none⟩) 512 c) (lay p xs bs))) ∧ Hid (Below w.heap.size w w') := by
  have HS := Lib.hid S
  have HX := Lib.hid X
  have HA := Lib.hid hA
  have HM := Lib.hid hm
  have hcap := S.cap
  have hlen := S.len
  have hxl := X.len
  clear S X hA
  unfold maxLen at hm
  have hp1 : (p : Int) ≤ (c : Int) := by omega
  have hp2 : (p : Int) + (n : Int) ≤ 512 := by omega
  have hpc : ¬ c = p + n := by omega
  have hLL : Hid ((lay p xs bs).length = 512) := Lib.hid (by rw [lay_length (by omega), hlen])
  have hLE : Hid (lay p xs bs = bs.take p ++ xs ++ bs.drop (p + n)) := Lib.hid (by rw [lay, hxl, List.append_assoc])
  have HTK := Lib.hid (show (bs.take p).length = p by rw [List.length_take]; omega)
  go_enter Tryz.func57, Tryz.ntmps57
  go_upto_region 2 with ((at_builtin; with_reducible refine append_bytes ?_ (.tmp 8) (.tmp 11) ?_ w.heap.size _ [] ?_ (OwnBytes.row (b := w.heap.size) (Row.at_ _ _ [] rfl rfl) (Nat.le_refl _) (Nat.zero_le _)) (some ⟨bb, bo, none⟩) p c (bs.take p) ?_ ((HS.out.kept (kept_alloc _ _) (fun _ _ _ _ h => h)).take p (by omega)) ?_ ?_ ?_ ?_); rfl; rfl; go_must (rfl; rfl; (intro e; cases e); (rw [List.length_nil]; omega); simp; intro v4 w4 O4 K4))
  rw [List.nil_append] at O4
  have M4 := Lib.hid (kept_own (kept_alloc w _) K4.out (Nat.le_refl _))
  clear K4
  go_upto_region 3 with ((at_builtin; with_reducible refine append_bytes ?_ (.tmp 13) (.tmp 14) ?_ w.heap.size v4 (bs.take p) ?_ O4.out A n c2 xs ?_ (HX.out.kept M4.out (fun _ _ _ _ h => h)) HA.out ?_ ?_ ?_); rfl; rfl; go_must (rfl; rfl; (rw [HTK.out]; omega); exact M4.out.size; intro v5 w5 O5 K5))
  have M5 := Lib.hid (kept_own M4.out K5.out (Nat.le_refl _))
  clear K5 O4 M4
  go_upto_region 4 with ((at_builtin; with_reducible refine append_bytes ?_ (.tmp 16) (.tmp 22) ?_ w.heap.size v5 (bs.take p ++ xs) ?_ O5.out (some ⟨bb, bo + (p + n), none⟩) (512 - (p + n)) (c - (p + n)) (bs.drop (p + n)) ?_ ((HS.out.kept M5.out (fun _ _ _ _ h => h)).drop (p + n) hp) ?_ ?_ ?_ ?_); rfl; rfl; go_must (rfl; rfl; (intro e; cases e); (rw [List.length_append, HTK.out, hxl]; omega); exact M5.out.size; intro v6 w6 O6 K6))
  rw [← hLE.out] at O6
  have M6 := Lib.hid (kept_own M5.out K6.out (Nat.le_refl _))
  obtain ⟨A6, c6, e6, Y6, hc6, _⟩ := O6.out.at2
  rw [hLL.out] at e6 Y6
  obtain ⟨b6, o6, rfl, _, _⟩ := Y6.at_ (by decide)
  have O6b := O6.out
  rw [e6] at O6b
  subst e6
  go_ret
  exact ⟨⟨_, _, _, rfl, Lib.hid Y6, Lib.hid hc6, Lib.hid O6b⟩, Lib.hid (M6.out.below (Nat.le_refl _) (fun _ _ h => h))⟩
theorem rlay_any (w : World) (bb bo c : Nat) (bs : List UInt8) (S : BytesAt w (some ⟨bb, bo, none⟩) 512 c bs) (hm : c ≤ maxLen) (p : Nat) (A : Option Addr) (n c2 : Nat) (xs : List UInt8) (X : BytesAt w A n c2 xs) (hA : A = none → c2 = 0) (hp : p + n < 512) :
    Calls Tryz.prog 57 #[.slice (some ⟨bb, bo, none⟩) 512 c, .int .i64 p, .slice A n c2] w fun e w' => (∃ b o c, e = .returned (.slice (some ⟨b, o, none⟩) 512 c) ∧ Hid (BytesAt w' (some ⟨b, o, none⟩) 512 c (lay p xs bs)) ∧ Hid (c ≤ maxLen)) ∧ Hid (Below w.heap.size w w') := (rlay_own w bb bo c bs S hm p A n c2 xs X hA hp).mono fun _ _ ⟨⟨b, o, c, h1, h2, h3, _⟩, h4⟩ => ⟨⟨b, o, c, h1, h2, h3⟩, h4⟩
end Go.Proofs.YtpgaejalkbpbhaaGreatDoor

namespace Go.Proofs.YtpgaejalkbpbhaaGreatDoor
open Go.RowKit Sh Oc Hd

theorem rwrite_is (w : World) (n s : Int) (o : Option (List UInt8)) (h : writeZ n s = o) :
    Calls Tryz.prog 27 #[.int .i64 n, .int .i64 s] w fun e w' => (∃ A c, e = .returned (.tuple #[.slice A (o.getD []).length c, .bool o.isSome]) ∧ Hid (BytesAt w' A (o.getD []).length c (o.getD [])) ∧ c ≤ maxLen ∧ Hid (A = none → c = 0)) ∧ Hid (Below w.heap.size w w') := by
  subst h
  refine (rwrite_any w n s).mono fun e w' ⟨⟨v, he, ho⟩, hb⟩ => ⟨?_, hb⟩
  obtain ⟨A, c, rfl, hy, hc, hn⟩ := ho.out.at2
  exact ⟨A, c, he, Lib.hid hy, hc, Lib.hid hn⟩
/-- What the reference's Print answers. -/
def RPrintIs (B : Nat) (o : Option (List UInt8)) (e : Ending) (w' : World) : Prop :=
  match o with
  | some b => ∃ A c, e = .returned (.tuple #[.slice A 512 c, .bool true]) ∧ BytesAt w' A 512 c b ∧ OwnBytes w' B (.slice A 512 c) b
  | none => e = .returned (.tuple #[.slice none 0 0, .bool false])
def rl (h : H) : Nat → List UInt8
  | 0 => lay 0 (datOf (tellTx h) (tellNm h) 0) (List.replicate 512 0)
  | k + 1 => lay (fr (ix k)) (datOf (tellTx h) (tellNm h) (ix k)) (rl h k)
theorem rl_X (h : H) : lay 257 (datOf (tellTx h) (tellNm h) 9) (lay 157 (datOf (tellTx h) (tellNm h) 8) (lay 156 (datOf (tellTx h) (tellNm h) 7) (rl h 7))) = refX h := rfl
structure RpAt (w wr : World) (ga gs g : Nat) (E : List Value) (f : Nat → Int) : Prop where
  hd : Row wr w.heap.size 57 E
  at_ : Row wr ga 83 (numL atF)
  sz : Row wr gs 83 (numL szF)
  nums : Row wr g 83 (numL f)
  kept : Kept w wr (fun _ => False)
theorem RpAt.below {w wr w' : World} {ga gs g : Nat} {E : List Value} {f : Nat → Int} (h : RpAt w wr ga gs g E f) (hb : Below wr.heap.size wr w') : RpAt w w' ga gs g E f :=
  ⟨h.hd.below hb h.hd.lt, h.at_.below hb h.at_.lt, h.sz.below hb h.sz.lt, h.nums.below hb h.nums.lt, kept_trans h.kept (kept_below hb)⟩

set_option maxRecDepth 100000 in
set_option maxHeartbeats 8000000 in
theorem rprint_any (w : World) (h : H) (hn0 : h.name.length ≤ 100000000) (hn8 : h.link.length ≤ 100000000) :
    Calls Tryz.prog 33 #[hdV h] w fun e w' => RPrintIs w.heap.size (printF h) e w' ∧ Hid (Below w.heap.size w w') := by
  have HPF := Lib.hid (show ∀ z, fitAll h = z → printF h = if z = true then some (sealB (bodyOf h)) else none from fun z hz => by rw [← hz]; rfl)
  have HF0 := Lib.hid (fun hf => fit_text (h := h) hf (k := 0) (by decide) rfl)
  have HF8 := Lib.hid (fun hf => fit_text (h := h) hf (k := 8) (by decide) rfl)
  obtain ⟨S0, hS0⟩ : ∃ S, strV h.name = .string S := ⟨_, rfl⟩
  obtain ⟨S8, hS8⟩ : ∃ S, strV h.link = .string S := ⟨_, rfl⟩
  have eL : hdV h = .agg #[.string S0, .int .i64 h.mode, .int .i64 h.uid, .int .i64 h.gid, .int .i64 h.size, .int .i64 h.mtime, .int .u8 (n8 h.typ), .string S8, .int .i64 h.major, .int .i64 h.minor] := by
    unfold hdV
    rw [hS0, hS8]
    rfl
  rw [eL]
  clear eL
  have z0 := str_size hS0
  have z8 := str_size hS8
  have HH0 := Lib.hid (fun W => has_any W h.name (by omega) S0 hS0)
  have HH8 := Lib.hid (fun W => has_any W h.link (by omega) S8 hS8)
  have HS := Lib.hid (And.intro hS0 hS8)
  clear hS0 hS8
  have hmk := make_512
  obtain ⟨Z, hZ⟩ : ∃ Z, Z = (List.replicate 512 (0 : UInt8)).map v8 := ⟨_, rfl⟩
  rw [← hZ] at hmk
  have HZ := Lib.hid hZ
  have HMK := Lib.hid hmk
  clear hZ hmk
  go_enter Tryz.func33, Tryz.ntmps33
  go_upto_region 1 with fail
  have R1 : Hid (Row (w.alloc (Obj.cells ([Value.string S0, .int .i64 h.mode, .int .i64 h.uid, .int .i64 h.gid, .int .i64 h.size, .int .i64 h.mtime, .int .u8 (n8 h.typ), .string S8, .int .i64 h.major, .int .i64 h.minor] : List Value).toArray 57)) w.heap.size 57 [Value.string S0, .int .i64 h.mode, .int .i64 h.uid, .int .i64 h.gid, .int .i64 h.size, .int .i64 h.mtime, .int .u8 (n8 h.typ), .string S8, .int .i64 h.major, .int .i64 h.minor]) := Lib.hid (Row.new _ _ _)
  have K1 : Hid (Kept w (w.alloc (Obj.cells ([Value.string S0, .int .i64 h.mode, .int .i64 h.uid, .int .i64 h.gid, .int .i64 h.size, .int .i64 h.mtime, .int .u8 (n8 h.typ), .string S8, .int .i64 h.major, .int .i64 h.minor] : List Value).toArray 57)) (fun _ => False)) := Lib.hid (kept_alloc _ _)
  generalize hW0 : w.alloc (Obj.cells ([Value.string S0, .int .i64 h.mode, .int .i64 h.uid, .int .i64 h.gid, .int .i64 h.size, .int .i64 h.mtime, .int .u8 (n8 h.typ), .string S8, .int .i64 h.major, .int .i64 h.minor] : List Value).toArray 57) = w1 at R1 K1
  generalize hW : World.alloc _ _ = W'
  obtain rfl : w1 = W' := hW0.symm.trans hW
  clear hW hW0
  have c0 := R1.out.cell (i := 0) rfl
  have c1 := R1.out.cell (i := 1) rfl
  have c2 := R1.out.cell (i := 2) rfl
  have c3 := R1.out.cell (i := 3) rfl
  have c4 := R1.out.cell (i := 4) rfl
  have c5 := R1.out.cell (i := 5) rfl
  have c6 := R1.out.cell (i := 6) rfl
  have c7 := R1.out.cell (i := 7) rfl
  have c8 := R1.out.cell (i := 8) rfl
  have c9 := R1.out.cell (i := 9) rfl
  by_cases hz0 : hasF h.name = true
  · go_wp2_with fail
    refine (HH0.out w1).mono ?_
    rintro e wx ⟨rfl, rfl⟩
    rw [hz0]
    by_cases l0 : h.name.length > 100
    · have l0' : (h.name.length : Int) > 100 := by omega
      have hf : fitAll h = false := by
        cases hx : fitAll h with
        | false => rfl
        | true => exact absurd (HF0.out hx).2 (by rw [show (tellTx h 0).contains 0 = hasF h.name from rfl, hz0]; decide)
      have HN : Hid (printF h = none) := Lib.hid (by rw [HPF.out _ hf]; rfl)
      go_wp2_with fail
      go_ret2
      exact ⟨by rw [HN.out]; rfl, Lib.hid (K1.out.below (Nat.le_refl _) (fun _ _ h => h))⟩
    · have l0' : ¬ (h.name.length : Int) > 100 := by omega
      by_cases l8 : h.link.length > 100
      · have l8' : (h.link.length : Int) > 100 := by omega
        have hf : fitAll h = false := by
          cases hx : fitAll h with
          | false => rfl
          | true => exact absurd (HF0.out hx).2 (by rw [show (tellTx h 0).contains 0 = hasF h.name from rfl, hz0]; decide)
        have HN : Hid (printF h = none) := Lib.hid (by rw [HPF.out _ hf]; rfl)
        go_wp2_with fail
        go_ret2
        exact ⟨by rw [HN.out]; rfl, Lib.hid (K1.out.below (Nat.le_refl _) (fun _ _ h => h))⟩
      · have l8' : ¬ (h.link.length : Int) > 100 := by omega
        have hf : fitAll h = false := by
          cases hx : fitAll h with
          | false => rfl
          | true => exact absurd (HF0.out hx).2 (by rw [show (tellTx h 0).contains 0 = hasF h.name from rfl, hz0]; decide)
        have HN : Hid (printF h = none) := Lib.hid (by rw [HPF.out _ hf]; rfl)
        go_wp2_with fail
        go_ret2
        exact ⟨by rw [HN.out]; rfl, Lib.hid (K1.out.below (Nat.le_refl _) (fun _ _ h => h))⟩
  · rw [Bool.not_eq_true] at hz0
    by_cases hz8 : hasF h.link = true
    · go_wp2_with fail
      refine (HH0.out w1).mono ?_
      rintro e wx ⟨rfl, rfl⟩
      rw [hz0]
      go_wp2_with fail
      refine (HH8.out wx).mono ?_
      rintro e wx ⟨rfl, rfl⟩
      rw [hz8]
      by_cases l0 : h.name.length > 100
      · have l0' : (h.name.length : Int) > 100 := by omega
        have hf : fitAll h = false := by
          cases hx : fitAll h with
          | false => rfl
          | true => exact absurd (HF8.out hx).2 (by rw [show (tellTx h 8).contains 0 = hasF h.link from rfl, hz8]; decide)
        have HN : Hid (printF h = none) := Lib.hid (by rw [HPF.out _ hf]; rfl)
        go_wp2_with fail
        go_ret2
        exact ⟨by rw [HN.out]; rfl, Lib.hid (K1.out.below (Nat.le_refl _) (fun _ _ h => h))⟩
      · have l0' : ¬ (h.name.length : Int) > 100 := by omega
        by_cases l8 : h.link.length > 100
        · have l8' : (h.link.length : Int) > 100 := by omega
          have hf : fitAll h = false := by
            cases hx : fitAll h with
            | false => rfl
            | true => exact absurd (HF8.out hx).2 (by rw [show (tellTx h 8).contains 0 = hasF h.link from rfl, hz8]; decide)
          have HN : Hid (printF h = none) := Lib.hid (by rw [HPF.out _ hf]; rfl)
          go_wp2_with fail
          go_ret2
          exact ⟨by rw [HN.out]; rfl, Lib.hid (K1.out.below (Nat.le_refl _) (fun _ _ h => h))⟩
        · have l8' : ¬ (h.link.length : Int) > 100 := by omega
          have hf : fitAll h = false := by
            cases hx : fitAll h with
            | false => rfl
            | true => exact absurd (HF8.out hx).2 (by rw [show (tellTx h 8).contains 0 = hasF h.link from rfl, hz8]; decide)
          have HN : Hid (printF h = none) := Lib.hid (by rw [HPF.out _ hf]; rfl)
          go_wp2_with fail
          go_ret2
          exact ⟨by rw [HN.out]; rfl, Lib.hid (K1.out.below (Nat.le_refl _) (fun _ _ h => h))⟩
    · rw [Bool.not_eq_true] at hz8
      go_wp2_with fail
      refine (HH0.out w1).mono ?_
      rintro e wx ⟨rfl, rfl⟩
      rw [hz0]
      go_wp2_with fail
      refine (HH8.out wx).mono ?_
      rintro e w1 ⟨rfl, rfl⟩
      rw [hz8]
      by_cases l0 : h.name.length > 100
      · have l0' : (h.name.length : Int) > 100 := by omega
        have hf : fitAll h = false := by
          cases hx : fitAll h with
          | false => rfl
          | true => exact absurd (HF0.out hx).1 (by change ¬ h.name.length ≤ 100; omega)
        have HN : Hid (printF h = none) := Lib.hid (by rw [HPF.out _ hf]; rfl)
        go_wp2_with fail
        go_ret2
        exact ⟨by rw [HN.out]; rfl, Lib.hid (K1.out.below (Nat.le_refl _) (fun _ _ h => h))⟩
      · have l0' : ¬ (h.name.length : Int) > 100 := by omega
        by_cases l8 : h.link.length > 100
        · have l8' : (h.link.length : Int) > 100 := by omega
          have hf : fitAll h = false := by
            cases hx : fitAll h with
            | false => rfl
            | true => exact absurd (HF8.out hx).1 (by change ¬ h.link.length ≤ 100; omega)
          have HN : Hid (printF h = none) := Lib.hid (by rw [HPF.out _ hf]; rfl)
          go_wp2_with fail
          go_ret2
          exact ⟨by rw [HN.out]; rfl, Lib.hid (K1.out.below (Nat.le_refl _) (fun _ _ h => h))⟩
        · have l8' : ¬ (h.link.length : Int) > 100 := by omega
          have D0 : Hid (datOf (tellTx h) (tellNm h) 0 = h.name) := Lib.hid (by unfold datOf; rw [if_neg (by decide)]; exact List.take_of_length_le (by change h.name.length ≤ 100; omega))
          have D8 : Hid (datOf (tellTx h) (tellNm h) 8 = h.link) := Lib.hid (by unfold datOf; rw [if_neg (by decide)]; exact List.take_of_length_le (by change h.link.length ≤ 100; omega))
          have HL := Lib.hid (show h.name.length ≤ 100 ∧ h.link.length ≤ 100 from ⟨by omega, by omega⟩)
          have HTX := Lib.hid (show (h.name.contains 0 = false) ∧ (h.link.contains 0 = false) from ⟨hz0, hz8⟩)
          have hmk := HMK.out
          go_upto_region 5 with fail
          clear hmk HMK l0 l8 l0' l8' hz0 hz8
          have Y2 : Hid (BytesAt (w1.alloc (Obj.cells Z.toArray 5)) (some ⟨w1.heap.size, 0, none⟩) 512 512 (List.replicate 512 0)) := Lib.hid (zeros_at w1 Z HZ.out)
          have R2 : Hid (Row (w1.alloc (Obj.cells Z.toArray 5)) w.heap.size 57 _) := Lib.hid ((kept_alloc _ _).row R1.out (fun h => h))
          have K2 := Lib.hid (kept_trans K1.out (kept_alloc w1 (Obj.cells Z.toArray 5)))
          clear R1 K1 c0 c1 c2 c3 c4 c5 c6 c7 c8 c9
          generalize w1.alloc _ = w2 at Y2 R2 K2 ⊢
          generalize w1.heap.size = g5 at Y2 ⊢
          obtain ⟨cn, wn, hcv, CV⟩ := conv_str w2 h.name
          rw [HS.out.1] at hcv
          have Y3 := Lib.hid (Y2.out.below CV.below)
          have R3 := Lib.hid (R2.out.below CV.below R2.out.lt)
          have K3 := Lib.hid (kept_trans K2.out (kept_below CV.below))
          have HCV := Lib.hid CV.at_
          have c0 := R2.out.cell (i := 0) rfl
          clear Y2 CV K2
          go_wp2_with fail
          refine (rlay_any wn g5 0 512 (List.replicate 512 0) Y3.out (by decide) 0 (some ⟨w2.heap.size, 0, none⟩) h.name.length cn h.name HCV.out (fun e => by cases e) (by have := HL.out.1; omega)).mono ?_
          rintro e w4 ⟨⟨b4, o4, k4, rfl, Y4, M4⟩, K4⟩
          rw [← D0.out] at Y4
          change Hid (BytesAt w4 _ 512 k4 (rl h 0)) at Y4
          have R4 := Lib.hid (R3.out.below K4.out R3.out.lt)
          have KK4 := Lib.hid (kept_trans K3.out (kept_below K4.out))
          clear hcv Y3 R3 K3 HCV K4 c0 R2
          -- the three rows of seven
          go_upto_region 7 with ((with_reducible refine store_all ?_ 83 (.tmp 6) (.tmp 41) ?_ w4.heap.size (numL atF) ?_ ?_ (numL fun _ => 0) ?_ ?_ ?_ ?_ ?_); rfl; rfl; go_must (rfl; rfl; rfl; exact Row.at_ _ _ _ rfl rfl; exact info49 (numL_len _); exact numL_one _; intro w5 R5 K5 E5))
          have L5 := Lib.hid (kept_stored K5.out)
          have H5 := Lib.hid (L5.out.row R4.out (fun h => h))
          have Y5 := Lib.hid (Y4.out.kept L5.out (fun _ _ _ _ h => h))
          have KK5 := Lib.hid (kept_trans KK4.out L5.out)
          clear K5 E5 R4 Y4 KK4 L5
          generalize w4.heap.size = ga at R5 ⊢
          go_upto_region 8 with ((with_reducible refine store_all ?_ 83 (.tmp 7) (.tmp 42) ?_ w5.heap.size (numL szF) ?_ ?_ (numL fun _ => 0) ?_ ?_ ?_ ?_ ?_); rfl; rfl; go_must (rfl; rfl; rfl; exact Row.at_ _ _ _ rfl rfl; exact info49 (numL_len _); exact numL_one _; intro w6 R6 K6 E6))
          have L6 := Lib.hid (kept_stored K6.out)
          have H6 := Lib.hid (L6.out.row H5.out (fun h => h))
          have RA6 := Lib.hid (L6.out.row R5.out (fun h => h))
          have Y6 := Lib.hid (Y5.out.kept L6.out (fun _ _ _ _ h => h))
          have KK6 := Lib.hid (kept_trans KK5.out L6.out)
          clear K6 E6 H5 R5 Y5 KK5 L6
          generalize w5.heap.size = gs at R6 ⊢
          have c1 := H6.out.cell (i := 1) rfl
          have c2 := H6.out.cell (i := 2) rfl
          have c3 := H6.out.cell (i := 3) rfl
          have c4 := H6.out.cell (i := 4) rfl
          have c5 := H6.out.cell (i := 5) rfl
          have c8 := H6.out.cell (i := 8) rfl
          have c9 := H6.out.cell (i := 9) rfl
          go_upto_region 9 with ((with_reducible refine store_all ?_ 83 (.tmp 8) (.tmp 57) ?_ w6.heap.size (numL fun i => tellNm h (ix i)) ?_ ?_ (numL fun _ => 0) ?_ ?_ ?_ ?_ ?_); rfl; rfl; go_must (rfl; rfl; rfl; exact Row.at_ _ _ _ rfl rfl; exact info49 (numL_len _); exact numL_one _; intro w7 R7 K7 E7))
          have L7 := Lib.hid (kept_stored K7.out)
          have RP := Lib.hid (show RpAt w w7 ga gs w6.heap.size _ (fun i => tellNm h (ix i)) from ⟨L7.out.row H6.out (fun h => h), L7.out.row RA6.out (fun h => h), L7.out.row R6.out (fun h => h), R7.out, kept_trans KK6.out L7.out⟩)
          have Y7 := Lib.hid (Y6.out.kept L7.out (fun _ _ _ _ h => h))
          clear K7 E7 H6 RA6 R6 Y6 KK6 L7 R7 c1 c2 c3 c4 c5 c8 c9
          generalize w6.heap.size = g at RP ⊢
          go_wp2_with fail
          go_loopw [5, 9] (fun s5 i wr => ∃ (k b o c : Nat), k ≤ 7 ∧ i = .int .i64 k ∧ s5 = .slice (some ⟨b, o, none⟩) 512 c ∧ Hid (c ≤ maxLen) ∧ Hid (BytesAt wr (some ⟨b, o, none⟩) 512 c (rl h k)) ∧ Hid (RpAt w wr ga gs g [Value.string S0, .int .i64 h.mode, .int .i64 h.uid, .int .i64 h.gid, .int .i64 h.size, .int .i64 h.mtime, .int .u8 (n8 h.typ), .string S8, .int .i64 h.major, .int .i64 h.minor] (fun i => tellNm h (ix i))) ∧ Hid (∀ j, j < k → (writeZ (tellNm h (ix j)) (ct (ix j))).isSome = true)) (fun _ i _ => 7 - (intOf i).toNat)
          case atStart => exact ⟨0, b4, o4, k4, Nat.zero_le _, rfl, rfl, M4, Y7, RP, Lib.hid (fun j hj => absurd hj (Nat.not_lt_zero _))⟩
          case round =>
            clear RP Y7 M4
            obtain ⟨k, b, o, c, hk, rfl, rfl, HM, HY, HP, HO⟩ := hrel
            by_cases hlt : k < 7
            · have hlt' : (k : Int) < 7 := by omega
              have hix := ix_lt k hlt
              have hfr := fr_in (ix k) hix.1
              have hct := ct_le (ix k) hix.1
              have ca : wr.cell? ⟨ga, k, none⟩ = some (.int .i64 ((fr (ix k) : Nat) : Int)) := HP.out.at_.cell (numL_get _ hlt)
              have cs : wr.cell? ⟨gs, k, none⟩ = some (.int .i64 ((ct (ix k) : Nat) : Int)) := HP.out.sz.cell (numL_get _ hlt)
              have cn : wr.cell? ⟨g, k, none⟩ = some (.int .i64 (tellNm h (ix k))) := HP.out.nums.cell (numL_get _ hlt)
              have hdat : datOf (tellTx h) (tellNm h) (ix k) = (writeZ (tellNm h (ix k)) (ct (ix k))).getD [] := by unfold datOf; rw [if_pos hix.2]
              have hlen := dat_len (tellTx h) (tellNm h) (ix k)
              rw [hdat] at hlen
              have hrl : rl h (k + 1) = lay (fr (ix k)) ((writeZ (tellNm h (ix k)) (ct (ix k))).getD []) (rl h k) := by rw [rl, hdat]
              have HRL := Lib.hid hrl
              have HIX := Lib.hid hix
              clear hrl hdat hix
              have HWR := Lib.hid (fun W => rwrite_is W (tellNm h (ix k)) (ct (ix k)) _ rfl)
              go_upto_region 12 with fail
              have HB := Lib.hid (show Kept wr wr.drew (fun _ => False) from (Kept.refl wr _).drewN 1)
              have HCN := Lib.hid (fun (v : World) (hv : Kept wr v (fun _ => False)) => And.intro (hv.cell cn (fun h => h)) (hv.cell cs (fun h => h)))
              refine wp_region_held (S := fun v => Kept wr v (fun _ => False)) (by kernel_rfl) ?_
              change wpAnyH _ _ _ _ _ _ _ _ (World.drew _)
              have P2 := Lib.hid (HP.out.below (below_drewN (Below.refl _ _) 1 : Below wr.heap.size wr (wr.drewN 1)))
              change Hid (RpAt w wr.drew ga gs g _ _) at P2
              have Y2 := Lib.hid (HY.out.kept HB.out (fun _ _ _ _ h => h))
              generalize wr.drew = w8 at HB P2 Y2 ⊢
              clear ca
              refine wpAnyH_take (i := 0) (v := .int .i64 (k : Nat)) rfl (by kernel_rfl) (by kernel_rfl) (by kernel_rfl) (fun _ _ _ h => h) (Or.inl ⟨by rfl, fun v hv => by first | rfl | kernel_rfl⟩) HB.out ?_
              simp only [List.getElem_toArray, List.getElem_cons_zero, Act.put, List.setIfInBounds_toArray, List.set_cons_zero, List.set_cons_succ]
              refine wpAnyH_take (i := 1) (v := .pointer (some ⟨g, k, none⟩)) rfl (by kernel_rfl) (by kernel_rfl) (by kernel_rfl) (fun _ _ _ h => h) (Or.inl ⟨by rfl, fun v hv => by (go_simp <;> with_reducible rfl)⟩) HB.out ?_
              simp only [List.getElem_toArray, List.getElem_cons_succ, List.getElem_cons_zero, Act.put, List.setIfInBounds_toArray, List.set_cons_zero, List.set_cons_succ]
              refine wpAnyH_take (i := 2) (v := .int .i64 (tellNm h (ix k))) rfl (by kernel_rfl) (by kernel_rfl) (by kernel_rfl) (fun _ _ _ h => h) (Or.inl ⟨by rfl, fun v hv => by (have h3 := HCN.out v hv; have q0 := h3.1; clear h3; go_simp <;> with_reducible rfl)⟩) HB.out ?_
              simp only [List.getElem_toArray, List.getElem_cons_succ, List.getElem_cons_zero, Act.put, List.setIfInBounds_toArray, List.set_cons_zero, List.set_cons_succ]
              refine wpAnyH_take (i := 3) (v := .int .i64 (k : Nat)) rfl (by kernel_rfl) (by kernel_rfl) (by kernel_rfl) (fun _ _ _ h => h) (Or.inl ⟨by rfl, fun v hv => by first | rfl | kernel_rfl⟩) HB.out ?_
              simp only [List.getElem_toArray, List.getElem_cons_succ, List.getElem_cons_zero, Act.put, List.setIfInBounds_toArray, List.set_cons_zero, List.set_cons_succ]
              refine wpAnyH_take (i := 4) (v := .pointer (some ⟨gs, k, none⟩)) rfl (by kernel_rfl) (by kernel_rfl) (by kernel_rfl) (fun _ _ _ h => h) (Or.inl ⟨by rfl, fun v hv => by (go_simp <;> with_reducible rfl)⟩) HB.out ?_
              simp only [List.getElem_toArray, List.getElem_cons_succ, List.getElem_cons_zero, Act.put, List.setIfInBounds_toArray, List.set_cons_zero, List.set_cons_succ]
              refine wpAnyH_take (i := 5) (v := .int .i64 (ct (ix k) : Nat)) rfl (by kernel_rfl) (by kernel_rfl) (by kernel_rfl) (fun _ _ _ h => h) (Or.inl ⟨by rfl, fun v hv => by (have h3 := HCN.out v hv; have q0 := h3.2; clear h3; go_simp <;> with_reducible rfl)⟩) HB.out ?_
              simp only [List.getElem_toArray, List.getElem_cons_succ, List.getElem_cons_zero, Act.put, List.setIfInBounds_toArray, List.set_cons_zero, List.set_cons_succ]
              obtain ⟨X, hX⟩ : ∃ X, X = (writeZ (tellNm h (ix k)) (ct (ix k))).getD [] := ⟨_, rfl⟩
              obtain ⟨ok, hok⟩ : ∃ ok, ok = (writeZ (tellNm h (ix k)) (ct (ix k))).isSome := ⟨_, rfl⟩
              have HWX := Lib.hid (And.intro hX hok)
              have hw8 := HWR.out w8
              rw [← hX, ← hok] at hw8
              have HW8 := Lib.hid hw8
              rw [← hX] at hlen HRL
              clear hX hok hw8 HWR
              refine wpAnyH_ready (rs := [6]) (by kernel_rfl) (by simp) ?_
              refine AllReadyH.cons rfl (fun K hK => ?_) AllReadyH.nil
              rw [if_pos (by rfl)]
              refine wp_enterP 27 #[.int .i64 (tellNm h (ix k)), .int .i64 (ct (ix k) : Nat)] (by first | rfl | kernel_rfl) (HW8.out) ?_
              rintro e w9 ⟨⟨A, cx, rfl, YX, _, HAX⟩, K9⟩
              have HB := Lib.hid (kept_trans HB.out (kept_below K9.out))
              have P9 := Lib.hid (P2.out.below K9.out)
              have Y9 := Lib.hid (Y2.out.below K9.out)
              clear P2 Y2 K9
              refine ⟨_, rfl, ?_⟩
              refine hK _ _ HB.out (fun _ => ?_)
              clear hK K
              simp only [List.getElem_toArray, List.getElem_cons_succ, List.getElem_cons_zero, Act.put, List.setIfInBounds_toArray, List.set_cons_zero, List.set_cons_succ]
              refine wpAnyH_take (i := 7) (v := .tuple #[.slice A X.length cx, .bool ok]) rfl (by kernel_rfl) (by kernel_rfl) (by kernel_rfl) (fun _ _ _ h => h) (Or.inl ⟨by rfl, fun v hv => by first | rfl | kernel_rfl⟩) HB.out ?_
              simp only [List.getElem_toArray, List.getElem_cons_succ, List.getElem_cons_zero, Act.put, List.setIfInBounds_toArray, List.set_cons_zero, List.set_cons_succ]
              refine wpAnyH_take (i := 8) (v := .slice A X.length cx) rfl (by kernel_rfl) (by kernel_rfl) (by kernel_rfl) (fun _ _ _ h => h) (Or.inl ⟨by rfl, fun v hv => by first | rfl | kernel_rfl⟩) HB.out ?_
              simp only [List.getElem_toArray, List.getElem_cons_succ, List.getElem_cons_zero, Act.put, List.setIfInBounds_toArray, List.set_cons_zero, List.set_cons_succ]
              refine wpAnyH_take (i := 9) (v := .bool ok) rfl (by kernel_rfl) (by kernel_rfl) (by kernel_rfl) (fun _ _ _ h => h) (Or.inl ⟨by rfl, fun v hv => by first | rfl | kernel_rfl⟩) HB.out ?_
              simp only [List.getElem_toArray, List.getElem_cons_succ, List.getElem_cons_zero, Act.put, List.setIfInBounds_toArray, List.set_cons_zero, List.set_cons_succ]
              refine wpAnyH_take (i := 10) (v := .slice A X.length cx) rfl (by kernel_rfl) (by kernel_rfl) (by kernel_rfl) (fun _ _ _ h => h) (Or.inl ⟨by rfl, fun v hv => by first | rfl | kernel_rfl⟩) HB.out ?_
              simp only [List.getElem_toArray, List.getElem_cons_succ, List.getElem_cons_zero, Act.put, List.setIfInBounds_toArray, List.set_cons_zero, List.set_cons_succ]
              refine wpAnyH_take (i := 11) (v := .bool ok) rfl (by kernel_rfl) (by kernel_rfl) (by kernel_rfl) (fun _ _ _ h => h) (Or.inl ⟨by rfl, fun v hv => by first | rfl | kernel_rfl⟩) HB.out ?_
              simp only [List.getElem_toArray, List.getElem_cons_succ, List.getElem_cons_zero, Act.put, List.setIfInBounds_toArray, List.set_cons_zero, List.set_cons_succ]
              refine wpAnyH_done (by kernel_rfl) ?_ _
              clear HB HCN cn cs HW8
              cases ok with
              | false =>
                have hf : fitAll h = false := by
                  cases hx : fitAll h with
                  | false => rfl
                  | true => exact (by obtain ⟨bb, hbb⟩ := fit_num hx HIX.out.1 HIX.out.2; have h9 := HWX.out.2; rw [hbb] at h9; exact Bool.noConfusion (show false = true from h9))
                have HN : Hid (printF h = none) := Lib.hid (by rw [HPF.out _ hf]; rfl)
                go_wp2_with fail
                go_ret2
                exact ⟨by rw [HN.out]; rfl, Lib.hid (P9.out.kept.below (Nat.le_refl _) (fun _ _ h => h))⟩
              | true =>
                have ca := P9.out.at_.cell (numL_get atF hlt)
                change w9.cell? _ = some (.int .i64 ((fr (ix k) : Nat) : Int)) at ca
                go_wp2_with fail
                refine (rlay_any w9 b o c (rl h k) Y9.out HM.out (fr (ix k)) A X.length cx X YX.out HAX.out (by omega)).mono ?_
                rintro e w10 ⟨⟨b1, o1, c1, rfl, Y10, M10⟩, K10⟩
                rw [← HRL.out] at Y10
                have P10 := Lib.hid (P9.out.below K10.out)
                clear P9 Y9 YX HAX K10 ca HRL
                go_wp2_with fail
                go_roundw
                case rel => exact ⟨k + 1, b1, o1, c1, by omega, by go_num, rfl, M10, Y10, P10, Lib.hid (fun j hj => by
                  rcases Nat.lt_or_eq_of_le (Nat.lt_succ_iff.1 hj) with h | h
                  · exact HO.out j h
                  · rw [h]; exact HWX.out.2.symm)⟩
                case measure => simp [intOf] <;> omega
            · obtain rfl : k = 7 := by omega
              have hfit : fitAll h = true := by
                rw [fitAll_iff]
                have num : ∀ j, j < 7 → fitOf (tellTx h) (tellNm h) (ix j) = true := fun j hj => by
                  unfold fitOf
                  rw [(ix_lt j hj).2]
                  exact HO.out j hj
                have txt : ∀ t : List UInt8, t.length ≤ 100 → t.contains 0 = false → (decide (t.length ≤ 100) && !t.contains 0) = true := fun t h1 h2 => by rw [decide_eq_true h1, h2]; rfl
                have six : (writeZ 0 8).isSome = true := by decide +kernel
                intro j hj
                match j, hj with
                | 0, _ => exact txt h.name HL.out.1 HTX.out.1
                | 1, _ => exact num 0 (by decide)
                | 2, _ => exact num 1 (by decide)
                | 3, _ => exact num 2 (by decide)
                | 4, _ => exact num 3 (by decide)
                | 5, _ => exact num 4 (by decide)
                | 6, _ => exact six
                | 7, _ => rfl
                | 8, _ => exact txt h.link HL.out.2 HTX.out.2
                | 9, _ => rfl
                | 10, _ => exact num 5 (by decide)
                | 11, _ => exact num 6 (by decide)
                | 12, _ => rfl
              have HN : Hid (printF h = some (sealB (bodyOf h))) := Lib.hid (by rw [HPF.out _ hfit]; rfl)
              clear hfit HPF HO
              have c6 := HP.out.hd.cell (i := 6) rfl
              have kc := fun (W : World) (C : Array Value) (n c : Nat) => Lib.run_convert_bytes_const (P := Tryz.prog) W 31 5 C n c Tryz.underlying31 Tryz.underlying5
              go_upto_region 16 with fail
              have YT : Hid (BytesAt (wr.alloc (Obj.cells #[Value.int .u8 (n8 h.typ)] 5)) (some ⟨wr.heap.size, 0, none⟩) 1 1 [h.typ]) := Lib.hid (BytesAt.const wr [h.typ] _ _ rfl rfl)
              have PA := Lib.hid (HP.out.below ((Below.refl _ _).alloc (Nat.le_refl _) (Obj.cells #[Value.int .u8 (n8 h.typ)] 5)))
              have YA := Lib.hid (HY.out.kept (kept_alloc wr (Obj.cells #[Value.int .u8 (n8 h.typ)] 5)) (fun _ _ _ _ h => h))
              go_wp2_with fail
              refine (rlay_any _ b o c (rl h 7) YA.out HM.out 156 (some ⟨wr.heap.size, 0, none⟩) 1 1 [h.typ] YT.out (fun e => by cases e) (by decide)).mono ?_
              rintro e w11 ⟨⟨b2, o2, k2, rfl, Y11, M11⟩, K11⟩
              have P11 := Lib.hid (PA.out.below K11.out)
              clear YT PA YA K11 c6 HP HY
              obtain ⟨cn, wn, hcv, CV⟩ := conv_str w11 h.link
              rw [HS.out.2] at hcv
              have P12 := Lib.hid (P11.out.below CV.below)
              have Y12 := Lib.hid (Y11.out.below CV.below)
              have HCV := Lib.hid CV.at_
              have c7 := P11.out.hd.cell (i := 7) rfl
              go_wp2_with fail
              refine (rlay_any wn b2 o2 k2 _ Y12.out M11.out 157 (some ⟨w11.heap.size, 0, none⟩) h.link.length cn h.link HCV.out (fun e => by cases e) (by have := HL.out.2; omega)).mono ?_
              rintro e w13 ⟨⟨b3, o3, k3, rfl, Y13, M13⟩, K13⟩
              have KA13 := Lib.hid (kept_trans P12.out.kept (kept_below K13.out))
              clear hcv CV P11 Y11 P12 Y12 HCV c7 K13
              have YU : Hid (BytesAt (w13.alloc (Obj.cells #[Value.int .u8 117, Value.int .u8 115, Value.int .u8 116, Value.int .u8 97, Value.int .u8 114, Value.int .u8 0, Value.int .u8 48, Value.int .u8 48] 5 (8, 9))) (some ⟨w13.heap.size, 0, none⟩) 8 8 ustar) := Lib.hid (BytesAt.const w13 ustar _ _ rfl rfl)
              have YA := Lib.hid (Y13.out.kept (kept_alloc w13 (Obj.cells #[Value.int .u8 117, Value.int .u8 115, Value.int .u8 116, Value.int .u8 97, Value.int .u8 114, Value.int .u8 0, Value.int .u8 48, Value.int .u8 48] 5 (8, 9))) (fun _ _ _ _ h => h))
              have KA := Lib.hid (kept_trans KA13.out (kept_alloc w13 (Obj.cells #[Value.int .u8 117, Value.int .u8 115, Value.int .u8 116, Value.int .u8 97, Value.int .u8 114, Value.int .u8 0, Value.int .u8 48, Value.int .u8 48] 5 (8, 9))))
              go_wp2_with fail
              refine (rlay_any _ b3 o3 k3 _ YA.out M13.out 257 (some ⟨w13.heap.size, 0, none⟩) 8 8 ustar YU.out (fun e => by cases e) (by decide)).mono ?_
              rintro e w14 ⟨⟨b4, o4, k4, rfl, Y14, M14⟩, K14⟩
              have KB := Lib.hid (kept_trans KA.out (kept_below K14.out))
              clear kc YU YA KA K14 Y13 KA13
              obtain ⟨X, hX, hXL, hXS⟩ : ∃ X, lay 257 ustar (lay 157 h.link (lay 156 [h.typ] (rl h 7))) = X ∧ X.length = 512 ∧ sealB X = sealB (bodyOf h) := ⟨refX h, by rw [← rl_X, D8.out]; rfl, refX_length h, ref_same h⟩
              rw [hX] at Y14
              have HXS := Lib.hid (And.intro hXL (And.intro hXS (sum7_len hXL)))
              have H77 := Lib.hid (show (writeZ (checkF X) 7).getD [] = sum7 X from rfl)
              clear hX hXL hXS
              go_wp2_with fail
              refine (rcheck_any w14 (some ⟨b4, o4, none⟩) 512 k4 X Y14.out (by decide)).mono ?_
              rintro e w15 ⟨rfl, rfl⟩
              go_wp2_with fail
              refine (rwrite_is w15 (checkF X) 7 _ rfl).mono ?_
              rintro e w16 ⟨⟨A5, c5, rfl, Y5, _, HA5⟩, K16⟩
              rw [H77.out, HXS.out.2.2] at Y5 ⊢
              have Y16 := Lib.hid (Y14.out.below K16.out)
              have KC := Lib.hid (kept_trans KB.out (kept_below K16.out))
              clear H77 K16 KB Y14
              go_wp2_with fail
              refine (rlay_any w16 b4 o4 k4 X Y16.out M14.out 148 A5 7 c5 (sum7 X) Y5.out HA5.out (by decide)).mono ?_
              rintro e w17 ⟨⟨b6, o6, k6, rfl, Y17, M17⟩, K17⟩
              have KD := Lib.hid (kept_trans KC.out (kept_below K17.out))
              clear KC K17 Y5 HA5 Y16
              have YU : Hid (BytesAt (w17.alloc (Obj.cells #[Value.int .u8 32] 5)) (some ⟨w17.heap.size, 0, none⟩) 1 1 [32]) := Lib.hid (BytesAt.const w17 [32] _ _ rfl rfl)
              have YA := Lib.hid (Y17.out.kept (kept_alloc w17 (Obj.cells #[Value.int .u8 32] 5)) (fun _ _ _ _ h => h))
              have KE := Lib.hid (kept_trans KD.out (kept_alloc w17 (Obj.cells #[Value.int .u8 32] 5)))
              go_wp2_with fail
              refine (rlay_own _ b6 o6 k6 _ YA.out M17.out 155 (some ⟨w17.heap.size, 0, none⟩) 1 1 [32] YU.out (fun e => by cases e) (by decide)).mono ?_
              rintro e w18 ⟨⟨b7, o7, k7, rfl, Y18, M18, W18⟩, K18⟩
              have KF := Lib.hid (kept_trans KE.out (kept_below K18.out))
              change Hid (BytesAt w18 _ 512 k7 (sealB X)) at Y18
              rw [HXS.out.2.1] at Y18
              change Hid (OwnBytes w18 _ _ (sealB X)) at W18
              rw [HXS.out.2.1] at W18
              clear YU YA K18 Y17 KD
              go_wp2_with fail
              go_ret2
              refine ⟨?_, Lib.hid (KF.out.below (Nat.le_refl _) (fun _ _ h => h))⟩
              rw [HN.out]
              exact ⟨_, _, rfl, Y18.out, W18.out.less KE.out.size⟩
end Go.Proofs.YtpgaejalkbpbhaaGreatDoor
