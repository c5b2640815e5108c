/-
  The reference's has, lay; the bytes of a string.
-/
import Derived.Test.YthakeahpaogikaaDoorHdLay
import Derived.Test.YthakeahpaogikaaDoorOcRWrite
import Derived.Lib.ConvBytes
namespace Go.Proofs.YthakeahpaogikaaDoor
open Go.RowKit Sh Oc Hd

theorem kept_conv (w : World) (e : TypeId) (s : ByteArray) : Below w.heap.size w (Lib.bytesWorld w e s) :=
  ⟨rfl, rfl, rfl, by rw [Lib.bytesWorld_size]; omega, fun k hk => Lib.bytesWorld_at_old w e s k hk⟩
/-- The bytes of a string, as a slice of their own. -/
structure CvAt (w w' : World) (s : List UInt8) (c : Nat) : Prop where
  at_ : BytesAt w' (some ⟨w.heap.size, 0, none⟩) s.length c s
  below : Below w.heap.size w w'
theorem conv_str (w : World) (s : List UInt8) : ∃ c w', (convert 9 22 (strV s)).run Tryd.prog w = .ok (.slice (some ⟨w.heap.size, 0, none⟩) s.length c) w' ∧ CvAt w w' s c := by
  have h := Lib.run_convert_string_bytes (P := Tryd.prog) w 9 22 5 ⟨s.toArray⟩ Tryd.underlying9 Tryd.underlying22 Tryd.underlying5
  have e : (⟨s.toArray⟩ : ByteArray).size = s.length := rfl
  rw [e] at h
  refine ⟨_, _, h, ⟨rfl, ?_, fun hn => ⟨w.heap.size, 0, rfl, by rw [Lib.bytesWorld_size]; omega, fun j v hj => ?_⟩⟩, kept_conv _ _ _⟩
  · have := grownCap_ge w s.length 0 5
    exact this
  · have hjl : j < s.length := by simpa using (List.getElem?_eq_some_iff.1 hj).1
    rw [Nat.zero_add, Lib.bytesWorld_cell w 5 ⟨s.toArray⟩ j (by rw [e]; exact hjl), ← hj]
    simp [hjl, v8, n8, List.getD]

theorem str_size {s : List UInt8} {S : ByteArray} (h : strV s = .string S) : S.size = s.length := by
  have e : S = ⟨s.toArray⟩ := by
    have := h.symm
    simpa [strV] using this
  rw [e]; rfl
theorem str_index {s : List UInt8} {S : ByteArray} (h : strV s = .string S) (j : Nat) (hj : j < s.length) (W : World) : (Instr.index 9 (.string S) (.int .i64 (j : Int))).run Tryd.prog W = .ok (.int .u8 (n8 s[j])) W := by
  have e : S = ⟨s.toArray⟩ := by
    have := h.symm
    simpa [strV] using this
  subst e
  have hs : (⟨s.toArray⟩ : ByteArray)[j]? = some s[j] := by
    rw [getElem?_pos (⟨s.toArray⟩ : ByteArray) j (by exact hj)]
    rfl
  simp [Instr.index, run_underlying Tryd.underlying9, asIntOf, hs, n8]
def hasF (s : List UInt8) : Bool := s.contains 0
set_option maxRecDepth 100000 in
set_option maxHeartbeats 1000000 in
theorem has_any (w : World) (s : List UInt8) (hl : s.length ≤ 140737488351232) (S : ByteArray) (hS : strV s = .string S) :
    Calls Tryd.prog 30 #[.string S] w fun e w' => e = .returned (.bool (hasF s)) ∧ w' = w := by
  have hsz := str_size hS
  have HS := Lib.hid hS
  clear hS
  go_enter Tryd.func30, Tryd.ntmps30
  go_wp2_with fail
  go_loopw [3] (fun i wr => ∃ j : Nat, j ≤ s.length ∧ i = .int .i64 j ∧ Hid ((s.take j).contains 0 = false) ∧ wr = w) (fun i _ => s.length - (intOf i).toNat)
  case atStart => exact ⟨0, Nat.zero_le _, rfl, Lib.hid rfl, rfl⟩
  case round =>
    obtain ⟨j, hj, rfl, ho, rfl⟩ := hrel
    by_cases hlt : j < s.length
    · have hix := str_index HS.out j hlt
      have hs := take_snoc (bs := s) (j := j) hlt
      have HM := Lib.hid (show s[j] ∈ s from List.getElem_mem _)
      have HX := Lib.hid (show n8 s[j] ≠ 0 → (s.take (j + 1)).contains 0 = false from fun h => by
        rw [hs]
        cases hc : (s.take j ++ [s[j]]).contains 0 with
        | false => rfl
        | true =>
          rcases List.mem_append.1 (List.contains_iff_mem.1 hc) with h2 | h2
          · have := List.contains_iff_mem.2 h2
            rw [ho.out] at this
            cases this
          · have h3 : s[j] = 0 := (List.mem_singleton.1 h2).symm
            exact absurd (by rw [h3]; rfl) h)
      have HN := Lib.hid (show n8 s[j] = 0 → hasF s = true from fun h => List.contains_iff_mem.2 (by rw [← n8_zero h]; exact HM.out))
      clear hs HM
      generalize n8 s[j] = d at *
      have hlt' : (j : Int) < (s.length : Int) := by omega
      by_cases h1 : d = 0
      · subst h1
        go_wp2_with fail
        go_ret
        exact ⟨by rw [HN.out (by simp)]; rfl, rfl⟩
      · go_wp2_with fail
        go_roundw
        case rel => exact ⟨j + 1, by omega, by go_num, Lib.hid (HX.out h1), trivial⟩
        case measure => simp [intOf] <;> omega
    · obtain rfl : j = s.length := by omega
      have hge : ¬ (s.length : Int) < (s.length : Int) := by omega
      have h2 := ho.out
      rw [List.take_length] at h2
      have H2 := Lib.hid (show hasF s = false from h2)
      clear h2
      go_wp2_with fail
      go_ret
      exact ⟨by rw [H2.out]; rfl, rfl⟩

set_option maxRecDepth 100000 in
set_option maxHeartbeats 2000000 in
theorem rlay_any (w : World) (bb bo c : Nat) (bs : List UInt8) (S : BytesAt w (some ⟨bb, bo, none⟩) 512 c bs) (hm : c ≤ maxLen) (p : Nat) (A : Option Addr) (n c2 : Nat) (xs : List UInt8) (X : BytesAt w A n c2 xs) (hA : A = none → c2 = 0) (hp : p + n < 512) :
    Calls Tryd.prog 31 #[.slice (some ⟨bb, bo, none⟩) 512 c, .int .i64 p, .slice A n c2] w fun e w' => (∃ b o c, e = .returned (.slice (some ⟨b, o, none⟩) 512 c) ∧ Hid (BytesAt w' (some ⟨b, o, none⟩) 512 c (lay p xs bs)) ∧ Hid (c ≤ maxLen)) ∧ Hid (Below w.heap.size w w') := by
  have HS := Lib.hid S
  have HX := Lib.hid X
  have HA := Lib.hid hA
  have HM := Lib.hid hm
  have hcap := S.cap
  have hlen := S.len
  have hxl := X.len
  clear S X hA
  unfold maxLen at hm
  have hp1 : (p : Int) ≤ (c : Int) := by omega
  have hp2 : (p : Int) + (n : Int) ≤ 512 := by omega
  have hpc : ¬ c = p + n := by omega
  have hLL : Hid ((lay p xs bs).length = 512) := Lib.hid (by rw [lay_length (by omega), hlen])
  have hLE : Hid (lay p xs bs = bs.take p ++ xs ++ bs.drop (p + n)) := Lib.hid (by rw [lay, hxl, List.append_assoc])
  have HTK := Lib.hid (show (bs.take p).length = p by rw [List.length_take]; omega)
  go_enter Tryd.func31, Tryd.ntmps31
  go_upto_region 2 with ((at_builtin; with_reducible refine append_bytes ?_ (.tmp 8) (.tmp 11) ?_ w.heap.size _ [] ?_ (OwnBytes.row (b := w.heap.size) (Row.at_ _ _ [] rfl rfl) (Nat.le_refl _) (Nat.zero_le _)) (some ⟨bb, bo, none⟩) p c (bs.take p) ?_ ((HS.out.kept (kept_alloc _ _) (fun _ _ _ _ h => h)).take p (by omega)) ?_ ?_ ?_ ?_); rfl; rfl; go_must (rfl; rfl; (intro e; cases e); (rw [List.length_nil]; omega); simp; intro v4 w4 O4 K4))
  rw [List.nil_append] at O4
  have M4 := Lib.hid (kept_own (kept_alloc w _) K4.out (Nat.le_refl _))
  clear K4
  go_upto_region 3 with ((at_builtin; with_reducible refine append_bytes ?_ (.tmp 13) (.tmp 14) ?_ w.heap.size v4 (bs.take p) ?_ O4.out A n c2 xs ?_ (HX.out.kept M4.out (fun _ _ _ _ h => h)) HA.out ?_ ?_ ?_); rfl; rfl; go_must (rfl; rfl; (rw [HTK.out]; omega); exact M4.out.size; intro v5 w5 O5 K5))
  have M5 := Lib.hid (kept_own M4.out K5.out (Nat.le_refl _))
  clear K5 O4 M4
  go_upto_region 4 with ((at_builtin; with_reducible refine append_bytes ?_ (.tmp 16) (.tmp 22) ?_ w.heap.size v5 (bs.take p ++ xs) ?_ O5.out (some ⟨bb, bo + (p + n), none⟩) (512 - (p + n)) (c - (p + n)) (bs.drop (p + n)) ?_ ((HS.out.kept M5.out (fun _ _ _ _ h => h)).drop (p + n) hp) ?_ ?_ ?_ ?_); rfl; rfl; go_must (rfl; rfl; (intro e; cases e); (rw [List.length_append, HTK.out, hxl]; omega); exact M5.out.size; intro v6 w6 O6 K6))
  rw [← hLE.out] at O6
  have M6 := Lib.hid (kept_own M5.out K6.out (Nat.le_refl _))
  obtain ⟨A6, c6, e6, Y6, hc6, _⟩ := O6.out.at2
  rw [hLL.out] at e6 Y6
  obtain ⟨b6, o6, rfl, _, _⟩ := Y6.at_ (by decide)
  subst e6
  go_ret
  exact ⟨⟨_, _, _, rfl, Lib.hid Y6, Lib.hid hc6⟩, Lib.hid (M6.out.below (Nat.le_refl _) (fun _ _ h => h))⟩
end Go.Proofs.YthakeahpaogikaaDoor
