/-
  The laws ShaSums and ShaLong: their walks.
-/
import Derived.Test.YtknfpfhbplmffaaDoorShaSmall
import Derived.Test.YtknfpfhbplmffaaDoorRefSum
namespace Go.Proofs.YtknfpfhbplmffaaDoor
open Go.RowKit Sh

theorem fold_push' (bs : List UInt8) : ∀ r : ByteArray, (bs.map n8).foldl (fun r n => r.push (UInt8.ofNat n.toNat)) r = ⟨r.data ++ bs.toArray⟩ := by
  induction bs with
  | nil => intro r; simp
  | cons x l ih =>
    intro r
    rw [List.map_cons, List.foldl_cons, ih]
    congr 1
    rw [show UInt8.ofNat (n8 x).toNat = x from by rw [n8, Int.toNat_natCast, UInt8.ofNat_toNat]]
    simp [ByteArray.push]
/-- string(b) of a slice that is known, nil let in. -/
theorem conv_bytes (w : World) (A : Option Addr) (n c : Nat) (bs : List UInt8) (S : BytesAt w A n c bs) :
    (convert 22 9 (.slice A n c)).run Tryd.prog w = .ok (.string ⟨bs.toArray⟩) w := by
  rw [run_convert_bytes_string w _ _ _ _ _ _ Tryd.underlying22 Tryd.underlying5 Tryd.underlying9]
  have hlen := S.len
  cases A with
  | none =>
    have hn : n = 0 := by
      rcases Nat.eq_zero_or_pos n with h | h
      · exact h
      · obtain ⟨b, o, e, _⟩ := S.at_ h
        cases e
    subst hn
    have hb : bs = [] := List.eq_nil_of_length_eq_zero hlen
    subst hb
    rfl
  | some ad =>
    subst hlen
    have hl := run_loadCells_list (P := Tryd.prog) w ad (bs.map v8) (fun j v hj => by
      have hjl : j < bs.length := by simpa using (List.getElem?_eq_some_iff.1 hj).1
      obtain ⟨b, o, e, _, hr⟩ := S.at_ (by omega)
      cases e
      rw [Addr.add_mid]
      exact hr j v hj)
    rw [List.length_map] at hl
    have e : bs.map v8 = (bs.map n8).map (Value.int .u8) := by rw [List.map_map]; rfl
    rw [e] at hl
    rw [run_bytesToString w ad bs.length c (bs.map n8) hl, fold_push']
    simp

set_option maxRecDepth 100000 in
set_option maxHeartbeats 1000000 in
theorem sums_many (w : World) (A : Option Addr) (n c : Nat) (hn : 2000 < n) (hm : n ≤ maxLen) (hK : KT w) : Calls Tryd.prog 3 #[.slice A n c] w fun e w' => e = .returned (.bool true) ∧ Below w.heap.size w w' := by
  have HK := Lib.hid hK
  clear hK
  unfold maxLen at hm
  have hn' : (2000 : Int) < (n : Int) := by omega
  go_enter Tryd.func3, Tryd.ntmps3
  go_wp2_with fail
  refine (small_any w HK.out).mono ?_
  rintro e w1 ⟨rfl, hb1⟩
  have HB1 := Lib.hid hb1
  clear hb1
  go_wp2_with fail
  go_ret
  exact ⟨rfl, HB1.out⟩

set_option maxRecDepth 100000 in
set_option maxHeartbeats 1000000 in
theorem sums_few (w : World) (A : Option Addr) (c : Nat) (bs : List UInt8) (hn : bs.length ≤ 2000) (hK : KT w) (S : BytesAt w A bs.length c bs) (hA : A = none → c = 0) : Calls Tryd.prog 3 #[.slice A bs.length c] w fun e w' => e = .returned (.bool true) ∧ Below w.heap.size w w' := by
  have HK := Lib.hid hK
  have HS := Lib.hid S
  have HA := Lib.hid hA
  clear hK S hA
  have hn' : (bs.length : Int) ≤ 2000 := by omega
  go_enter Tryd.func3, Tryd.ntmps3
  go_wp2_with fail
  refine (small_any w HK.out).mono ?_
  rintro e w1 ⟨rfl, hb1⟩
  have C1 := Lib.hid (kept_below hb1)
  have S1 := Lib.hid (HS.out.kept C1.out (fun _ _ _ _ h => h))
  clear hb1
  go_upto_region 5 with ((at_builtin; with_reducible refine append_bytes ?_ (.tmp 10) (.tmp 11) ?_ w1.heap.size _ [] ?_ (OwnBytes.row (b := w1.heap.size) (Row.at_ _ _ [] rfl rfl) (Nat.le_refl _) (Nat.zero_le _)) A bs.length c bs ?_ (S1.out.kept (kept_alloc _ _) (fun _ _ _ _ h => h)) HA.out ?_ ?_ ?_); rfl; rfl; go_must (rfl; rfl; (rw [List.length_nil]; omega); simp; intro v2 w2 O2 K2))
  rw [List.nil_append] at O2
  have C2 := Lib.hid (kept_trans C1.out (show Kept w1 w2 (fun _ => False) from kept_own (kept_alloc w1 _) K2.out (Nat.le_refl _)))
  obtain ⟨A2, c2, rfl, hy2, _, _⟩ := O2.out.bytes
  have Y2 := Lib.hid hy2
  clear K2 hy2
  go_wp2_with fail
  refine (sum_any w2 A2 bs.length c2 bs (HK.out.kept C2.out (fun h => h)) Y2.out (by omega)).mono ?_
  rintro e w3 ⟨rfl, hb3⟩
  have C3 := Lib.hid (kept_trans C2.out (kept_below hb3))
  have Y3 := Lib.hid (Y2.out.below hb3)
  clear hb3
  go_wp2_with fail
  refine (refsum_any w3 A c bs (HS.out.kept C3.out (fun _ _ _ _ h => h)) HA.out (by omega)).mono ?_
  rintro e w4 ⟨rfl, hb4⟩
  have C4 := Lib.hid (kept_trans C3.out (kept_below hb4))
  have hq1 := conv_bytes w4 A2 bs.length c2 bs (Y3.out.below hb4)
  have hq2 := conv_bytes w4 A bs.length c bs (HS.out.kept C4.out (fun _ _ _ _ h => h))
  clear hb4
  have q0 := eq_digest bs
  generalize (digest bs).map v8 = G at *
  go_wp2_with fail
  go_ret
  exact ⟨rfl, C4.out.below (Nat.le_refl _) (fun _ _ h => h)⟩
theorem sums_all (w : World) (A : Option Addr) (c : Nat) (bs : List UInt8) (hm : bs.length ≤ maxLen) (hK : KT w) (S : BytesAt w A bs.length c bs) (hA : A = none → c = 0) : Calls Tryd.prog 3 #[.slice A bs.length c] w fun e w' => e = .returned (.bool true) ∧ Below w.heap.size w w' := by
  by_cases h : bs.length ≤ 2000
  · exact sums_few w A c bs h hK S hA
  · exact sums_many w A bs.length c (by omega) hm hK

theorem make_long (k : Nat) (hk : k ≤ 700) (W : World) : (Instr.makeSlice 22 (.int .i64 (k : Int)) (.int .i64 (k : Int))).run Tryd.prog W = .ok (.slice (some ⟨W.heap.size, 0, none⟩) k k) (W.alloc (.cells ((List.replicate k 0).map v8).toArray 5)) := by
  rw [run_make_row' _ _ _ _ Tryd.underlying22 infoU8 rfl .i64 .i64 k (by omega) (by omega), madeCells_one, List.map_replicate]
  rfl
/-- n bytes x, zeros behind. -/
def longZ (n : Nat) (x : UInt8) (j : Nat) : List UInt8 := List.replicate j x ++ List.replicate (n - j) 0
theorem longZ_length (n : Nat) (x : UInt8) (j : Nat) (h : j ≤ n) : (longZ n x j).length = n := by simp [longZ]; omega
theorem longZ_set (n : Nat) (x : UInt8) (j : Nat) (h : j < n) : (longZ n x j).set j x = longZ n x (j + 1) := by
  unfold longZ
  rw [List.set_append_right _ _ (by simp), List.length_replicate, Nat.sub_self, show n - j = (n - (j + 1)) + 1 by omega, List.replicate_succ, List.set_cons_zero, List.replicate_succ' (n := j)]
  simp
structure LongAt (w wr : World) (n : Nat) (x : UInt8) (g j : Nat) : Prop where
  row : Row wr g 5 ((longZ n x j).map v8)
  kept : Kept w wr (fun _ => False)
  new : w.heap.size ≤ g
set_option maxRecDepth 100000 in
set_option maxHeartbeats 1000000 in
theorem long_all (w : World) (n : Int) (hlo : -9223372036854775808 ≤ n) (hhi : n ≤ 9223372036854775807) (x : UInt8) (hK : KT w) : Calls Tryd.prog 5 #[.int .i64 n, v8 x] w fun e w' => e = .returned (.bool true) ∧ Below w.heap.size w w' := by
  have HK := Lib.hid hK
  have hb := n8_nonneg x
  have hb' := n8_lt x
  clear hK
  rw [show v8 x = .int .u8 (n8 x) from rfl]
  go_enter Tryd.func5, Tryd.ntmps5
  go_wp2_with fail
  refine (small_any w HK.out).mono ?_
  rintro e w1 ⟨rfl, hb1⟩
  have C1 := Lib.hid (kept_below hb1)
  clear hb1
  by_cases h0 : n < 0
  · go_wp2_with fail
    go_ret
    exact ⟨rfl, C1.out.below (Nat.le_refl _) (fun _ _ h => h)⟩
  by_cases h7 : 700 < n
  · go_wp2_with fail
    go_ret
    exact ⟨rfl, C1.out.below (Nat.le_refl _) (fun _ _ h => h)⟩
  obtain ⟨k, rfl⟩ := Int.eq_ofNat_of_zero_le (show 0 ≤ n by omega)
  have hk : k ≤ 700 := by omega
  have hmk := make_long k hk
  have h0 : LongAt w1 (w1.alloc (.cells ((List.replicate k 0).map v8).toArray 5)) k x w1.heap.size 0 := ⟨Row.at_ _ _ _ (by simp [longZ]) rfl, kept_alloc _ _, Nat.le_refl _⟩
  generalize (List.replicate k (0 : UInt8)).map v8 = Z0 at *
  have H0 := Lib.hid h0
  clear h0
  go_wp2_with fail
  go_loopw [7] (fun i wr => ∃ j : Nat, j ≤ k ∧ i = .int .i64 j ∧ Hid (LongAt w1 wr k x w1.heap.size j)) (fun i _ => k - (intOf i).toNat)
  case atStart => exact ⟨0, Nat.zero_le _, rfl, H0⟩
  case round =>
    obtain ⟨j, hj, rfl, hs⟩ := hrel
    by_cases hlt : j < k
    · obtain ⟨u, hu⟩ : ∃ u, wr.cell? ⟨w1.heap.size, j, none⟩ = some u := ⟨_, hs.out.row.cell (List.getElem?_eq_getElem (by rw [List.length_map, longZ_length k x j hj]; omega))⟩
      have hf := hs.out.row.frozen j
      have hlt' : (j : Int) < (k : Int) := by omega
      clear hmk
      go_wp2_with fail
      go_roundw
      case rel =>
        refine ⟨j + 1, by omega, by go_num, ?_, hs.out.kept.setCell (.inl (Nat.le_refl _)) _, Nat.le_refl _⟩
        rw [← longZ_set k x j hlt]
        have h := hs.out.row.set j (v8 x)
        rwa [← List.map_set] at h
      case measure => simp [intOf] <;> omega
    · have hjk : j = k := by omega
      have hl : longZ k x k = List.replicate k x := by simp [longZ]
      have hr : Row wr w1.heap.size 5 ((List.replicate k x).map v8) := by
        have h := hs.out.row
        rwa [hjk, hl] at h
      have hlen : (List.replicate k x).length = k := by simp
      have hge : (k : Int) ≤ (j : Int) := by omega
      have hby : BytesAt wr (some ⟨w1.heap.size, 0, none⟩) k k (List.replicate k x) := by
        have h := BytesAt.row hr
        rwa [hlen] at h
      have C2 := Lib.hid (kept_trans C1.out hs.out.kept)
      have HBY := Lib.hid hby
      have HLEN := Lib.hid hlen
      have q0 := eq_digest (List.replicate k x)
      generalize List.replicate k x = bs at *
      clear hmk hjk hl hr hlen hby hs
      go_wp2_with fail
      refine (sum_any wr (some ⟨w1.heap.size, 0, none⟩) k k bs (HK.out.kept C2.out (fun h => h)) HBY.out (by omega)).mono ?_
      rintro e w3 ⟨rfl, hb3⟩
      have C3 := Lib.hid (kept_trans C2.out (kept_below hb3))
      have Y3 := Lib.hid (HBY.out.below hb3)
      clear hb3
      have hrs := refsum_any w3 (some ⟨w1.heap.size, 0, none⟩) k bs (by rw [HLEN.out]; exact Y3.out) (fun e => by cases e) (by rw [HLEN.out]; omega)
      rw [HLEN.out] at hrs
      have HRS := Lib.hid hrs
      clear hrs
      go_wp2_with fail
      refine HRS.out.mono ?_
      rintro e w4 ⟨rfl, hb4⟩
      have C4 := Lib.hid (kept_trans C3.out (kept_below hb4))
      clear hb4
      generalize (digest bs).map v8 = G at *
      go_wp2_with fail
      go_ret
      exact ⟨rfl, C4.out.below (Nat.le_refl _) (fun _ _ h => h)⟩
end Go.Proofs.YtknfpfhbplmffaaDoor
