/-
  The law MktarMany: its walk.
-/
import Derived.Test.YtpgaejalkbpbhaaGreatDoorMkF
import Derived.Test.YtpgaejalkbpbhaaGreatDoorMkSmall
namespace Go.Proofs.YtpgaejalkbpbhaaGreatDoor
open Go.RowKit Sh Px Hd

theorem zero_ent : ∃ i z, Tryz.prog.info? 30 = some i ∧ i.zero = some z ∧ i.size = 11 ∧ i.bytes = 120 ∧ z.cells = (entL Mk.zE).toArray := by
  have h : (Tryz.prog.info? 30).map (fun i => (i.zero.map (fun z => z.cells), i.size, i.bytes)) = some (some (entL Mk.zE).toArray, 11, 120) := by kernel_rfl
  obtain ⟨i, hi, hz⟩ := Option.map_eq_some_iff.1 h
  simp only [Prod.mk.injEq] at hz
  obtain ⟨z, h1, h2⟩ := Option.map_eq_some_iff.1 hz.1
  exact ⟨i, z, hi, h1, hz.2.1, hz.2.2, h2⟩
theorem made_ents (n : Nat) : madeCells (entL Mk.zE).toArray (n * 11) = (entsL (List.replicate n Mk.zE)).toArray := by
  apply Array.ext
  · rw [size_madeCells, List.size_toArray, entsL_len, List.length_replicate]
  · intro i h1 h2
    rw [size_madeCells] at h1
    have h := entsL_at (List.replicate n Mk.zE) (i / 11) (i % 11) (by rw [List.length_replicate]; omega) (by omega)
    rw [show i / 11 * 11 + i % 11 = i by omega, List.getElem_replicate] at h
    have e : (entsL (List.replicate n Mk.zE))[i]? = some (entsL (List.replicate n Mk.zE)).toArray[i] := by
      rw [List.getElem_toArray, List.getElem?_eq_getElem]
    rw [e] at h
    have hs : (entL Mk.zE).toArray.size = 11 := rfl
    simp [madeCells, hs, ← h]
theorem make_ents (n : Nat) (hn : n ≤ 100000) (W : World) : (Instr.makeSlice 22 (.int .i64 (n : Int)) (.int .i64 (n : Int))).run Tryz.prog W = .ok (.slice (some ⟨W.heap.size, 0, none⟩) n n) (W.alloc (.cells (entsL (List.replicate n Mk.zE)).toArray 30)) := by
  obtain ⟨i, z, hi, hz, hsz, hby, hc⟩ := zero_ent
  have h := run_make (P := Tryz.prog) W 22 30 i z Tryz.underlying22 hi hz .i64 .i64 n n (by omega) (by omega) (by rw [hby]; omega) (by omega)
  rw [hsz, hc] at h
  simp only [Int.toNat_natCast] at h
  rw [made_ents] at h
  exact h
/-- So many entries, the first k of them named. -/
def manyL (n k : Nat) : List Un.E := List.replicate k Mk.xE ++ List.replicate (n - k) Mk.zE
theorem many_zero (n : Nat) : manyL n 0 = List.replicate n Mk.zE := rfl
theorem many_end (n : Nat) : manyL n n = List.replicate n Mk.xE := by
  unfold manyL
  rw [Nat.sub_self, List.replicate_zero, List.append_nil]
theorem many_set (n k : Nat) (h : k < n) : (entsL (manyL n k)).set (k * 11) (.string ⟨#[120]⟩) = entsL (manyL n (k + 1)) := by
  unfold manyL
  obtain ⟨m, rfl⟩ : ∃ m, n = k + 1 + m := ⟨n - (k + 1), by omega⟩
  rw [show k + 1 + m - k = m + 1 by omega, show k + 1 + m - (k + 1) = m by omega, List.replicate_succ (n := m), List.replicate_succ' (n := k), List.append_assoc, entsL_app, entsL_app]
  have hl : (entsL (List.replicate k Mk.xE)).length = k * 11 := by rw [entsL_len, List.length_replicate]
  rw [List.set_append_right _ _ (by rw [hl]; exact Nat.le_refl _), hl, Nat.sub_self]
  rfl
theorem many_at (n k : Nat) (h : k < n) : (entsL (manyL n k))[k * 11]? = some (.string ⟨#[]⟩) := by
  have hl : (manyL n k).length = n := by
    unfold manyL
    rw [List.length_append, List.length_replicate, List.length_replicate]
    omega
  have h1 := entsL_at (manyL n k) k 0 (by omega) (by decide)
  have h2 : (manyL n k)[k]'(by omega) = Mk.zE := by
    unfold manyL
    rw [List.getElem_append_right (by rw [List.length_replicate]; exact Nat.le_refl _), List.getElem_replicate]
  rw [h2] at h1
  exact h1
theorem many_ls (n : Nat) : LsOk (List.replicate n Mk.xE) := ls_few fun e he => by
  rw [List.eq_of_mem_replicate he]
  decide

set_option maxRecDepth 100000 in
set_option maxHeartbeats 16000000 in
theorem mktarMany_all (w : World) (n : Int) (hn1 : -9223372036854775808 ≤ n) (hn2 : n ≤ 9223372036854775807) (hE : UnEnv w) :
    Calls Tryz.prog 7 #[.int .i64 n] w fun e w' => e = .returned (.bool true) ∧ Below w.heap.size w w' := by
  have HE := Lib.hid hE
  have H9 := Lib.hid (mk_small w hE)
  clear hE
  go_enter Tryz.func7, Tryz.ntmps7
  go_upto_region 2 with (go_at_call 8; go_must (refine H9.out.mono ?_; rintro e w1 ⟨rfl, K1⟩))
  clear H9
  by_cases h1 : n < 990
  · go_wp2_with fail
    go_ret
    exact ⟨rfl, K1.out⟩
  by_cases h2 : n > 1010
  · go_wp2_with fail
    go_ret
    exact ⟨rfl, K1.out⟩
  obtain ⟨m, rfl⟩ : ∃ k : Nat, n = k := ⟨n.toNat, by omega⟩
  have HM := Lib.hid (show m ≤ 1010 by omega)
  have hmk := make_ents m (by omega)
  obtain ⟨Z, hZ⟩ : ∃ Z, Z = entsL (manyL m 0) := ⟨_, rfl⟩
  rw [← many_zero, ← hZ] at hmk
  have HZ := Lib.hid hZ
  clear hn1 hn2 hZ
  go_upto_region 5 with fail
  have R1 : Hid (Row (w1.alloc (.cells Z.toArray 30)) w1.heap.size 30 (entsL (manyL m 0))) := Lib.hid (Row.at_ _ _ _ (by rw [HZ.out]) rfl)
  have K2 := Lib.hid (K1.out.alloc K1.out.size (.cells Z.toArray 30))
  have HG := Lib.hid K1.out.size
  clear hmk K1
  generalize w1.alloc _ = w2 at R1 K2 ⊢
  generalize w1.heap.size = g at *
  clear HZ
  go_wp2_with fail
  go_loopw [5] (fun i wr => ∃ k : Nat, k ≤ m ∧ i = .int .i64 k ∧ Hid (Row wr g 30 (entsL (manyL m k))) ∧ Hid (Below w.heap.size w wr)) (fun i _ => m - (intOf i).toNat)
  case atStart => exact ⟨0, Nat.zero_le _, rfl, R1, K2⟩
  case round =>
    clear R1 K2
    obtain ⟨k, hk, rfl, HR, HB⟩ := hrel
    by_cases hlt : k < m
    · have hlt' : (k : Int) < (m : Int) := by omega
      have hc := HR.out.cell (many_at m k hlt)
      have hfz := HR.out.frozen (k * 11)
      have HR2 := Lib.hid (HR.out.set (k * 11) (.string ⟨#[120]⟩))
      rw [many_set m k hlt] at HR2
      have HB2 := Lib.hid (HB.out.trans (((Kept.refl wr (· = g)).setCell (a := ⟨g, k * 11, none⟩) (.inr rfl) (.string ⟨#[120]⟩)).below HB.out.size (fun x h1 h2 => by have := HG.out; omega)))
      clear HR HB
      go_wp2_with fail
      go_roundw
      case rel => exact ⟨k + 1, by omega, by go_num, HR2, HB2⟩
      case measure => simp [intOf] <;> omega
    · obtain rfl : k = m := by omega
      have hge : ¬ (k : Int) < (k : Int) := by omega
      rw [many_end] at HR
      have X1 := Lib.hid (EntsAt.lay HR.out k (by rw [List.length_replicate]))
      have HEW := Lib.hid (HE.out.below HB.out)
      clear HR HE
      by_cases h3 : 1000 < k
      · have h3' : (k : Int) > 1000 := by omega
        have HW := Lib.hid (mk_wcall wr _ k k _ 2 [] X1.out (by have := HM.out; omega) (many_ls k) HEW.out (Mk.many_more h3))
        go_wp2_with (go_at_call 12; go_must (refine HW.out.mono ?_; rintro x w3 ⟨A3, c3, rfl, O3, T3⟩))
        go_ret
        exact ⟨rfl, below_step HB.out T3.out⟩
      · have h3' : ¬ (k : Int) > 1000 := by omega
        obtain ⟨b, hw, hbl, hu⟩ := Mk.many_write (n := k) (by omega)
        have HW := Lib.hid (mk_wcall wr _ k k _ 0 b X1.out (by have := HM.out; omega) (many_ls k) HEW.out hw)
        have HRD := Lib.hid (fun W B v ho he => un_reads W B v b 0 _ ho (by rw [hbl]; have := HM.out; omega) he hu)
        simp only [List.length_replicate] at HRD
        have hbi : (b.length : Int) = 512 * ((k : Int) + 2) := by rw [hbl]; omega
        have hw1 : IntKind.i64.wrap ((k : Int) + 2) = (k : Int) + 2 := by rw [IntKind.wrap_i64]; have := HM.out; omega
        have hw2 : IntKind.i64.wrap (512 * ((k : Int) + 2)) = 512 * ((k : Int) + 2) := by rw [IntKind.wrap_i64]; have := HM.out; omega
        clear hw hbl hu X1
        go_upto_region 12 with (go_at_call 12; go_must (refine HW.out.mono ?_; rintro x w3 ⟨A3, c3, rfl, O3, T3⟩))
        have KB := Lib.hid (below_step HB.out T3.out)
        have HE3 := Lib.hid (HEW.out.below T3.out)
        clear HW
        go_wp2_with (go_at_call 14; go_must (refine (HRD.out w3 _ _ O3.out HE3.out).mono ?_; rintro x w4 ⟨A4, c4, rfl, O4, T4⟩))
        go_ret
        exact ⟨rfl, below_step KB.out T4.out⟩
end Go.Proofs.YtpgaejalkbpbhaaGreatDoor
