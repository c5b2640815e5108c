/-
  bytes.TrimRight by one byte 0; where a byte 0 stands; header.cut, header.readText, (field).of, header.Empty.
-/
import Derived.Test.YthakeahpaogikaaDoorHdFns
import Derived.Lib.BytesEntry
import Derived.Lib.IndexAny
import Derived.Deep.CutBlock
import Derived.Lib.QuietBelow
import Derived.StillTailTactics
namespace Go.Proofs.YthakeahpaogikaaDoor
open Go.RowKit Sh Oc Hd

theorem cut_nil : cutF [] = [] := rfl
theorem cut_zero (l : List UInt8) : cutF (l ++ [0]) = cutF l := by
  unfold cutF Lib.trimRightS
  rw [List.reverse_append, List.reverse_singleton, List.singleton_append, List.dropWhile_cons, if_pos (by rfl)]
theorem cut_last (l : List UInt8) (x : UInt8) (h : x ≠ 0) : cutF (l ++ [x]) = l ++ [x] := by
  unfold cutF Lib.trimRightS
  rw [List.reverse_append, List.reverse_singleton, List.singleton_append, List.dropWhile_cons, if_neg (by simpa using h), List.reverse_cons, List.reverse_reverse]
theorem n8_zero {x : UInt8} (h : n8 x = 0) : x = 0 := UInt8.toNat_inj.1 (by have e : n8 x = (x.toNat : Int) := rfl; rw [e] at h; simpa using h)
theorem cut_le (l : List UInt8) : (cutF l).length ≤ l.length := by
  obtain ⟨k, hk⟩ := cut_split l
  have := congrArg List.length hk
  rw [List.length_append] at this
  omega
theorem cut_take (l : List UInt8) : l.take (cutF l).length = cutF l := by
  obtain ⟨k, hk⟩ := cut_split l
  conv => lhs; arg 2; rw [hk]
  rw [List.take_left]

set_option maxRecDepth 100000 in
set_option maxHeartbeats 1000000 in
theorem trimByte_any (w : World) (A : Option Addr) (n c : Nat) (bs : List UInt8) (S : BytesAt w A n c bs) (hn : n ≤ maxLen) :
    Calls Tryd.prog 42 #[.slice A n c, .int .u8 0] w fun e w' => e = .returned (.slice A (cutF bs).length c) ∧ w' = w := by
  have HS := Lib.hid S
  have hlen := S.len
  have hcap := S.cap
  clear S
  unfold maxLen at hn
  go_enter Tryd.func42, Tryd.ntmps42
  go_wp2_with fail
  go_loopw [0] (fun v wr => ∃ m : Nat, m ≤ n ∧ v = .slice A m c ∧ Hid (cutF (bs.take m) = cutF bs) ∧ wr = w) (fun v _ => (match v with | .slice _ k _ => k | _ => 0))
  case atStart => exact ⟨n, Nat.le_refl _, rfl, Lib.hid (by rw [← hlen, List.take_length]), rfl⟩
  case round =>
    obtain ⟨m, hm, rfl, hT, rfl⟩ := hrel
    by_cases h0 : m = 0
    · subst h0
      have h1 : (cutF bs).length = 0 := by rw [← hT.out]; rfl
      go_wp2_with fail
      go_ret
      exact ⟨by rw [h1]; rfl, rfl⟩
    · obtain ⟨k, rfl⟩ : ∃ k, m = k + 1 := ⟨m - 1, by omega⟩
      obtain ⟨b, o, rfl, _, _⟩ := HS.out.at_ (by omega)
      have hc := HS.out.cellAt (j := k) (by omega)
      have hb := n8_nonneg (bs[k])
      have hb' := n8_lt (bs[k])
      have ht := take_snoc (bs := bs) (j := k) (by omega)
      rw [ht] at hT
      have HX := Lib.hid (show n8 bs[k] = 0 → cutF (bs.take k) = cutF bs from fun h => by
        rw [← hT.out, n8_zero h, cut_zero])
      have HY := Lib.hid (show n8 bs[k] ≠ 0 → (cutF bs).length = k + 1 from fun h => by
        rw [← hT.out, cut_last _ _ (fun e => h (by rw [e]; rfl)), List.length_append, List.length_take, List.length_singleton]; omega)
      clear hT ht
      generalize n8 bs[k] = d at *
      have hpos : (0 : Int) < ((k : Int) + 1) := by omega
      by_cases hd : d = 0
      · subst hd
        go_wp2_with fail
        go_roundw
        case rel => exact ⟨k, by omega, by go_num, Lib.hid (HX.out rfl), trivial⟩
        case measure => simp
      · have hl := HY.out hd
        go_wp2_with fail
        go_ret
        exact ⟨by rw [hl]; rfl, rfl⟩

set_option maxRecDepth 100000 in
set_option maxHeartbeats 1000000 in
theorem trimRight0_any (w : World) (A : Option Addr) (n c : Nat) (bs : List UInt8) (S : BytesAt w A n c bs) (hn : n ≤ maxLen) :
    Calls Tryd.prog 34 #[.slice A n c, .string ⟨#[0]⟩] w fun e w' => e = .returned (.slice A (cutF bs).length c) ∧ w' = w := by
  have HS := Lib.hid S
  have hlen := S.len
  clear S
  have HN := Lib.hid hn
  unfold maxLen at hn
  by_cases h0 : n = 0
  · subst h0
    obtain rfl : bs = [] := List.eq_nil_of_length_eq_zero hlen
    go_enter Tryd.func34, Tryd.ntmps34
    go_wp2_with fail
    go_ret
    exact ⟨rfl, rfl⟩
  · have h0' : ¬ (n : Int) = 0 := by omega
    go_enter Tryd.func34, Tryd.ntmps34
    go_wp2_with fail
    refine (trimByte_any w A n c bs HS.out HN.out).mono ?_
    rintro e w1 ⟨rfl, rfl⟩
    go_wp2_with fail
    go_ret
    exact ⟨rfl, rfl⟩
theorem BytesAt.cut {w : World} {A : Option Addr} {n c : Nat} {bs : List UInt8} (h : BytesAt w A n c bs) : BytesAt w A (cutF bs).length c (cutF bs) := by
  have h1 := h.take (cutF bs).length (by rw [← h.len]; exact cut_le bs)
  rwa [cut_take] at h1
set_option maxRecDepth 100000 in
set_option maxHeartbeats 1000000 in
theorem cut_any (w : World) (A : Option Addr) (n c : Nat) (bs : List UInt8) (S : BytesAt w A n c bs) (hn : n ≤ maxLen) :
    Calls Tryd.prog 26 #[.slice A n c] w fun e w' => e = .returned (.slice A (cutF bs).length c) ∧ w' = w := by
  have HT := Lib.hid (trimRight0_any w A n c bs S hn)
  clear S
  go_enter Tryd.func26, Tryd.ntmps26
  go_wp2_with fail
  refine HT.out.mono ?_
  rintro e w1 ⟨rfl, rfl⟩
  go_wp2_with fail
  go_ret
  exact ⟨rfl, rfl⟩

theorem bytesOf_n8 (bs : List UInt8) : Lib.bytesOf (bs.map n8) = bs := by
  unfold Lib.bytesOf
  rw [List.map_map]
  conv => rhs; rw [← List.map_id bs]
  apply List.map_congr_left
  intro x _
  simp [n8]
def idx0 (bs : List UInt8) : Int := Lib.indexByte bs (0 : Int).toNat.toUInt8
theorem index_none (bs : List UInt8) : idx0 bs < 0 ↔ bs.contains 0 = false := by
  rw [idx0, show (0 : Int).toNat.toUInt8 = (0 : UInt8) from rfl, Lib.contains_iff_indexByte, decide_eq_false_iff_not]
  omega
set_option maxRecDepth 100000 in
set_option maxHeartbeats 1000000 in
theorem bindex_any (w : World) (b o n c : Nat) (bs : List UInt8) (S : BytesAt w (some ⟨b, o, none⟩) n c bs) :
    Calls Tryd.prog 49 #[.slice (some ⟨b, o, none⟩) n c, .int .u8 0] w fun e w' => e = .returned (.int .i64 (idx0 bs)) ∧ w' = w := by
  have HR := Lib.hid (Lib.run_indexByteSlice (P := Tryd.prog) (w := w) b o n c (bs.map n8) (by rw [List.length_map, S.len]) (fun i hi => by
    have h1 := S.cellAt (j := i) (by rw [S.len]; exact hi)
    rw [h1]
    have hl : i < bs.length := by rw [S.len]; exact hi
    simp [List.getD, hl]) 0)
  clear S
  rw [bytesOf_n8, show Lib.indexByte bs (0 : Int).toNat.toUInt8 = idx0 bs from rfl] at HR
  generalize idx0 bs = i at *
  go_enter Tryd.func49, Tryd.ntmps49
  go_wp2_with fail
  rw [run_callFunc_extern Tryd.func55 (by kernel_rfl) (by kernel_rfl) (by kernel_rfl) (e := Extern.BytealgIndexByte.indexByte) (by kernel_rfl), HR.out]
  simp only [Result.andThen]
  rw [Oper.upon_value]
  go_wp2_with fail
  go_ret
  exact ⟨rfl, rfl⟩
set_option maxRecDepth 100000 in
set_option maxHeartbeats 1000000 in
theorem sindex_any (w : World) (bs : List UInt8) :
    Calls Tryd.prog 50 #[.string ⟨bs.toArray⟩, .int .u8 0] w fun e w' => e = .returned (.int .i64 (idx0 bs)) ∧ w' = w := by
  have HR := Lib.hid (Lib.run_indexByteString (P := Tryd.prog) ⟨bs.toArray⟩ 0 w)
  unfold idx0
  generalize hs : (⟨bs.toArray⟩ : ByteArray) = s at *
  have HE : Hid (s.data.toList = bs) := Lib.hid (by rw [← hs])
  rw [HE.out] at HR
  clear hs HE
  generalize Lib.indexByte bs (0 : Int).toNat.toUInt8 = i at *
  have HC : Calls Tryd.prog 56 #[.string s, .int .u8 0] w fun e w' => e = .returned (.int .i64 i) ∧ w' = w := by
    go_enter Tryd.func56, Tryd.ntmps56
    go_wp2_with fail
    rw [run_callFunc_extern Tryd.func59 (by kernel_rfl) (by kernel_rfl) (by kernel_rfl) (e := Extern.BytealgIndexByte.indexByte) (by kernel_rfl), HR.out]
    simp only [Result.andThen]
    rw [Oper.upon_value]
    go_wp2_with fail
    go_ret
    exact ⟨rfl, rfl⟩
  have HD := Lib.hid HC
  clear HC HR
  go_enter Tryd.func50, Tryd.ntmps50
  go_wp2_with fail
  refine HD.out.mono ?_
  rintro e w1 ⟨rfl, rfl⟩
  go_wp2_with fail
  go_ret
  exact ⟨rfl, rfl⟩

def strV (l : List UInt8) : Value := .string ⟨l.toArray⟩
set_option maxRecDepth 100000 in
set_option maxHeartbeats 1000000 in
theorem readText_any (w : World) (b o n c : Nat) (bs : List UInt8) (S : BytesAt w (some ⟨b, o, none⟩) n c bs) (hn : n ≤ maxLen) :
    Calls Tryd.prog 37 #[.slice (some ⟨b, o, none⟩) n c] w fun e w' => e = .returned (.tuple #[strV (cutF bs), .bool (!(cutF bs).contains 0)]) ∧ Hid (Below w.heap.size w w') := by
  have HT := Lib.hid (cut_any w _ n c bs S hn)
  have HS := Lib.hid S.cut
  have hl := cut_le bs
  rw [S.len] at hl
  have hcap := S.cap
  clear S
  unfold maxLen at hn
  generalize cutF bs = T at *
  have hq := fun k => conv_bytes (w.drewN k) (some ⟨b, o, none⟩) T.length c T (HS.out.below (below_drewN (Below.refl _ _) k))
  have hi := fun k => bindex_any (w.drewN k) b o T.length c T (HS.out.below (below_drewN (Below.refl _ _) k))
  have HI := Lib.hid hi
  have HX := Lib.hid (index_none T)
  clear hi
  have hV : strV T = .string ⟨T.toArray⟩ := rfl
  rw [hV]
  generalize (⟨T.toArray⟩ : ByteArray) = s at *
  generalize T.contains 0 = z at *
  generalize idx0 T = i at *
  go_enter Tryd.func37, Tryd.ntmps37
  go_wp2_with fail
  refine HT.out.mono ?_
  rintro e w1 ⟨rfl, rfl⟩
  clear HT
  go_wp2_with fail
  go_quiet ((go_at_call 49; exact Calls.quiet_of_same (HI.out _)))
  go_wp2_with fail
  go_ret2
  refine ⟨?_, Lib.hid (below_drewN (Below.refl _ _) _)⟩
  have e : decide (i < 0) = !z := by
    cases z with
    | true => rw [decide_eq_false (fun h => by have := HX.out.1 h; cases this)]; rfl
    | false => rw [decide_eq_true (HX.out.2 rfl)]; rfl
  rw [← e]
  rfl

set_option maxRecDepth 100000 in
set_option maxHeartbeats 1000000 in
theorem of_any (w : World) (f c h : Nat) (b o n cap : Nat) (hf : f + c ≤ n) (h1 : 1 ≤ c) (hn : n ≤ cap) (hm : cap ≤ maxLen) :
    Calls Tryd.prog 17 #[.agg #[.int .i64 f, .int .i64 c, .int .i64 h], .slice (some ⟨b, o, none⟩) n cap] w fun e w' => e = .returned (.slice (some ⟨b, o + f, none⟩) c (cap - f)) ∧ Hid (Below w.heap.size w w') := by
  unfold maxLen at hm
  have hne : ¬ cap = f := by omega
  go_enter Tryd.func17, Tryd.ntmps17
  go_wp2_with fail
  go_ret
  have e : f + c - f = c := by omega
  exact ⟨by rw [e]; rfl, Lib.hid ((Below.refl _ _).alloc (Nat.le_refl _) _)⟩

theorem empty_eq (bs : List UInt8) : ((cutF bs).length = 0) ↔ bs.all (fun d => d == 0) = true := by
  obtain ⟨k, hk⟩ := cut_split bs
  constructor
  · intro h
    rw [List.eq_nil_of_length_eq_zero h, List.nil_append] at hk
    rw [hk, List.all_eq_true]
    intro x hx
    rw [List.eq_of_mem_replicate hx]
    rfl
  · intro h
    have : bs = List.replicate bs.length 0 := by
      rw [List.eq_replicate_iff]
      exact ⟨rfl, fun b hb => by simpa using List.all_eq_true.1 h b hb⟩
    rw [this, cut_zeros]
    rfl
set_option maxRecDepth 100000 in
set_option maxHeartbeats 1000000 in
theorem empty_any (w : World) (A : Option Addr) (n c : Nat) (bs : List UInt8) (S : BytesAt w A n c bs) (hn : n ≤ maxLen) :
    Calls Tryd.prog 12 #[.slice A n c] w fun e w' => e = .returned (.bool (emptyF bs)) ∧ w' = w := by
  have HT := Lib.hid (cut_any w A n c bs S hn)
  have hlen := S.len
  have hl := cut_le bs
  rw [hlen] at hl
  have HE := Lib.hid (empty_eq bs)
  have HF := Lib.hid (show emptyF bs = (decide (bs.length = 512) && bs.all (fun d => d == 0)) from rfl)
  clear S
  unfold maxLen at hn
  by_cases h5 : n = 512
  · subst h5
    rw [hlen] at HF
    generalize emptyF bs = z at *
    go_enter Tryd.func12, Tryd.ntmps12
    go_wp2_with fail
    refine HT.out.mono ?_
    rintro e w1 ⟨rfl, rfl⟩
    go_wp2_with fail
    go_ret
    refine ⟨?_, rfl⟩
    have e : (((cutF bs).length : Int) == 0) = z := by
      rw [HF.out]
      by_cases h : (cutF bs).length = 0
      · rw [HE.out.1 h, h]; rfl
      · have : bs.all (fun d => d == 0) = false := by
          cases hh : bs.all (fun d => d == 0) with
          | false => rfl
          | true => exact absurd (HE.out.2 hh) h
        rw [this, Bool.and_false]
        simpa using h
    rw [← e]
    rfl
  · have h5' : ¬ (n : Int) = 512 := by omega
    have hz : emptyF bs = false := by
      rw [HF.out, decide_eq_false (by omega)]; rfl
    rw [hz]
    go_enter Tryd.func12, Tryd.ntmps12
    go_wp2_with fail
    go_ret
    exact ⟨rfl, rfl⟩
set_option maxRecDepth 100000 in
set_option maxHeartbeats 1000000 in
theorem rempty_any (w : World) (A : Option Addr) (n c : Nat) (bs : List UInt8) (S : BytesAt w A n c bs) (hn : n ≤ maxLen) :
    Calls Tryd.prog 13 #[.slice A n c] w fun e w' => e = .returned (.bool (emptyF bs)) ∧ w' = w := by
  have HS := Lib.hid S
  have hlen := S.len
  have HF := Lib.hid (show emptyF bs = (decide (bs.length = 512) && bs.all (fun d => d == 0)) from rfl)
  clear S
  unfold maxLen at hn
  rw [hlen] at HF
  generalize emptyF bs = z at *
  go_enter Tryd.func13, Tryd.ntmps13
  go_wp2_with fail
  go_loopw [3] (fun i wr => ∃ j : Nat, j ≤ n ∧ i = .int .i64 j ∧ Hid ((bs.take j).all (fun d => d == 0) = true) ∧ wr = w) (fun i _ => n - (intOf i).toNat)
  case atStart => exact ⟨0, Nat.zero_le _, rfl, Lib.hid rfl, rfl⟩
  case round =>
    obtain ⟨j, hj, rfl, ho, rfl⟩ := hrel
    by_cases hlt : j < n
    · obtain ⟨b, o, rfl, _, _⟩ := HS.out.at_ (by omega)
      have hc := HS.out.cellAt (j := j) (by omega)
      have hs := take_snoc (bs := bs) (j := j) (by omega)
      have HX := Lib.hid (show n8 bs[j] = 0 → (bs.take (j + 1)).all (fun d => d == 0) = true from fun h => by
        rw [hs, List.all_append, ho.out, List.all_cons, n8_zero h]; rfl)
      have HM := Lib.hid (show bs[j] ∈ bs from List.getElem_mem _)
      have HN := Lib.hid (show n8 bs[j] ≠ 0 → z = false from fun h => by
        have : bs.all (fun d => d == 0) = false := by
          rw [List.all_eq_false]
          refine ⟨_, HM.out, fun e => h ?_⟩
          rw [show bs[j] = 0 by simpa using e]
          rfl
        rw [HF.out, this, Bool.and_false])
      clear hs HM
      generalize n8 bs[j] = d at *
      have hlt' : (j : Int) < (n : Int) := by omega
      by_cases h1 : d = 0
      · subst h1
        go_wp2_with fail
        go_roundw
        case rel => exact ⟨j + 1, by omega, by go_num, Lib.hid (HX.out rfl), trivial⟩
        case measure => simp [intOf] <;> omega
      · have b0 : (d != 0) = true := bne_iff_ne.2 h1
        go_wp2_with fail
        go_ret
        exact ⟨by rw [HN.out h1]; rfl, rfl⟩
    · obtain rfl : j = n := by omega
      have hge : (j : Int) ≤ (j : Int) := Int.le_refl _
      have h2 := ho.out
      rw [← hlen, List.take_length] at h2
      have hz : z = decide (j = 512) := by rw [HF.out, h2, Bool.and_true]
      subst hz
      go_wp2_with fail
      go_ret
      refine ⟨?_, rfl⟩
      have e : ((j : Int) == 512) = decide (j = 512) := by
        rw [Bool.eq_iff_iff, beq_iff_eq, decide_eq_true_eq]; omega
      rw [← e]
      rfl
end Go.Proofs.YthakeahpaogikaaDoor
