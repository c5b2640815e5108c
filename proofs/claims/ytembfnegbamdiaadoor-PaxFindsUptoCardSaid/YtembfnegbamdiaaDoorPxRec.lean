/-
  The reference's record.
-/
import Derived.Test.YtembfnegbamdiaaDoorPxCut
namespace Go.Proofs.YtembfnegbamdiaaDoor
open Go.RowKit Sh Px

/-- A record's parts as the machine joins them. -/
structure Px.Joins (p : Pr) (sA sB sC : ByteArray) : Prop where
  a : (⟨#[32]⟩ : ByteArray) ++ sb p.1 = sA
  b : sA ++ (⟨#[61]⟩ : ByteArray) = sB
  c : sB ++ sb p.2 = sC
  r : sC ++ (⟨#[10]⟩ : ByteArray) = sb (rest p)
  za : sA.size = 1 + p.1.length
  zb : sB.size = 2 + p.1.length
  zc : sC.size = 2 + p.1.length + p.2.length
theorem Px.joins (p : Pr) : ∃ sA sB sC, Joins p sA sB sC := by
  refine ⟨sb (32 :: p.1), sb (32 :: p.1 ++ [61]), sb (32 :: p.1 ++ [61] ++ p.2), sb_app [32] p.1, sb_app _ [61], sb_app _ _, ?_, ?_, ?_, ?_⟩
  · refine (sb_app _ [10]).trans (congrArg sb ?_)
    simp [rest]
  · simp [sb_size]; omega
  · simp [sb_size]; omega
  · simp [sb_size]; omega

set_option maxRecDepth 100000 in
set_option maxHeartbeats 4000000 in
theorem px_record (w : World) (p : Pr) (hl : p.1.length + p.2.length ≤ 100000000) :
    Calls Tryd.prog 25 #[.agg (pv p).toArray] w fun e w' => e = .returned (.string (sb (record p))) ∧ Hid (Below w.heap.size w w') := by
  obtain ⟨sA, sB, sC, HJ⟩ := joins p
  obtain ⟨ja, jb, jc, jr, za, zb, zc⟩ := HJ
  have zr := (sb_size (rest p)).trans (rest_length p)
  have hz1 := sb_size p.1
  have hz2 := sb_size p.2
  have hpv : (pv p).toArray = #[.string (sb p.1), .string (sb p.2)] := rfl
  have HT := Lib.hid (fun (n : Nat) (h : n ≤ 1000000000) => px_text n h)
  have HR := Lib.hid (show sb (txt (len (rest p).length)) ++ sb (rest p) = sb (record p) from sb_app _ _)
  have HX := Lib.hid (And.intro (len_fix (rest p).length) (And.intro (len_least (rest p).length) (And.intro (rest_length p) (len_bound (rest p).length))))
  have HLn := Lib.hid (show ∀ n, (sb (txt n)).size = (txt n).length from fun n => sb_size _)
  have h1 : ¬ 9223372036854775807 < 1 + (sb p.1).size := by omega
  have h2 : ¬ 9223372036854775807 < sA.size + 1 := by omega
  have h3 : ¬ 9223372036854775807 < sB.size + (sb p.2).size := by omega
  have h4 : ¬ 9223372036854775807 < sC.size + 1 := by omega
  have HZ := Lib.hid (And.intro za (And.intro zb (And.intro zc (And.intro hz1 hz2))))
  have HZr := Lib.hid zr
  have hzr : (sb (rest p)).size ≤ 100000003 := by omega
  clear za zb zc hz1 hz2 zr
  rw [hpv]
  clear hpv
  have HL := Lib.hid (rest_length p)
  generalize sb (record p) = sF at *
  generalize len (rest p).length = L at *
  generalize sb (rest p) = sR at *
  generalize sb p.1 = sK at *
  generalize sb p.2 = sV at *
  go_enter Tryd.func25, Tryd.ntmps25
  go_wp2_with fail
  clear ja jb jc jr h1 h2 h3 h4
  have K0 : Hid (Below w.heap.size w (w.alloc (.cells #[.string sK, .string sV] 33))) := Lib.hid ((Below.refl _ _).alloc (Nat.le_refl _) _)
  generalize w.alloc _ = w0 at K0 ⊢
  go_loopw [4] (fun i wr => ∃ n : Nat, (rest p).length ≤ n ∧ n ≤ L ∧ i = .int .i64 n ∧ wr = w0) (fun i _ => L - (intOf i).toNat)
  case atStart => exact ⟨(rest p).length, Nat.le_refl _, by have := HX.out.1; omega, congrArg (Value.int IntKind.i64) (by rw [HZr.out, HL.out]), rfl⟩
  case round =>
    obtain ⟨n, hn, hnL, rfl, rfl⟩ := hrel
    have hb := HX.out.2.2.2
    have hb2 := HL.out
    have hn9 : n ≤ 1000000000 := by omega
    have CT := Lib.hid (HT.out n hn9 wr)
    have hzt := HLn.out n
    have hzb : (sb (txt n)).size ≤ 10 := by
      rw [hzt]
      exact txt_len_pow 9 _ (by omega)
    by_cases he : (txt n).length + (rest p).length = n
    · have hE : n = L := by
        have h5 := HX.out.2.1 n he
        omega
      subst hE
      have hz : (((sb (txt n)).size : Int) + (sR.size : Int) != (n : Int)) = false := by
        rw [bne_eq_false_iff_eq, hzt, HZr.out, ← HL.out]; omega
      have HR' := Lib.hid HR.out
      clear HR he hzt hb hb2
      have hzR : sR.size ≤ 100000003 := hzr
      generalize sb (txt n) = sT at *
      have hc : ¬ 9223372036854775807 < sT.size + sR.size := by omega
      go_wp2_with fail
      refine CT.out.mono ?_
      rintro e w1 ⟨rfl, rfl⟩
      go_wp2_with fail
      refine CT.out.mono ?_
      rintro e w1 ⟨rfl, rfl⟩
      go_wp2_with fail
      go_ret
      exact ⟨by rw [← HR'.out]; rfl, K0⟩
    · have hz : (((sb (txt n)).size : Int) + (sR.size : Int) != (n : Int)) = true := by
        rw [bne_iff_ne, hzt, HZr.out, ← HL.out]; omega
      have hlt : n < L := by
        rcases Nat.lt_or_eq_of_le hnL with h | h
        · exact h
        · exact absurd (by rw [h]; exact HX.out.1) he
      clear he hzt hb hb2
      have hzR : sR.size ≤ 100000003 := hzr
      generalize sb (txt n) = sT at *
      go_wp2_with fail
      refine CT.out.mono ?_
      rintro e w1 ⟨rfl, rfl⟩
      go_wp2_with fail
      go_roundw
      case rel => exact ⟨n + 1, by omega, by omega, by go_num, trivial⟩
      case measure => simp [intOf] <;> omega
end Go.Proofs.YtembfnegbamdiaaDoor
