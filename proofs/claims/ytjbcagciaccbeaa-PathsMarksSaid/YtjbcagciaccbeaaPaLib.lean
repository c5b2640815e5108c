/-
  The library's calls that package paths makes, over texts as the machine holds them; a builder that a call has made.
-/
import Derived.Test.YtjbcagciaccbeaaPaCon
import Derived.Test.YtjbcagciaccbeaaPaProgF
import Derived.Test.YtjbcagciaccbeaaJtBuild
import Derived.Lib.IndexAny
namespace Go.Proofs.Ytjbcagciaccbeaa
open Go.RowKit Sh Pth
namespace Pth
theorem idx_head {s : List UInt8} (h : (parts s).tail ≠ []) : Lib.indexByte s 47 = ((headF s).length : Nat) := by
  rcases head_cut s with ⟨hm, hs, _⟩ | ⟨_, _, _, h2⟩
  · have hn : (47 : UInt8) ∉ headF s := parts_no s _ (by rw [head_parts s]; exact List.mem_cons_self)
    have h0 := Lib.contains_iff_indexByte s 47
    rw [List.contains_eq_mem, decide_eq_true hm] at h0
    obtain ⟨o, ho⟩ : ∃ o : Nat, Lib.indexByte s 47 = o := ⟨(Lib.indexByte s 47).toNat, by have := of_decide_eq_true h0.symm; omega⟩
    obtain ⟨h1, h2⟩ := Lib.indexByte_some ho
    rw [ho]
    have hb : s[(headF s).length]? = some 47 := by
      have e := congrArg (fun l : List UInt8 => l[(headF s).length]?) hs
      rw [show s[(headF s).length]? = _ from e, List.getElem?_append_right (Nat.le_refl _), Nat.sub_self]
      rfl
    rcases Nat.lt_trichotomy o (headF s).length with hlt | he | hgt
    · refine absurd ?_ hn
      have : (headF s)[o]? = some 47 := by
        rw [hs, List.getElem?_append_left hlt] at h1
        exact h1
      exact List.mem_of_getElem? this
    · rw [he]
    · exact absurd hb (h2 _ hgt)
  · exact absurd h2 h
theorem idx_none {s : List UInt8} {c : UInt8} (h : s.contains c = false) : Lib.indexByte s c < 0 := by
  have := Lib.contains_iff_indexByte s c
  rw [h] at this
  simpa using this.symm
theorem idx_some {s : List UInt8} {c : UInt8} (h : s.contains c = true) : 0 ≤ Lib.indexByte s c := by
  have := Lib.contains_iff_indexByte s c
  rw [h] at this
  simpa using this.symm

theorem has_sb (s p : List UInt8) (w : World) : Calls Try.prog 33 #[.string (sb s), .string (sb p)] w fun e w' => e = .returned (.bool (p.isPrefixOf s)) ∧ w' = w := Try.strings_HasPrefix (sb s) (sb p) w
theorem cutp_sb (s p : List UInt8) (w : World) : Calls Try.prog 32 #[.string (sb s), .string (sb p)] w fun e w' => e = .returned (.tuple #[.string (sb (if p.isPrefixOf s = true then s.drop p.length else s)), .bool (p.isPrefixOf s)]) ∧ w' = w := Try.strings_CutPrefix (sb s) (sb p) w
theorem idx0_sb (s : List UInt8) (w : World) : Calls Try.prog 41 #[.string (sb s), .int .u8 0] w fun e w' => e = .returned (.int .i64 (Lib.indexByte s 0)) ∧ w' = w := Try.strings_IndexByte (sb s) 0 w
theorem lastidx_sb (s : List UInt8) (hs : s.length ≤ 1099511627776) (w : World) : Calls Try.prog 31 #[.string (sb s), .string ⟨#[47]⟩] w fun e w' => e = .returned (.int .i64 ((s.length : Int) - ((lastF s).length : Int) - 1)) ∧ w' = w := by
  have h := Try.strings_LastIndex (sb s) ⟨#[47]⟩ (by rw [sb_size]; omega) w
  rw [sb_data, show (⟨#[47]⟩ : ByteArray).data.toList = [47] from rfl, last_index] at h
  exact h
set_option maxRecDepth 100000 in
set_option maxHeartbeats 1000000 in
theorem lcut_sb (w : World) (s : List UInt8) (hl : s.length ≤ 1099511627776) :
    Calls Try.prog 39 #[.string (sb s), .string ⟨#[47]⟩] w fun e w' => e = .returned (.tuple #[.string (sb (headF s)), .string (sb (tailF s)), .bool (decide ((parts s).tail ≠ []))]) ∧ ∃ n, w' = w.drewN n := by
  have hC := Try.stringslite_Index_one (sb s) 47 w
  rw [sb_data] at hC
  have hsz := sb_size s
  by_cases h : (parts s).tail ≠ []
  · rw [idx_head h] at hC
    obtain ⟨hs, hlt⟩ : s = headF s ++ 47 :: tailF s ∧ (headF s).length + 1 ≤ s.length := by
      rcases head_cut s with ⟨_, hs, _⟩ | ⟨_, _, _, h2⟩
      · refine ⟨hs, ?_⟩
        have := congrArg List.length hs
        rw [List.length_append, List.length_cons] at this
        omega
      · exact absurd h2 h
    have e1 : (sb s).extract 0 (headF s).length = sb (headF s) := by
      rw [sb_cut, List.drop_zero]
      exact congrArg sb ((congrArg (List.take (headF s).length) hs).trans List.take_left)
    have e2 : (sb s).extract ((headF s).length + 1) s.length = sb (tailF s) := by
      rw [sb_cut, List.take_length]
      refine congrArg sb ((congrArg (List.drop ((headF s).length + 1)) hs).trans ?_)
      rw [show headF s ++ 47 :: tailF s = (headF s ++ [47]) ++ tailF s from by simp, show (headF s).length + 1 = (headF s ++ [47]).length from by simp, List.drop_left]
    have hd : decide ((parts s).tail ≠ []) = true := decide_eq_true h
    rw [hd]
    have HC := Lib.hid hC
    clear hC h hd hs
    generalize sb (headF s) = S1 at *
    generalize sb (tailF s) = S2 at *
    generalize (headF s).length = i at *
    generalize sb s = S at *
    have hw : IntKind.i64.wrap ((i : Int) + 1) = (i : Int) + 1 := by rw [IntKind.wrap_i64]; omega
    have h0 : (0 : Int) ≤ (i : Int) + 1 := by omega
    have h1 : (i : Int) + 1 ≤ (s.length : Int) := by omega
    have h2 : ((i : Int) + 1).toNat = i + 1 := by omega
    go_enter Try.func39, Try.ntmps39
    go_wp2_with fail
    refine HC.out.mono ?_
    rintro e w1 ⟨rfl, rfl⟩
    go_wp2_with fail
    go_quiet (fail)
    go_wp2_with fail
    go_ret3
    exact ⟨rfl, _, rfl⟩
  · obtain ⟨hm, hs, ht⟩ : (47 : UInt8) ∉ s ∧ s = headF s ∧ tailF s = [] := by
      rcases head_cut s with ⟨_, _, h2⟩ | ⟨hm, hs, ht, _⟩
      · exact absurd h2 h
      · exact ⟨hm, hs, ht⟩
    have hn := idx_none (s := s) (c := 47) (by rw [List.contains_eq_mem]; exact decide_eq_false hm)
    have hd : decide ((parts s).tail ≠ []) = false := decide_eq_false h
    rw [hd, ht, ← hs]
    have e1 : sb [] = ⟨#[]⟩ := rfl
    rw [e1]
    have HC := Lib.hid hC
    clear hC h hd e1 hs hm ht
    generalize Lib.indexByte s 47 = i at *
    generalize sb s = S at *
    have hn' : ¬ 0 ≤ i := by omega
    go_enter Try.func39, Try.ntmps39
    go_wp2_with fail
    refine HC.out.mono ?_
    rintro e w1 ⟨rfl, rfl⟩
    go_wp2_with fail
    go_ret3
    exact ⟨rfl, 0, rfl⟩
set_option maxRecDepth 100000 in
set_option maxHeartbeats 1000000 in
theorem scut_sb (w : World) (s : List UInt8) (hl : s.length ≤ 1099511627776) :
    Calls Try.prog 21 #[.string (sb s), .string ⟨#[47]⟩] w fun e w' => e = .returned (.tuple #[.string (sb (headF s)), .string (sb (tailF s)), .bool (decide ((parts s).tail ≠ []))]) ∧ ∃ n, w' = w.drewN n := by
  have HC := Lib.hid (lcut_sb w s hl)
  generalize decide ((parts s).tail ≠ []) = z at *
  generalize sb (headF s) = S1 at *
  generalize sb (tailF s) = S2 at *
  generalize sb s = S at *
  go_enter Try.func21, Try.ntmps21
  go_wp2_with fail
  refine HC.out.mono ?_
  rintro e w1 ⟨rfl, n, rfl⟩
  go_wp2_with fail
  go_ret3
  exact ⟨rfl, n, rfl⟩

/-- A builder in block b: what has been written to it. -/
def Bld (b : Nat) (acc : List UInt8) (w : World) : Prop := Lib.IsBuilderF 36 5 b b (Lib.byteCells acc) w
theorem Bld.fresh (w : World) : Bld w.heap.size [] (w.alloc (.cells #[.pointer none, .slice none 0 0] 36)) := Lib.IsBuilderF.of (Lib.fresh_isBuilder _ _ w)
theorem Bld.below {b : Nat} {acc : List UInt8} {w w' : World} (h : Bld b acc w) (hb : Below w.heap.size w w') : Bld b acc w' := by
  have key : ∀ p, Lib.BuilderAtF 36 5 b b p (Lib.byteCells acc) w → Lib.BuilderAtF 36 5 b b p (Lib.byteCells acc) w' := fun p hp => by
    obtain ⟨hB, v, hh, hown, hne⟩ := hp
    refine ⟨hB, v, (hb.block b (Array.getElem?_eq_some_iff.1 hh).1).trans hh, ⟨hown.1, ?_⟩, hne⟩
    rcases hown.2 with hn | ⟨g, cap, cur, fz, hv, hbg, hg, rest⟩
    · exact .inl hn
    · exact .inr ⟨g, cap, cur, fz, hv, hbg, (hb.block g (Array.getElem?_eq_some_iff.1 hg).1).trans hg, rest⟩
  exact h.elim (fun x => .inl (key _ x)) (fun x => .inr (key _ x))
/-- What a write leaves. -/
structure Wrote (b : Nat) (acc : List UInt8) (w w' : World) : Prop where
  bld : Bld b acc w'
  below : Below b w w'
theorem bld_str {b : Nat} {acc : List UInt8} {w : World} (h : Bld b acc w) (hl : acc.length ≤ 100000000000) (hb : b ≤ w.heap.size) (s : List UInt8) (hs : s.length ≤ 100000000000) :
    Calls Try.prog 23 #[.pointer (some ⟨b, 0, none⟩), .string (sb s)] w fun e w' => e = .returned (.tuple #[.int .i64 (s.length : Int), .nilIface]) ∧ Wrote b (acc ++ s) w w' := by
  refine (Try.Builder_WriteString_k b b _ (sb s) w h (by rw [Lib.byteCells_length, sb_size]; omega) hb).mono ?_
  rintro e w' ⟨rfl, h1, h2, h3⟩
  refine ⟨rfl, ?_, h2⟩
  unfold Bld
  rw [Lib.byteCells_append]
  exact .inr h1
theorem bld_len {b : Nat} {acc : List UInt8} {w : World} (h : Bld b acc w) :
    Calls Try.prog 22 #[.pointer (some ⟨b, 0, none⟩)] w fun e w' => e = .returned (.int .i64 (acc.length : Int)) ∧ w' = w := by
  have h1 := Try.Builder_Len_f b b _ w h
  rw [Lib.byteCells_length] at h1
  exact h1
theorem bld_out {b : Nat} {acc : List UInt8} {w : World} (h : Bld b acc w) (hb : b ≤ w.heap.size) :
    Calls Try.prog 24 #[.pointer (some ⟨b, 0, none⟩)] w fun e w' => e = .returned (.string (sb acc)) ∧ Below b w w' := by
  refine (Try.Builder_String_any_k b b acc w h hb).mono ?_
  rintro e w' ⟨rfl, h1, h2, h3⟩
  exact ⟨rfl, h2⟩
end Pth
end Go.Proofs.Ytjbcagciaccbeaa
