/-
  Texts as the machine holds them, the library's calls on them, a builder that a call has made; what the calls find at hand: two errors of the library.
-/
import Derived.Test.YtfgflgifffjdgaaGreatDoorOcBase
import Derived.Test.YtfgflgifffjdgaaGreatDoorJtProgA
import Derived.Test.YtfgflgifffjdgaaGreatDoorJtProgB
import Derived.Test.YtfgflgifffjdgaaGreatDoorJtBuild
import Derived.Deep.CutBlock
import Derived.Deep.LoopGhost
import Derived.Lib.AtoiErrMem
import Derived.BigCall
import Derived.BigGuard
namespace Go.Proofs.YtfgflgifffjdgaaGreatDoor
open Go.RowKit Sh
namespace Jt
/-- A text as the machine holds it. -/
def sb (l : List UInt8) : ByteArray := ⟨l.toArray⟩
theorem sb_data (l : List UInt8) : (sb l).data.toList = l := rfl
theorem sb_size (l : List UInt8) : (sb l).size = l.length := rfl
theorem sb_list (l : List UInt8) : (sb l).toList = l := ByteArray.toList_eq _
theorem sb_inj {a b : List UInt8} (h : sb a = sb b) : a = b := by rw [← sb_data a, h, sb_data]
theorem sb_app (a b : List UInt8) : sb a ++ sb b = sb (a ++ b) := by
  apply ByteArray.ext
  simp [sb]
theorem sb_cut (l : List UInt8) (a b : Nat) : (sb l).extract a b = sb ((l.take b).drop a) := by
  apply ByteArray.ext
  rw [ByteArray.data_extract]
  simp [sb, List.drop_take]
theorem sb_index (l : List UInt8) (j : Nat) (hj : j < l.length) (W : World) : (Instr.index 9 (.string (sb l)) (.int .i64 (j : Int))).run Tryz.prog W = .ok (.int .u8 (n8 l[j])) W := by
  have hs : (sb l)[j]? = some l[j] := by
    rw [getElem?_pos (sb l) j (by exact hj)]
    rfl
  simp [Instr.index, run_underlying Tryz.underlying9, asIntOf, hs, n8]
theorem n8_is {x c : UInt8} (h : n8 x = n8 c) : x = c := UInt8.toNat_inj.1 (by unfold n8 at h; omega)
theorem n8_to (c : UInt8) : (n8 c).toNat.toUInt8 = c := by
  rw [show (n8 c).toNat = c.toNat from Int.toNat_natCast _]
  exact UInt8.ofNat_toNat
theorem n8_of {n : Nat} (h : n < 256) : n8 (UInt8.ofNat n) = (n : Int) := by
  unfold n8
  rw [toN n h]
/-- Where a text goes on. -/
theorem at_of (l : List UInt8) {i : Nat} (h : i < l.length) : l.drop i = l[i] :: l.drop (i + 1) := List.drop_eq_getElem_cons h
theorem dec_at (l : List UInt8) {i : Nat} (h : i < l.length) : Utf8.decode (sb l) i = orBad (charF (l[i] :: l.drop (i + 1))) := decode_is (at_of l h)

theorem has_sb (s p : List UInt8) (w : World) : Calls Tryz.prog 142 #[.string (sb s), .string (sb p)] w fun e w' => e = .returned (.bool (p.isPrefixOf s)) ∧ w' = w := Tryz.strings_HasPrefix (sb s) (sb p) w
theorem trim_sb (s p : List UInt8) (w : World) : Calls Tryz.prog 140 #[.string (sb s), .string (sb p)] w fun e w' => e = .returned (.string (sb (if p.isPrefixOf s = true then s.drop p.length else s))) ∧ w' = w := Tryz.strings_TrimPrefix (sb s) (sb p) w
theorem cutp_sb (s p : List UInt8) (w : World) : Calls Tryz.prog 92 #[.string (sb s), .string (sb p)] w fun e w' => e = .returned (.tuple #[.string (sb (if p.isPrefixOf s = true then s.drop p.length else s)), .bool (p.isPrefixOf s)]) ∧ w' = w := Tryz.strings_CutPrefix (sb s) (sb p) w
theorem idx_sb (s : List UInt8) (c : UInt8) (w : World) : Calls Tryz.prog 93 #[.string (sb s), .int .u8 (n8 c)] w fun e w' => e = .returned (.int .i64 (Lib.indexByte s c)) ∧ w' = w := by
  have h := Tryz.strings_IndexByte (sb s) (n8 c) w
  rw [n8_to, sb_data] at h
  exact h

/-- A builder in block b: what has been written to it. -/
def Bld (b : Nat) (acc : List UInt8) (w : World) : Prop := Lib.IsBuilderF 78 5 b b (Lib.byteCells acc) w
theorem Bld.fresh (w : World) : Bld w.heap.size [] (w.alloc (.cells #[.pointer none, .slice none 0 0] 78)) := Lib.IsBuilderF.of (Lib.fresh_isBuilder _ _ w)
theorem Bld.alloc {b : Nat} {acc : List UInt8} {w : World} (h : Bld b acc w) (o : Obj) : Bld b acc (w.alloc o) := Lib.IsBuilderF.alloc h o
theorem Bld.iterAt {b : Nat} {acc : List UInt8} {w : World} (h : Bld b acc w) {k : Nat} {s : ByteArray} {pos : Nat} (hk : w.heap[k]? = some (.stringIter s pos)) (pos' : Nat) : Bld b acc (w.iterAt k s pos') := Lib.IsBuilderF.iterAt h hk pos'
theorem Bld.below {b : Nat} {acc : List UInt8} {w w' : World} (h : Bld b acc w) (hb : Below w.heap.size w w') : Bld b acc w' := by
  have key : ∀ p, Lib.BuilderAtF 78 5 b b p (Lib.byteCells acc) w → Lib.BuilderAtF 78 5 b b p (Lib.byteCells acc) w' := fun p hp => by
    obtain ⟨hB, v, hh, hown, hne⟩ := hp
    refine ⟨hB, v, (hb.block b (Array.getElem?_eq_some_iff.1 hh).1).trans hh, ⟨hown.1, ?_⟩, hne⟩
    rcases hown.2 with hn | ⟨g, cap, cur, fz, hv, hbg, hg, rest⟩
    · exact .inl hn
    · exact .inr ⟨g, cap, cur, fz, hv, hbg, (hb.block g (Array.getElem?_eq_some_iff.1 hg).1).trans hg, rest⟩
  exact h.elim (fun x => .inl (key _ x)) (fun x => .inr (key _ x))
theorem heap_below {w w' : World} {k : Nat} {o : Obj} (h : w.heap[k]? = some o) (hb : Below w.heap.size w w') : w'.heap[k]? = some o :=
  (hb.block k (Array.getElem?_eq_some_iff.1 h).1).trans h
/-- What a write leaves. -/
structure Wrote (b : Nat) (acc : List UInt8) (w w' : World) : Prop where
  bld : Bld b acc w'
  below : Below b w w'
  kept : Lib.OthersKept 5 (some b) w w'
theorem bld_byte {b : Nat} {acc : List UInt8} {w : World} (h : Bld b acc w) (hl : acc.length ≤ 100000000000) (hb : b ≤ w.heap.size) (c : UInt8) :
    Calls Tryz.prog 130 #[.pointer (some ⟨b, 0, none⟩), .int .u8 (n8 c)] w fun e w' => e = .returned .nilIface ∧ Wrote b (acc ++ [c]) w w' := by
  refine (Tryz.Builder_WriteByte_k b b _ (n8 c) w h (by rw [Lib.byteCells_length]; omega) hb).mono ?_
  rintro e w' ⟨rfl, h1, h2, h3⟩
  refine ⟨rfl, ?_, h2, h3⟩
  unfold Bld
  rw [Lib.byteCells_append]
  exact .inr h1
theorem bld_str {b : Nat} {acc : List UInt8} {w : World} (h : Bld b acc w) (hl : acc.length ≤ 100000000000) (hb : b ≤ w.heap.size) (s : List UInt8) (hs : s.length ≤ 100000000000) :
    Calls Tryz.prog 132 #[.pointer (some ⟨b, 0, none⟩), .string (sb s)] w fun e w' => e = .returned (.tuple #[.int .i64 (s.length : Int), .nilIface]) ∧ Wrote b (acc ++ s) w w' := by
  refine (Tryz.Builder_WriteString_k b b _ (sb s) w h (by rw [Lib.byteCells_length, sb_size]; omega) hb).mono ?_
  rintro e w' ⟨rfl, h1, h2, h3⟩
  refine ⟨rfl, ?_, h2, h3⟩
  unfold Bld
  rw [Lib.byteCells_append]
  exact .inr h1
theorem bld_rune {b : Nat} {acc : List UInt8} {w : World} (h : Bld b acc w) (hl : acc.length ≤ 100000000000) (hb : b ≤ w.heap.size) {n : Nat} (hn : scalar n = true) :
    Calls Tryz.prog 56 #[.pointer (some ⟨b, 0, none⟩), .int .i32 (n : Int)] w fun e w' => (∃ v, e = .returned v) ∧ Wrote b (acc ++ bytesF n) w w' := by
  have hs := scalar_is.1 hn
  refine (Tryz.Builder_WriteRune_k b b _ (n : Int) (by omega) (by omega) w h (by rw [Lib.byteCells_length]; omega) hb).mono ?_
  rintro e w' ⟨rfl, h1, h2, h3⟩
  refine ⟨⟨_, rfl⟩, ?_, h2, h3⟩
  rw [← Lib.byteCells_encodeRune, enc_is hn, ← Lib.byteCells_append] at h1
  exact .inr h1
theorem bld_out {b : Nat} {acc : List UInt8} {w : World} (h : Bld b acc w) (hb : b ≤ w.heap.size) :
    Calls Tryz.prog 57 #[.pointer (some ⟨b, 0, none⟩)] w fun e w' => e = .returned (.string (sb acc)) ∧ Below b w w' := by
  refine (Tryz.Builder_String_any_k b b acc w h hb).mono ?_
  rintro e w' ⟨rfl, h1, h2, h3⟩
  exact ⟨rfl, h2⟩
/-- A call that turns nothing, behind draws. -/
theorem quiet_eq {P : Program} {f : FuncId} {args : Array Value} {w : World} {a n : Nat} {v : Value}
    (h : Calls P f args (w.drewN (a + n)) fun e w' => e = .returned v ∧ w' = w.drewN (a + n)) :
    Calls P f args (w.drewN (a + n)) fun e w'' => e = .returned v ∧ ∃ m, w'' = w.drewN (a + m) :=
  h.mono fun _ _ ⟨he, hw⟩ => ⟨he, n, hw⟩
theorem quiet_eq0 {P : Program} {f : FuncId} {args : Array Value} {w : World} {n : Nat} {v : Value}
    (h : Calls P f args (w.drewN n) fun e w' => e = .returned v ∧ w' = w.drewN n) :
    Calls P f args (w.drewN n) fun e w'' => e = .returned v ∧ ∃ m, w'' = w.drewN m :=
  h.mono fun _ _ ⟨he, hw⟩ => ⟨he, n, hw⟩
/-- The library's errors. -/
structure ErrOk (w : World) : Prop where
  syn : ∃ te pe, w.cell? ⟨5, 0, none⟩ = some (.iface te pe)
  ran : ∃ te pe, w.cell? ⟨6, 0, none⟩ = some (.iface te pe)
theorem ErrOk.below {w w' : World} (h : ErrOk w) (hb : Below w.heap.size w w') : ErrOk w' := by
  obtain ⟨⟨a, b, h1⟩, ⟨c, d, h2⟩⟩ := h
  exact ⟨⟨a, b, (kept_below hb).cell h1 (fun h => h)⟩, ⟨c, d, (kept_below hb).cell h2 (fun h => h)⟩⟩
theorem below_bytes {w w' : World} {t : TypeId} (h : w' = w ∨ ∃ x, w' = Lib.bytesWorld w t x) : Below w.heap.size w w' := by
  rcases h with rfl | ⟨x, rfl⟩
  · exact Below.refl _ _
  · exact Lib.bytesWorld_below w t x
end Jt
end Go.Proofs.YtfgflgifffjdgaaGreatDoor
