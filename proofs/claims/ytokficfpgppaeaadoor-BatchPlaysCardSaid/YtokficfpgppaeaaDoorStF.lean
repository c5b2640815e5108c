/-
  A store's calls once more, with digests whose bytes have a name of their own; a slice of few blobs.
-/
import Derived.Test.YtokficfpgppaeaaDoorStPut
import Derived.Test.YtokficfpgppaeaaDoorStCopy
import Derived.Test.YtokficfpgppaeaaDoorStKeys
import Derived.Test.YtokficfpgppaeaaDoorOpens
namespace Go.Proofs.YtokficfpgppaeaaDoor
open Go Go.RowKit Go.Maps Go.Sort Sh

/-- A blob has come in; D: its digest's cells. -/
def PutNewD (w : World) (s mb : Nat) (T : List (Value × List UInt8)) (room : Nat) (Z : Nat → Prop) (bs : List UInt8) (D : List Value) (e : Ending) (w' : World) : Prop :=
  ∃ v, e = .returned (.tuple #[.agg D.toArray, .int .i64 0]) ∧ Hid (StAt w' s mb (T ++ [(v, bs)]) room Z) ∧ Hid (Kept w w' (stZ s mb))

section
variable {w : World} {s mb : Nat} {T : List (Value × List UInt8)} {room : Nat} {Z : Nat → Prop}
theorem put_there (h : StAt w s mb T room Z) (A : Option Addr) (c : Nat) (bs : List UInt8) (D : List Value) (hD : (digest bs).map v8 = D) (hK : KT w) (S : BytesAt w A bs.length c bs) (hA : A = none → c = 0) (hlen : bs.length ≤ 549755813888) (hh : hasE (entries T) (dg bs) = true) :
    Calls Tryd.prog 19 #[.pointer (some ⟨s, 0, none⟩), .slice A bs.length c] w fun e w' => e = .returned (.tuple #[.agg D.toArray, .int .i64 0]) ∧ Hid (StAt w' s mb T room Z) ∧ Hid (Kept w w' (fun _ => False)) := by
  subst hD
  exact sput_there h A c bs hK S hA hlen hh
theorem put_full (h : StAt w s mb T room Z) (A : Option Addr) (c : Nat) (bs : List UInt8) (hK : KT w) (S : BytesAt w A bs.length c bs) (hA : A = none → c = 0) (hlen : bs.length ≤ 549755813888) (hh : hasE (entries T) (dg bs) = false) (hf : room < usedN T + bs.length) :
    Calls Tryd.prog 19 #[.pointer (some ⟨s, 0, none⟩), .slice A bs.length c] w fun e w' => e = .returned (.tuple #[.agg (List.replicate 32 (v8 0)).toArray, .int .i64 2]) ∧ Hid (StAt w' s mb T room Z) ∧ Hid (Kept w w' (fun _ => False)) :=
  sput_full h A c bs hK S hA hlen hh hf
theorem put_new (h : StAt w s mb T room Z) (A : Option Addr) (c : Nat) (bs : List UInt8) (D : List Value) (hD : (digest bs).map v8 = D) (hK : KT w) (S : BytesAt w A bs.length c bs) (hA : A = none → c = 0) (hlen : bs.length ≤ 549755813888) (hh : hasE (entries T) (dg bs) = false) (hf : usedN T + bs.length ≤ room) (hfew : T.length < 1000000) :
    Calls Tryd.prog 19 #[.pointer (some ⟨s, 0, none⟩), .slice A bs.length c] w (PutNewD w s mb T room Z bs D) := by
  subst hD
  exact sput_new h A c bs hK S hA hlen hh hf hfew
theorem has_D (h : StAt w s mb T room Z) (x : D32) (D : List Value) (hD : x.1.map v8 = D) {b : Bool} (hb : hasE (entries T) x = b) :
    Calls Tryd.prog 30 #[.pointer (some ⟨s, 0, none⟩), .agg D.toArray] w fun e w' => e = .returned (.bool b) ∧ Hid (Kept w w' (fun _ => False)) := by
  subst hD; subst hb
  exact shas_any h x
theorem get_D (h : StAt w s mb T room Z) (x : D32) (D : List Value) (hD : x.1.map v8 = D) {b : Bool} (hb : hasE (entries T) x = b) {bs : List UInt8} (hbs : bsE T x = bs) :
    Calls Tryd.prog 46 #[.pointer (some ⟨s, 0, none⟩), .agg D.toArray] w (GotIs w bs b) := by
  subst hD; subst hb; subst hbs
  exact sget_any h x
end

/-- How many bytes the first k rows have. -/
def sumB (B : Nat → List UInt8) : Nat → Nat
  | 0 => 0
  | k + 1 => sumB B k + (B k).length
theorem sumB_le (B : Nat → List UInt8) {i k : Nat} (h : i < k) : (B i).length ≤ sumB B k := by
  induction k with
  | zero => omega
  | succ k ih =>
    simp only [sumB]
    by_cases e : i = k
    · subst e; omega
    · have := ih (by omega); omega
theorem sumB_mono (B : Nat → List UInt8) {i k : Nat} (h : i ≤ k) : sumB B i ≤ sumB B k := by
  induction k with
  | zero => obtain rfl : i = 0 := by omega
            exact Nat.le_refl _
  | succ k ih =>
    by_cases e : i = k + 1
    · subst e; exact Nat.le_refl _
    · have := ih (by omega); simp only [sumB]; omega
theorem sumB_bound (B : Nat → List UInt8) (k : Nat) (hB : ∀ i, i < k → (B i).length ≤ maxLen) : sumB B k ≤ k * maxLen := by
  induction k with
  | zero => simp [sumB]
  | succ k ih =>
    have h1 := ih (fun i hi => hB i (by omega))
    have h2 := hB k (by omega)
    simp only [sumB, Nat.add_mul, Nat.one_mul]
    omega

/-- Are blobs few, and short? -/
def fewB (n : Nat) (B : Nat → List UInt8) : Bool := decide ((n : Int) ≤ 40) && decide ((sumB B n : Int) ≤ 2000)
theorem fewB_n {n : Nat} {B : Nat → List UInt8} (h : fewB n B = true) : n ≤ 40 ∧ sumB B n ≤ 2000 := by
  simp only [fewB, Bool.and_eq_true, decide_eq_true_eq] at h
  omega

set_option maxRecDepth 100000 in
set_option maxHeartbeats 1000000 in
theorem few_any (w : World) (A : Option Addr) (n c : Nat) (X : Nat → Option Addr) (C : Nat → Nat) (B : Nat → List UInt8) (hm : n ≤ maxLen) (S : RowsAt w A n X C B) (hB : ∀ i, i < n → (B i).length ≤ 140737488351232) :
    Calls Tryd.prog 29 #[.slice A n c] w fun e w' => e = .returned (.bool (fewB n B)) ∧ Hid (Kept w w' (fun _ => False)) := by
  have HS := Lib.hid S
  have HB := Lib.hid hB
  unfold maxLen at hm
  clear S hB
  go_enter Tryd.func29, Tryd.ntmps29
  go_wp2
  go_loopg [3, 4] n (fun gg s3 s4 wr => ∃ (k : Nat) (z : Int), s4 = .int .i64 k ∧ s3 = .int .i64 z ∧ k ≤ n ∧ gg = n - k ∧ (n ≤ 40 → z = (sumB B k : Int)) ∧ Hid (Kept w wr (fun _ => False)))
  case atStart => exact ⟨0, 0, rfl, rfl, Nat.zero_le _, rfl, fun _ => rfl, Kept.refl _ _⟩
  case round =>
    obtain ⟨k, z, rfl, rfl, hk, hg, hz, K⟩ := hrel
    by_cases hlt : k < n
    · obtain ⟨b0, o0, rfl, hb0⟩ := HS.out.at_ (by omega)
      have hc := (HS.out.kept K.out).cell k hlt b0 o0 rfl
      have hzn : n ≤ 40 → wrap64 (z + ((B k).length : Int)) = (sumB B (k + 1) : Int) := fun h40 => by
        have h1 := hz h40
        have h2 : sumB B k ≤ k * 140737488351232 := by
          have : ∀ j, j ≤ n → sumB B j ≤ j * 140737488351232 := fun j => by
            induction j with
            | zero => intro _; simp [sumB]
            | succ j ih =>
              intro hj
              have := ih (by omega)
              have := HB.out j (by omega)
              simp only [sumB]; omega
          exact this k hk
        have h3 := HB.out k hlt
        simp only [sumB]
        unfold wrap64
        omega
      have HZ := Lib.hid hzn
      clear hz hzn
      go_wp2_with fail
      go_roundg (n - (k + 1))
      case rel => exact ⟨k + 1, _, by go_num, rfl, by omega, rfl, HZ.out, K⟩
      case measure => omega
    · obtain rfl : k = n := by omega
      by_cases h40 : k ≤ 40
      · have h1 := hz h40
        subst h1
        go_wp2_with fail
        go_ret
        refine ⟨?_, K⟩
        simp [fewB]
        try omega
      · go_wp2_with fail
        go_ret
        refine ⟨?_, K⟩
        simp [fewB]
        try omega
end Go.Proofs.YtokficfpgppaeaaDoor

namespace Go.Proofs.YtokficfpgppaeaaDoor
open Go Go.RowKit Go.Maps Go.Sort Sh

def zero32 : D32 := ⟨List.replicate 32 0, rfl⟩
set_option maxRecDepth 1000000 in
theorem ab_cd : decide (digest [97, 98] = digest [99, 100]) = false := by decide +kernel
set_option maxRecDepth 1000000 in
theorem ab_x : decide (digest [97, 98] = digest [120]) = false := by decide +kernel
set_option maxRecDepth 1000000 in
theorem ab_zero : decide (digest [97, 98] = List.replicate 32 0) = false := by decide +kernel
theorem dg_ne {a b : List UInt8} (h : decide (digest a = digest b) = false) : dg a ≠ dg b := fun e => of_decide_eq_false h (congrArg Subtype.val e)
theorem has_ab_cd (v : Value) : hasE (entries [(v, [97, 98])]) (dg [99, 100]) = false := by
  cases e : hasE (entries [(v, [97, 98])]) (dg [99, 100]) with
  | false => rfl
  | true =>
    obtain ⟨t, ht, h⟩ := dg_mem.1 e
    simp only [List.mem_singleton] at ht
    subst ht
    exact absurd h (dg_ne ab_cd)
theorem has_ab_x (v : Value) : hasE (entries [(v, [97, 98])]) (dg [120]) = false := by
  cases e : hasE (entries [(v, [97, 98])]) (dg [120]) with
  | false => rfl
  | true =>
    obtain ⟨t, ht, h⟩ := dg_mem.1 e
    simp only [List.mem_singleton] at ht
    subst ht
    exact absurd h (dg_ne ab_x)
theorem has_ab_zero (v : Value) : hasE (entries [(v, [97, 98])]) zero32 = false := by
  cases e : hasE (entries [(v, [97, 98])]) zero32 with
  | false => rfl
  | true =>
    obtain ⟨t, ht, h⟩ := dg_mem.1 e
    simp only [List.mem_singleton] at ht
    subst ht
    exact absurd (congrArg Subtype.val h) (of_decide_eq_false ab_zero)
theorem has_ab (v : Value) (bs : List UInt8) : hasE (entries [(v, bs)]) (dg bs) = true := dg_mem.2 ⟨_, List.mem_singleton.2 rfl, rfl⟩
theorem has_none (x : D32) : hasE (entries []) x = false := by
  cases e : hasE (entries []) x with
  | false => rfl
  | true => obtain ⟨t, ht, _⟩ := dg_mem.1 e; cases ht
theorem bsE_one (v : Value) (bs : List UInt8) : bsE [(v, bs)] (dg bs) = bs := by simp [bsE]
theorem keysOf_one (v : Value) (bs : List UInt8) : keysOf [(v, bs)] = [dg bs] := by simp [keysOf]
theorem perm_one {T' : List (Value × List UInt8)} {bs : List UInt8} (h : (T'.map (·.2)).Perm ([((default : Value), bs)].map (·.2))) : ∃ v, T' = [(v, bs)] := by
  have h1 := h.length_eq
  match T', h1 with
  | [t], _ =>
    have h2 : t.2 ∈ [t].map (·.2) := by simp
    have := h.subset h2
    simp at this
    exact ⟨t.1, by rw [← this]⟩
theorem bytes_const (w : World) (bs : List UInt8) (e : TypeId) (fr : Nat × Nat) {C : Array Value} (hC : C = (bs.map v8).toArray) {n : Nat} (hn : bs.length = n) : BytesAt (w.alloc (.cells C e fr)) (some ⟨w.heap.size, 0, none⟩) bs.length n bs := by
  subst hC
  subst hn
  refine ⟨rfl, Nat.le_refl _, fun _ => ⟨_, _, rfl, by simp, fun j v hj => ?_⟩⟩
  rw [cell_of_row _ _ _ _ _ _ (heap_alloc_new w _), Nat.zero_add]
  simpa using hj
theorem fold_push' (bs : List UInt8) : ∀ r : ByteArray, (bs.map n8).foldl (fun r n => r.push (UInt8.ofNat n.toNat)) r = ⟨r.data ++ bs.toArray⟩ := by
  induction bs with
  | nil => intro r; simp
  | cons x l ih =>
    intro r
    rw [List.map_cons, List.foldl_cons, ih]
    congr 1
    rw [show UInt8.ofNat (n8 x).toNat = x from by rw [n8, Int.toNat_natCast, UInt8.ofNat_toNat]]
    simp [ByteArray.push]
/-- string(b) of a slice that is known, nil let in. -/
theorem conv_bytes (w : World) (A : Option Addr) (n c : Nat) (bs : List UInt8) (S : BytesAt w A n c bs) :
    (convert 35 9 (.slice A n c)).run Tryd.prog w = .ok (.string ⟨bs.toArray⟩) w := by
  rw [run_convert_bytes_string w _ _ _ _ _ _ Tryd.underlying35 Tryd.underlying5 Tryd.underlying9]
  have hlen := S.len
  cases A with
  | none =>
    have hn : n = 0 := by
      rcases Nat.eq_zero_or_pos n with h | h
      · exact h
      · obtain ⟨b, o, e, _⟩ := S.at_ h
        cases e
    subst hn
    have hb : bs = [] := List.eq_nil_of_length_eq_zero hlen
    subst hb
    rfl
  | some ad =>
    subst hlen
    have hl := run_loadCells_list (P := Tryd.prog) w ad (bs.map v8) (fun j v hj => by
      have hjl : j < bs.length := by simpa using (List.getElem?_eq_some_iff.1 hj).1
      obtain ⟨b, o, e, _, hr⟩ := S.at_ (by omega)
      cases e
      rw [Addr.add_mid]
      exact hr j v hj)
    rw [List.length_map] at hl
    have e : bs.map v8 = (bs.map n8).map (Value.int .u8) := by rw [List.map_map]; rfl
    rw [e] at hl
    rw [run_bytesToString w ad bs.length c (bs.map n8) hl, fold_push']
    simp
theorem load_mid_g {w : World} {ops : Array Oper} {rest : List Oper} {o : Oper} {a : Act} {Q : Exit → Act → World → Prop} (hw : Region.wanted o (yielded ops a.tmps) = true) (x : Operand) (ho : o.op = .load 39 x)
    (b off : Nat) (D : List Value) (hD : D.length = 32) (hx : a.eval x = .pointer (some ⟨b, off, none⟩)) (hr : w.rangeAt b off D)
    (h : wpList Tryd.prog ops Q rest (a.put o.dst (.agg D.toArray)) w) : wpList Tryd.prog ops Q (o :: rest) a w :=
  wpList_wanted hw fun _ hK => wp_load_mid 39 x ho b off hx D _ hr Tryd.underlying39 rfl (by rw [hD]; kernel_rfl) (hK _ _ h)
section
variable {w : World} {s mb : Nat} {T : List (Value × List UInt8)} {room : Nat} {Z : Nat → Prop}
theorem used_D (h : StAt w s mb T room Z) (n : Int) (hn : (usedN T : Int) = n) : Calls Tryd.prog 27 #[.pointer (some ⟨s, 0, none⟩)] w fun e w' => e = .returned (.int .i64 n) ∧ w = w' := by
  subst hn
  exact sused_any h
theorem room_D (h : StAt w s mb T room Z) (n : Int) (hn : (room : Int) = n) : Calls Tryd.prog 31 #[.pointer (some ⟨s, 0, none⟩)] w fun e w' => e = .returned (.int .i64 n) ∧ w = w' := by
  subst hn
  exact sroom_any h
end
theorem dig_len (bs : List UInt8) : ((digest bs).map v8).length = 32 := by rw [List.length_map]; exact (dg bs).2
theorem dig_cell (bs : List UInt8) : (((digest bs).map v8).toArray.all (·.oneCell')) = true := oneCell_map v8 (fun _ => rfl) _
theorem kept_new {a b c : World} {S : Nat → Prop} (h : Kept a b (fun _ => False)) (k : Kept b c S) (hS : ∀ x, x < a.heap.size → ¬ S x) : Kept a c (fun _ => False) :=
  ⟨k.os.trans h.os, k.tape.trans h.tape, k.output.trans h.output, Nat.le_trans h.size k.size, fun i hi _ => (k.block i (Nat.lt_of_lt_of_le hi h.size) (hS i hi)).trans (h.block i hi (fun h => h))⟩
end Go.Proofs.YtokficfpgppaeaaDoor

namespace Go.Proofs.YtokficfpgppaeaaDoor
open Go Go.RowKit Go.Maps Go.Sort Sh

/-- What Put does to the blobs T, and what it tells. -/
def PutStep (T : List (Value × List UInt8)) (room : Nat) (bs : List UInt8) (T' : List (Value × List UInt8)) (D : List Value) (E : Int) : Prop :=
  (hasE (entries T) (dg bs) = true ∧ T' = T ∧ D = (digest bs).map v8 ∧ E = 0) ∨
  (hasE (entries T) (dg bs) = false ∧ room < usedN T + bs.length ∧ T' = T ∧ D = List.replicate 32 (v8 0) ∧ E = 2) ∨
  (hasE (entries T) (dg bs) = false ∧ usedN T + bs.length ≤ room ∧ D = (digest bs).map v8 ∧ E = 0 ∧ ∃ v, T' = T ++ [(v, bs)])
def PutIs (w : World) (s mb : Nat) (T : List (Value × List UInt8)) (room : Nat) (Z : Nat → Prop) (bs : List UInt8) (e : Ending) (w' : World) : Prop :=
  ∃ T' D E, e = .returned (.tuple #[.agg D.toArray, .int .i64 E]) ∧ Hid (StAt w' s mb T' room Z) ∧ Hid (Kept w w' (stZ s mb)) ∧ Hid (D.length = 32) ∧ Hid (D.toArray.all (·.oneCell') = true) ∧ Hid (PutStep T room bs T' D E)
theorem zero_cell : ((List.replicate 32 (v8 0)).toArray.all (·.oneCell')) = true := oneCell_map v8 (fun _ => rfl) (List.replicate 32 0)
theorem kept_never {w w' : World} {S : Nat → Prop} (k : Kept w w' (fun _ => False)) : Kept w w' S := k.mono fun _ _ h => h.elim
theorem put_any {w : World} {s mb : Nat} {T : List (Value × List UInt8)} {room : Nat} {Z : Nat → Prop} (h : StAt w s mb T room Z) (A : Option Addr) (c : Nat) (bs : List UInt8) (hK : KT w) (S : BytesAt w A bs.length c bs) (hA : A = none → c = 0) (hlen : bs.length ≤ 549755813888) (hfew : T.length < 1000000) :
    Calls Tryd.prog 19 #[.pointer (some ⟨s, 0, none⟩), .slice A bs.length c] w (PutIs w s mb T room Z bs) := by
  cases hh : hasE (entries T) (dg bs) with
  | true =>
    refine (put_there h A c bs _ rfl hK S hA hlen hh).mono ?_
    rintro e w' ⟨rfl, h1, h2⟩
    exact ⟨T, _, 0, rfl, h1, kept_never h2.out, dig_len _, dig_cell _, .inl ⟨hh, rfl, rfl, rfl⟩⟩
  | false =>
    by_cases hf : usedN T + bs.length ≤ room
    · refine (put_new h A c bs _ rfl hK S hA hlen hh hf hfew).mono ?_
      rintro e w' ⟨v, rfl, h1, h2⟩
      exact ⟨_, _, 0, rfl, h1, h2, dig_len _, dig_cell _, .inr (.inr ⟨hh, hf, rfl, rfl, v, rfl⟩)⟩
    · refine (put_full h A c bs hK S hA hlen hh (by omega)).mono ?_
      rintro e w' ⟨rfl, h1, h2⟩
      exact ⟨T, _, 2, rfl, h1, kept_never h2.out, rfl, zero_cell, .inr (.inl ⟨hh, by omega, rfl, rfl, rfl⟩)⟩
theorem PutStep.le {T T' : List (Value × List UInt8)} {room : Nat} {bs : List UInt8} {D : List Value} {E : Int} (h : PutStep T room bs T' D E) : T'.length ≤ T.length + 1 := by
  rcases h with ⟨_, rfl, _⟩ | ⟨_, _, rfl, _⟩ | ⟨_, _, _, _, v, rfl⟩ <;> simp
theorem keysOf_len (T : List (Value × List UInt8)) : (keysOf T).length = T.length := by rw [(keys_perm T).length_eq, List.length_map]
/-- Keys rise. -/
theorem StAt.rise {w : World} {s mb : Nat} {T : List (Value × List UInt8)} {room : Nat} {Z : Nat → Prop} (h : StAt w s mb T room Z) (i : Nat) (hi : i + 1 < (keysOf T).length) : lt32 ((keysOf T).getD i default) ((keysOf T).getD (i + 1) default) = true := by
  have hnd : (keysOf T).Nodup := by
    refine (keys_perm T).nodup_iff.2 ?_
    have := h.map.nodup
    rwa [entries, List.map_map] at this
  have hp : (keysOf T).Pairwise fun x y => le32 x y = true := List.pairwise_mergeSort le32_trans le32_total _
  have h1 := List.pairwise_iff_getElem.1 hp i (i + 1) (by omega) hi (by omega)
  have h2 : (keysOf T)[i] ≠ (keysOf T)[i + 1] := List.pairwise_iff_getElem.1 hnd i (i + 1) (by omega) hi (by omega)
  have e1 : (keysOf T).getD i default = (keysOf T)[i] := by simp [List.getD, show i < (keysOf T).length by omega]
  have e2 : (keysOf T).getD (i + 1) default = (keysOf T)[i + 1] := by simp [List.getD, hi]
  rw [e1, e2]
  cases hc : lt32 (keysOf T)[i] (keysOf T)[i + 1] with
  | true => rfl
  | false => exact absurd (le32_anti h1 (by simp [le32, hc])) h2
end Go.Proofs.YtokficfpgppaeaaDoor
