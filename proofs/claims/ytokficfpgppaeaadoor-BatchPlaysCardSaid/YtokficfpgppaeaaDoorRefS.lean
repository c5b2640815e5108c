/-
  The reference's turn.
-/
import Derived.Test.YtokficfpgppaeaaDoorShaA
import Derived.Test.YtokficfpgppaeaaDoorDigA
import Derived.Test.YtokficfpgppaeaaDoorShaC
import Derived.Lib.QuietBelow
import Derived.Lib.SlBytesConst
import Derived.Test.YtokficfpgppaeaaDoorShaB
import Derived.BigQuiet
namespace Go.Proofs.YtokficfpgppaeaaDoor
open Go.RowKit Sh
set_option maxHeartbeats 400000 in
theorem turn_any (x : W) (n : Int) (w : World) (hn : 1 ≤ n) (hn' : n ≤ 31) :
    Calls Tryd.prog 33 #[.int .u32 (n32 x), .int .u64 n] w fun e w' => e = .returned (.int .u32 (n32 (rotr x n.toNat))) ∧ w = w' := by
  have h0 := n32_nonneg x
  have h1 := n32_lt x
  go_enter Tryd.func33, Tryd.ntmps33
  go_wp2
  go_ret
  refine ⟨ret_int ?_, rfl⟩
  have e1 : (32 - n).toNat = 32 - n.toNat := by omega
  rw [e1, shl_fold, shr_fold, or_fold]
  rfl
end Go.Proofs.YtokficfpgppaeaaDoor

namespace Go.Proofs.YtokficfpgppaeaaDoor
open Go.RowKit Sh

def padded (bs : List UInt8) (z j : Nat) : List UInt8 := bs ++ 128 :: (List.replicate z 0 ++ (List.range j).map (byteAt (bs.length * 8)))
theorem padded_all (bs : List UInt8) : padded bs (zerosOf bs.length) 8 = bs ++ padding bs.length := rfl
theorem padded_zero (bs : List UInt8) (z : Nat) : padded bs z 0 ++ [0] = padded bs (z + 1) 0 := by
  simp [padded, List.replicate_succ']
theorem padded_byte (bs : List UInt8) (z j : Nat) : padded bs z j ++ [byteAt (bs.length * 8) j] = padded bs z (j + 1) := by
  simp [padded, List.range_succ]
theorem padded_length (bs : List UInt8) (z j : Nat) : (padded bs z j).length = bs.length + 1 + z + j := by
  simp [padded]; omega

structure PadAt (w wr : World) (bs : List UInt8) (z j : Nat) (A : Option Addr) (c : Nat) : Prop where
  own : OwnBytes wr w.heap.size (.slice A (bs.length + 1 + z + j) c) (padded bs z j)
  kept : Kept w wr (fun _ => False)
theorem PadAt.of {w wr : World} {bs : List UInt8} {z j L : Nat} {v : Value} (hL : bs.length + 1 + z + j = L) (h : OwnBytes wr w.heap.size v (padded bs z j)) (k : Kept w wr (fun _ => False)) : ∃ A c, v = .slice A L c ∧ Hid (PadAt w wr bs z j A c) := by
  subst hL
  obtain ⟨A, c, e, _⟩ := h.bytes
  rw [padded_length] at e
  subst e
  exact ⟨A, c, rfl, h, k⟩

set_option maxRecDepth 100000 in
set_option maxHeartbeats 1000000 in
theorem pad_any (w : World) (A : Option Addr) (c : Nat) (bs : List UInt8) (S : BytesAt w A bs.length c bs) (hA : A = none → c = 0) (hn : bs.length ≤ 549755813888) :
    Calls Tryd.prog 32 #[.slice A bs.length c] w fun e w' => (∃ v, e = .returned v ∧ Hid (OwnBytes w' w.heap.size v (bs ++ padding bs.length))) ∧ Below w.heap.size w w' := by
  have HS := Lib.hid S
  have HA := Lib.hid hA
  have hz : zerosOf bs.length < 64 := Nat.mod_lt _ (by decide)
  clear S hA
  go_enter Tryd.func32, Tryd.ntmps32
  go_upto_region 2 with ((at_builtin; with_reducible refine append_bytes ?_ (.tmp 6) (.tmp 7) ?_ w.heap.size _ [] ?_ (OwnBytes.row (b := w.heap.size) (Row.at_ _ _ [] rfl rfl) (Nat.le_refl _) (Nat.zero_le _)) A bs.length c bs ?_ (HS.out.kept (kept_alloc _ _) (fun _ _ _ _ h => h)) HA.out ?_ ?_ ?_); rfl; rfl; go_must (rfl; rfl; (rw [List.length_nil]; omega); simp; intro v1 w1 O1 K1))
  rw [List.nil_append] at O1
  have C1 := Lib.hid (show Kept w w1 (fun _ => False) from kept_own (kept_alloc w _) K1.out (Nat.le_refl _))
  clear K1
  have z1 : w.heap.size ≤ w1.heap.size := C1.out.size
  go_wp2_with ((at_builtin; with_reducible refine append_bytes ?_ (.tmp 9) (.tmp 10) ?_ w.heap.size v1 bs ?_ (O1.out.kept (kept_alloc _ _) (fun _ _ h => h)) (some ⟨w1.heap.size, 0, none⟩) 1 1 [128] ?_ ?_ ?_ ?_ ?_ ?_); rfl; rfl; go_must (rfl; rfl; exact BytesAt.const w1 [128] _ _ rfl rfl; (intro e; cases e); omega; (simp; omega); intro v2 w2 O2 K2))
  have C2 := Lib.hid (show Kept w w2 (fun _ => False) from kept_own (kept_trans C1.out (kept_alloc w1 _)) K2.out (Nat.le_refl _))
  have P2 := PadAt.of (z := 0) (j := 0) (L := bs.length + 1) (by omega) O2.out C2.out
  obtain ⟨A2, c2, rfl, HP2⟩ := P2
  have HZ : Hid (zerosOf bs.length = (119 - bs.length % 64) % 64) := rfl
  generalize zerosOf bs.length = Z at *
  clear K2 O1 C1 z1 O2 C2
  go_loopw [3] (fun v wr => ∃ (z : Nat) (A : Option Addr) (c : Nat), z ≤ Z ∧ v = .slice A (bs.length + 1 + z) c ∧ Hid (PadAt w wr bs z 0 A c)) (fun v _ => (bs.length + 1 + Z) - sliceLen v)
  case atStart => exact ⟨0, A2, c2, Nat.zero_le _, rfl, HP2⟩
  case round =>
    obtain ⟨z, A3, c3, hzZ, rfl, HP3⟩ := hrel
    have hZ := HZ.out
    by_cases hlt : z < Z
    · have ht : (((bs.length : Int) + 1 + z) % 64 == 56) = false := by rw [beq_eq_false_iff_ne]; omega
      have ht' : (((bs.length : Int) + 1 + z) % 64 != 56) = true := by rw [bne_iff_ne]; omega
      clear hZ
      go_wp2_with ((at_builtin; with_reducible refine append_bytes ?_ (.tmp 16) (.tmp 17) ?_ w.heap.size _ (padded bs z 0) ?_ (HP3.out.own.kept (kept_alloc _ _) (fun _ _ h => h)) (some ⟨wr.heap.size, 0, none⟩) 1 1 [0] ?_ ?_ ?_ ?_ ?_ ?_); rfl; rfl; go_must (rfl; rfl; exact BytesAt.const wr [0] _ _ rfl rfl; (intro e; cases e); (rw [padded_length]; omega); (have := HP3.out.kept.size; simp; omega); intro v4 w4 O4 K4))
      have o4 := O4.out
      rw [padded_zero] at o4
      have k4 := kept_own (kept_trans HP3.out.kept (kept_alloc wr _)) K4.out (Nat.le_refl _)
      obtain ⟨A4, c4, rfl, HP4⟩ := PadAt.of (L := bs.length + 1 + (z + 1)) (by omega) o4 k4
      clear o4 k4 O4 K4
      go_roundw
      case rel => exact ⟨z + 1, A4, c4, by omega, rfl, HP4⟩
      case measure => simp only [sliceLen]; omega
    · have hzz : z = Z := by omega
      have ht : (((bs.length : Int) + 1 + z) % 64 == 56) = true := by rw [beq_iff_eq]; omega
      have ht' : (((bs.length : Int) + 1 + z) % 64 != 56) = false := by rw [bne_eq_false_iff_eq]; omega
      have HZZ := Lib.hid hzz
      clear hZ hlt hzz
      go_wp2_with fail
      go_loopw [3, 5] (fun v k wr2 => ∃ (j : Nat) (A : Option Addr) (c : Nat), j ≤ 8 ∧ v = .slice A (bs.length + 1 + z + j) c ∧ k = .int .i64 (7 - (j : Int)) ∧ Hid (PadAt w wr2 bs z j A c)) (fun _ k _ => (intOf k + 1).toNat)
      case atStart => exact ⟨0, A3, c3, by omega, rfl, rfl, HP3⟩
      case round =>
        obtain ⟨j, A5, c5, hj8, rfl, rfl, HP5⟩ := hrel
        by_cases hjl : j < 8
        · have hj' : (j : Int) < 8 := by omega
          have hX : #[Value.int .u8 ((bs.length : Int) * 8 / 2 ^ (8 * (7 - j)) % 256)] = (([byteAt (bs.length * 8) j] : List UInt8).map v8).toArray := by
            have e := byte_fold (bs.length * 8) (7 - j) (by omega)
            rw [IntKind.wrap_u8, Int.natCast_mul, show 7 - (7 - j) = j by omega] at e
            exact congrArg (fun x => #[Value.int .u8 x]) e
          have HX := Lib.hid hX
          clear hX
          go_wp2_with ((at_builtin; with_reducible refine append_bytes ?_ (.tmp 27) (.tmp 34) ?_ w.heap.size _ (padded bs z j) ?_ (HP5.out.own.kept (kept_alloc _ _) (fun _ _ h => h)) (some ⟨wr.heap.size, 0, none⟩) 1 1 [byteAt (bs.length * 8) j] ?_ ?_ ?_ ?_ ?_ ?_); rfl; rfl; go_must (rfl; rfl; exact BytesAt.const wr [byteAt (bs.length * 8) j] _ _ HX.out rfl; (intro e; cases e); (rw [padded_length]; omega); (have := HP5.out.kept.size; simp; omega); intro v6 w6 O6 K6))
          have o6 := O6.out
          rw [padded_byte] at o6
          have k6 := kept_own (kept_trans HP5.out.kept (kept_alloc wr _)) K6.out (Nat.le_refl _)
          obtain ⟨A6, c6, rfl, HP6⟩ := PadAt.of (L := bs.length + 1 + z + (j + 1)) rfl o6 k6
          clear o6 k6 O6 K6
          go_roundw
          case rel => exact ⟨j + 1, A6, c6, by omega, rfl, congrArg (Value.int .i64) (by omega), HP6⟩
          case measure => simp only [intOf]; omega
        · have hj : j = 8 := by omega
          have ho : OwnBytes wr w.heap.size (.slice A5 (bs.length + 1 + z + j) c5) (bs ++ padding bs.length) := by
            have h := HP5.out.own
            rw [hj, HZZ.out, HZ.out] at h ⊢
            exact h
          have HO := Lib.hid ho
          clear ho hj
          have hj' : (8 : Int) ≤ (j : Int) := by omega
          go_wp2_with fail
          go_ret
          exact ⟨⟨_, rfl, HO⟩, HP5.out.kept.below (Nat.le_refl _) (fun _ _ h => h)⟩
end Go.Proofs.YtokficfpgppaeaaDoor

namespace Go.Proofs.YtokficfpgppaeaaDoor
open Go.RowKit Sh

/-- What holds ahead of each block of the padded message p. -/
structure RefAt (w wr : World) (p : List UInt8) (A : Option Addr) (c : Nat) (i : Nat) : Prop where
  res : Row wr w.heap.size 39 (List.replicate 32 (v8 0))
  kt : Row wr (w.heap.size + 1) 67 (kt.map v32)
  h : Row wr (w.heap.size + 2) 68 (blocksN i iv p).vals.toList
  src : BytesAt wr A p.length c p
  far : ∀ b o, A = some ⟨b, o, none⟩ → w.heap.size + 3 ≤ b
  kept : Kept w wr (fun _ => False)
  more : w.heap.size + 3 ≤ wr.heap.size

theorem bytes_at (s : St) (j : Nat) (h : j < 32) : s.bytes.getD j 0 = UInt8.ofNat ((s.words.getD (j / 4) 0).toNat >>> (8 * (3 - j % 4))) := by
  match j, h with
  | 0, _ => rfl
  | 1, _ => rfl
  | 2, _ => rfl
  | 3, _ => rfl
  | 4, _ => rfl
  | 5, _ => rfl
  | 6, _ => rfl
  | 7, _ => rfl
  | 8, _ => rfl
  | 9, _ => rfl
  | 10, _ => rfl
  | 11, _ => rfl
  | 12, _ => rfl
  | 13, _ => rfl
  | 14, _ => rfl
  | 15, _ => rfl
  | 16, _ => rfl
  | 17, _ => rfl
  | 18, _ => rfl
  | 19, _ => rfl
  | 20, _ => rfl
  | 21, _ => rfl
  | 22, _ => rfl
  | 23, _ => rfl
  | 24, _ => rfl
  | 25, _ => rfl
  | 26, _ => rfl
  | 27, _ => rfl
  | 28, _ => rfl
  | 29, _ => rfl
  | 30, _ => rfl
  | 31, _ => rfl
  | k + 32, h => exact absurd h (by omega)
/-- The first j bytes of a digest, zeros behind. -/
def outZ (s : St) (j : Nat) : List Value := (s.bytes.take j ++ List.replicate (32 - j) 0).map v8
theorem outZ_all (s : St) : outZ s 32 = s.bytes.map v8 := rfl
theorem outZ_length (s : St) (j : Nat) (h : j ≤ 32) : (outZ s j).length = 32 := by
  have hl : s.bytes.length = 32 := rfl
  simp only [outZ, List.length_map, List.length_append, List.length_take, hl, List.length_replicate]
  omega
theorem outZ_step (s : St) (j : Nat) (h : j < 32) : (outZ s j).set j (v8 (s.bytes.getD j 0)) = outZ s (j + 1) := by
  have hl : s.bytes.length = 32 := rfl
  have hj : (s.bytes.take j).length = j := by rw [List.length_take, hl]; omega
  have hjl : j < s.bytes.length := by omega
  unfold outZ
  rw [← List.map_set, List.set_append_right _ _ (by omega), hj, Nat.sub_self, show 32 - j = (32 - (j + 1)) + 1 by omega, List.replicate_succ, List.set_cons_zero, List.take_add_one, List.getElem?_eq_getElem hjl]
  simp only [List.getD, List.getElem?_eq_getElem hjl, Option.getD_some, Option.toList_some, List.map_append, List.map_cons, List.append_assoc, List.cons_append, List.nil_append]
structure OutAt (w wr : World) (s : St) (g j : Nat) : Prop where
  res : Row wr w.heap.size 39 (List.replicate 32 (v8 0))
  h : Row wr (w.heap.size + 1 + 1) 68 s.vals.toList
  out : Row wr g 39 (outZ s j)
  kept : Kept w wr (fun _ => False)
theorem vals_at (s : St) (k : Nat) (h : k < 8) : s.vals.toList[k]? = some (.int .u32 (n32 (s.words.getD k 0))) := by
  match k, h with
  | 0, _ => rfl
  | 1, _ => rfl
  | 2, _ => rfl
  | 3, _ => rfl
  | 4, _ => rfl
  | 5, _ => rfl
  | 6, _ => rfl
  | 7, _ => rfl
  | k + 8, h => exact absurd h (by omega)

theorem blocksN_step (i : Nat) (s : St) (p : List UInt8) : blocksN (i + 1) s p = mix (blocksN i s p) ((p.drop (64 * i)).take 64) := by
  induction i generalizing s p with
  | zero => rfl
  | succ i ih => rw [blocksN, ih, blocksN, List.drop_drop, show 64 + 64 * i = 64 * (i + 1) by omega]
theorem vals_one (s : St) : s.vals.toList.toArray.all (·.oneCell') = true := all_oneCell_toArray (fun v hv => by
  rcases (by simpa [Sh.St.vals] using hv : v = v32 _ ∨ v = v32 _ ∨ v = v32 _ ∨ v = v32 _ ∨ v = v32 _ ∨ v = v32 _ ∨ v = v32 _ ∨ v = v32 _) with rfl | rfl | rfl | rfl | rfl | rfl | rfl | rfl <;> rfl)
theorem fold_bg1 (x : W) : bits BinOp.xor .u32 (bits BinOp.xor .u32 (n32 (rotr x 6)) (n32 (rotr x 11))) (n32 (rotr x 25)) = n32 (bg1 x) := by
  rw [xor_fold, xor_fold]; rfl
theorem fold_bg0 (x : W) : bits BinOp.xor .u32 (bits BinOp.xor .u32 (n32 (rotr x 2)) (n32 (rotr x 13))) (n32 (rotr x 22)) = n32 (bg0 x) := by
  rw [xor_fold, xor_fold]; rfl
theorem fold_ch (x y z : W) : bits BinOp.xor .u32 (bits BinOp.and .u32 (n32 x) (n32 y)) (bits BinOp.and .u32 (bits BinOp.xor .u32 (if IntKind.u32.signed = true then -1 else IntKind.u32.max) (n32 x)) (n32 z)) = n32 (ch x y z) := by
  rw [if_neg (by decide), not_fold, and_fold, and_fold, xor_fold]; rfl
theorem fold_maj (x y z : W) : bits BinOp.xor .u32 (bits BinOp.xor .u32 (bits BinOp.and .u32 (n32 x) (n32 y)) (bits BinOp.and .u32 (n32 x) (n32 z))) (bits BinOp.and .u32 (n32 y) (n32 z)) = n32 (maj x y z) := by
  rw [and_fold, and_fold, and_fold, xor_fold, xor_fold]; rfl
theorem add3_fold (a b c : W) : (n32 a + n32 b + n32 c) % 4294967296 = n32 (a + b + c) := by
  simp only [← add_fold]
  omega
theorem add4_fold (a b c d : W) : (n32 a + n32 b + n32 c + n32 d) % 4294967296 = n32 (a + b + c + d) := by
  simp only [← add_fold]
  omega
theorem fold_sg0 (x : W) : bits BinOp.xor .u32 (bits BinOp.xor .u32 (n32 (rotr x 7)) (n32 (rotr x 18))) (n32 x / 8) = n32 (sg0 x) := by
  rw [shr_fold3, xor_fold, xor_fold]; rfl
theorem fold_sg1 (x : W) : bits BinOp.xor .u32 (bits BinOp.xor .u32 (n32 (rotr x 17)) (n32 (rotr x 19))) (n32 x / 1024) = n32 (sg1 x) := by
  rw [shr_fold10, xor_fold, xor_fold]; rfl
structure WAt (w wr : World) (p : List UInt8) (A : Option Addr) (c i : Nat) (g : Nat) (L : List UInt8) (k : Nat) : Prop where
  at_ : RefAt w wr p A c i
  row : Row wr g 67 (wsZ L k)
  lo : ∀ b o, A = some ⟨b, o, none⟩ → b < g
  hi : w.heap.size + 3 ≤ g
theorem RefAt.put {w wr : World} {p : List UInt8} {A : Option Addr} {c i : Nat} (h : RefAt w wr p A c i) {g k : Nat} (hg : w.heap.size + 3 ≤ g) (ha : ∀ b o, A = some ⟨b, o, none⟩ → b < g) (m : Nat) (v : Value) : RefAt w ((wr.drewN m).setCell ⟨g, k, none⟩ v) p A c i :=
  ⟨(h.res.drewN m).other (by simp; omega) _, (h.kt.drewN m).other (by simp; omega) _, (h.h.drewN m).other (by simp; omega) _,
   h.src.kept (Kept.setCell ((Kept.refl wr (fun b => b = g)).drewN m) (.inr rfl) v) (fun b o e _ hb => by have := ha b o e; omega), h.far,
   (h.kept.drewN m).setCell (.inl (by simp; omega)) v, Nat.le_trans h.more (Kept.setCell ((Kept.refl wr (fun b => b = g)).drewN m) (a := ⟨g, k, none⟩) (.inr rfl) v).size⟩

theorem RefAt.drewN {w wr : World} {p : List UInt8} {A : Option Addr} {c i : Nat} (h : RefAt w wr p A c i) (n : Nat) : RefAt w (wr.drewN n) p A c i :=
  ⟨h.res.drewN n, h.kt.drewN n, h.h.drewN n, h.src.kept ((Kept.refl wr (fun _ => False)).drewN n) (fun _ _ _ _ h => h), h.far, h.kept.drewN n, h.more⟩
theorem WAt.drewN {w wr : World} {p : List UInt8} {A : Option Addr} {c i g k : Nat} {L : List UInt8} (h : WAt w wr p A c i g L k) (n : Nat) : WAt w (wr.drewN n) p A c i g L k := ⟨h.at_.drewN n, h.row.drewN n, h.lo, h.hi⟩

theorem eight_one (x0 x1 x2 x3 x4 x5 x6 x7 : Int) : (#[.int .u32 x0, .int .u32 x1, .int .u32 x2, .int .u32 x3, .int .u32 x4, .int .u32 x5, .int .u32 x6, .int .u32 x7] : Array Value).all (·.oneCell') = true :=
  all_oneCell_toArray (cs := [.int .u32 x0, .int .u32 x1, .int .u32 x2, .int .u32 x3, .int .u32 x4, .int .u32 x5, .int .u32 x6, .int .u32 x7]) (fun v hv => by
    simp only [List.mem_cons, List.not_mem_nil, or_false] at hv
    rcases hv with rfl | rfl | rfl | rfl | rfl | rfl | rfl | rfl <;> rfl)
theorem round_vals (a b c d e f g h kk ww : W) : (#[.int .u32 ((n32 (h + bg1 e + ch e f g + kk + ww) + n32 (bg0 a) + n32 (maj a b c)) % 4294967296), .int .u32 (n32 a), .int .u32 (n32 b), .int .u32 (n32 c), .int .u32 ((n32 d + n32 (h + bg1 e + ch e f g + kk + ww)) % 4294967296), .int .u32 (n32 e), .int .u32 (n32 f), .int .u32 (n32 g)] : Array Value) = (round ⟨a, b, c, d, e, f, g, h⟩ kk ww).vals := by
  rw [add3_fold, add_fold, BitVec.add_assoc (h + bg1 e + ch e f g + kk + ww)]; rfl
/-- A state to which the first j words of another one are added. -/
def plusZ (s t : St) (j : Nat) : List Value := ((s.plus t).words.take j ++ s.words.drop j).map v32
theorem plusZ_at (s t : St) (j : Nat) (h : j < 8) : (plusZ s t j)[j]? = some (.int .u32 (n32 (s.words.getD j 0))) := by
  match j, h with
  | 0, _ => rfl
  | 1, _ => rfl
  | 2, _ => rfl
  | 3, _ => rfl
  | 4, _ => rfl
  | 5, _ => rfl
  | 6, _ => rfl
  | 7, _ => rfl
  | k + 8, h => exact absurd h (by omega)
theorem plusZ_set (s t : St) (j : Nat) (h : j < 8) : (plusZ s t j).set j (v32 (s.words.getD j 0 + t.words.getD j 0)) = plusZ s t (j + 1) := by
  match j, h with
  | 0, _ => rfl
  | 1, _ => rfl
  | 2, _ => rfl
  | 3, _ => rfl
  | 4, _ => rfl
  | 5, _ => rfl
  | 6, _ => rfl
  | 7, _ => rfl
  | k + 8, h => exact absurd h (by omega)
/-- What holds ahead of each of the eight words that are added. -/
structure HAt (w wr : World) (p : List UInt8) (A : Option Addr) (c : Nat) (s t : St) (g2 j : Nat) : Prop where
  res : Row wr w.heap.size 39 (List.replicate 32 (v8 0))
  kt : Row wr (w.heap.size + 1) 67 (kt.map v32)
  h : Row wr (w.heap.size + 1 + 1) 68 (plusZ s t j)
  v : Row wr g2 68 t.vals.toList
  src : BytesAt wr A p.length c p
  far : ∀ b o, A = some ⟨b, o, none⟩ → w.heap.size + 3 ≤ b
  kept : Kept w wr (fun _ => False)
  more : w.heap.size + 3 ≤ wr.heap.size
  hi : w.heap.size + 3 ≤ g2
theorem HAt.put {w wr : World} {p : List UInt8} {A : Option Addr} {c g2 j : Nat} {s t : St} (h : HAt w wr p A c s t g2 j) (hj : j < 8) (n : Nat) : HAt w ((wr.drewN n).setCell ⟨w.heap.size + 1 + 1, j, none⟩ (v32 (s.words.getD j 0 + t.words.getD j 0))) p A c s t g2 (j + 1) :=
  ⟨(h.res.drewN n).other (by simp; omega) _, (h.kt.drewN n).other (by simp) _, by rw [← plusZ_set s t j hj]; exact (h.h.drewN n).set j _, (h.v.drewN n).other (by have := h.hi; simp; omega) _,
   h.src.kept (Kept.setCell ((Kept.refl wr (fun b => b = w.heap.size + 1 + 1)).drewN n) (.inr rfl) _) (fun b o e _ hb => by have := h.far b o e; omega), h.far,
   (h.kept.drewN n).setCell (.inl (by simp; omega)) _, by have := h.more; simpa [World.setCell] using this, h.hi⟩
theorem HAt.done {w wr : World} {p : List UInt8} {A : Option Addr} {c g2 i : Nat} {s t : St} (h : HAt w wr p A c s t g2 8) (he : blocksN (i + 1) iv p = s.plus t) : RefAt w wr p A c (i + 1) :=
  ⟨h.res, h.kt, by rw [he]; exact h.h, h.src, h.far, h.kept, h.more⟩
/-- What holds ahead of each of the 64 rounds. -/
structure VAt (w wr : World) (p : List UInt8) (A : Option Addr) (c i : Nat) (g : Nat) (L : List UInt8) (g2 : Nat) (s : St) : Prop where
  at_ : WAt w wr p A c i g L 64
  v : Row wr g2 68 s.vals.toList
  lo : ∀ b o, A = some ⟨b, o, none⟩ → b < g2
  hi : g < g2
theorem VAt.drewN {w wr : World} {p : List UInt8} {A : Option Addr} {c i g g2 : Nat} {L : List UInt8} {s : St} (h : VAt w wr p A c i g L g2 s) (n : Nat) : VAt w (wr.drewN n) p A c i g L g2 s := ⟨h.at_.drewN n, h.v.drewN n, h.lo, h.hi⟩
theorem RefAt.row {w wr : World} {p : List UInt8} {A : Option Addr} {c i : Nat} (h : RefAt w wr p A c i) {g : Nat} (hg : w.heap.size + 3 ≤ g) (ha : ∀ b o, A = some ⟨b, o, none⟩ → b < g) (cs : Array Value) : RefAt w (wr.setRow g cs) p A c i :=
  ⟨h.res.setRow_other (by omega) _, h.kt.setRow_other (by omega) _, h.h.setRow_other (by omega) _,
   h.src.kept ((Kept.refl wr (fun b => b = g)).setRow (.inr rfl) cs) (fun b o e _ hb => by have := ha b o e; omega), h.far, h.kept.setRow (.inl (by omega)) cs, by rw [setRow_size]; exact h.more⟩
theorem VAt.put {w wr : World} {p : List UInt8} {A : Option Addr} {c i g g2 : Nat} {L : List UInt8} {s : St} (h : VAt w wr p A c i g L g2 s) (t : St) : VAt w (wr.setRow g2 t.vals) p A c i g L g2 t :=
  ⟨⟨h.at_.at_.row (by have := h.at_.hi; have := h.hi; omega) h.lo _, h.at_.row.setRow_other (by have := h.hi; omega) _, h.at_.lo, h.at_.hi⟩, by have e := h.v.setRow t.vals.toList; simpa using e, h.lo, h.hi⟩

theorem VAt.start {w wr : World} {p : List UInt8} {A : Option Addr} {c i g : Nat} {L : List UInt8} (h : WAt w wr p A c i g L 64) (s : St) :
    VAt w ((wr.alloc (.cells (List.replicate 8 (v32 0)).toArray 68)).setRow wr.heap.size s.vals) p A c i g L wr.heap.size s := by
  have hal : WAt w (wr.alloc (.cells (List.replicate 8 (v32 0)).toArray 68)) p A c i g L 64 :=
    ⟨⟨h.at_.res.alloc _, h.at_.kt.alloc _, h.at_.h.alloc _, h.at_.src.kept ((Kept.refl wr (fun _ => False)).alloc _) (fun _ _ _ _ h => h), h.at_.far, h.at_.kept.alloc _, by rw [World.size_alloc]; have := h.at_.more; omega⟩, h.row.alloc _, h.lo, h.hi⟩
  have hlt := h.row.lt
  have hlo : ∀ b o, A = some ⟨b, o, none⟩ → b < wr.heap.size := fun b o e => Nat.lt_trans (h.lo b o e) hlt
  refine ⟨⟨hal.at_.row (by have := h.hi; omega) hlo _, hal.row.setRow_other (by omega) _, hal.lo, hal.hi⟩, ?_, hlo, hlt⟩
  have e := (Row.new wr 68 (List.replicate 8 (v32 0))).setRow s.vals.toList
  rwa [Array.toArray_toList] at e

theorem HAt.start {w wr : World} {p : List UInt8} {A : Option Addr} {c i g g2 : Nat} {L : List UInt8} {s t : St} (h : VAt w wr p A c i g L g2 t) (hs : blocksN i iv p = s) : HAt w wr p A c s t g2 0 :=
  ⟨h.at_.at_.res, h.at_.at_.kt, by have e := h.at_.at_.h; rw [hs] at e; exact e, h.v, h.at_.at_.src, h.at_.at_.far, h.at_.at_.kept, h.at_.at_.more, by have := h.at_.hi; have := h.hi; omega⟩

set_option maxRecDepth 100000 in
set_option maxHeartbeats 40000000 in
theorem refsum_any (w : World) (A : Option Addr) (c : Nat) (bs : List UInt8) (S : BytesAt w A bs.length c bs) (hA : A = none → c = 0) (hn : bs.length ≤ 549755813888) :
    Calls Tryd.prog 13 #[.slice A bs.length c] w fun e w' => e = .returned (.agg ((digest bs).map v8).toArray) ∧ Below w.heap.size w w' := by
  have HS := Lib.hid S
  have HA := Lib.hid hA
  clear S hA
  have hR : ∃ R, R = kt.map v32 := ⟨_, rfl⟩
  obtain ⟨R, hR⟩ := hR
  have hRl : R.length = 64 := by rw [hR]; rfl
  have hR1 : R.toArray.all (·.oneCell') = true := by rw [hR]; exact oneCell_map v32 (fun _ => rfl) kt
  have HR := Lib.hid hR
  have HRl := Lib.hid hRl
  have HR1 := Lib.hid hR1
  clear hR hRl hR1
  go_enter Tryd.func13, Tryd.ntmps13
  go_upto_region 3 with (first
    | ((with_reducible refine wpList_build_is ?_ 67 ?_ ?_ R.toArray ?_ ?_); rfl; rotate_left; rfl; go_must (rw [HR.out]; kernel_rfl))
    | ((with_reducible refine wpList_store_row ?_ 67 (.tmp 3) (.tmp 22) ?_ (w.heap.size + 1) R.toArray ?_ ?_ 67 (List.replicate 64 (v32 0)).toArray ?_ ?_ ?_ HR1.out ?_); rfl; rfl; go_must (rfl; rfl; exact Row.at_ _ _ _ rfl (by simp); (rw [List.size_toArray, HRl.out]; kernel_rfl); (simp only [List.size_toArray, List.length_replicate, HRl.out]))))
  have hz0 : ((((w.alloc (.cells (List.replicate 32 (v8 0)).toArray 39)).alloc (.cells (List.replicate 64 (v32 0)).toArray 67)).setRow (w.heap.size + 1) R.toArray).alloc (.cells iv.vals 68)).heap.size = w.heap.size + 3 := by
    rw [World.size_alloc, setRow_size]; simp
  have hk0 : Kept w ((((w.alloc (.cells (List.replicate 32 (v8 0)).toArray 39)).alloc (.cells (List.replicate 64 (v32 0)).toArray 67)).setRow (w.heap.size + 1) R.toArray).alloc (.cells iv.vals 68)) (fun _ => False) :=
    ((((Kept.refl w _).alloc _).alloc _).setRow (.inl (by omega)) _).alloc _
  have hr0 : Row ((((w.alloc (.cells (List.replicate 32 (v8 0)).toArray 39)).alloc (.cells (List.replicate 64 (v32 0)).toArray 67)).setRow (w.heap.size + 1) R.toArray).alloc (.cells iv.vals 68)) w.heap.size 39 (List.replicate 32 (v8 0)) :=
    (((Row.at_ (b := w.heap.size) _ _ _ rfl rfl).alloc _).setRow_other (by omega) _).alloc _
  have hr1 : Row ((((w.alloc (.cells (List.replicate 32 (v8 0)).toArray 39)).alloc (.cells (List.replicate 64 (v32 0)).toArray 67)).setRow (w.heap.size + 1) R.toArray).alloc (.cells iv.vals 68)) (w.heap.size + 1) 67 R :=
    ((Row.at_ (b := w.heap.size + 1) _ _ (List.replicate 64 (v32 0)) rfl (by simp)).setRow R).alloc _
  have hr2 : Row ((((w.alloc (.cells (List.replicate 32 (v8 0)).toArray 39)).alloc (.cells (List.replicate 64 (v32 0)).toArray 67)).setRow (w.heap.size + 1) R.toArray).alloc (.cells iv.vals 68)) (w.heap.size + 2) 68 iv.vals.toList :=
    Row.at_ (b := w.heap.size + 2) _ _ _ rfl (by rw [setRow_size]; simp)
  generalize hW : World.alloc _ _ = W0 at hz0 hk0 hr0 hr1 hr2
  generalize hW' : World.alloc _ _ = W0'
  obtain rfl : W0 = W0' := hW.symm.trans hW'
  have HZ0 := Lib.hid hz0
  have HK0 := Lib.hid hk0
  have HR0 := Lib.hid hr0
  have HR1' := Lib.hid hr1
  have HR2 := Lib.hid hr2
  clear hz0 hk0 hr0 hr1 hr2 hW hW'
  go_wp2_with fail
  refine (pad_any W0 A c bs (HS.out.kept HK0.out (fun _ _ _ _ h => h)) HA.out hn).mono ?_
  rintro e w1 ⟨⟨v, rfl, HO⟩, hb1⟩
  obtain ⟨Ap, cp, rfl, hby, hnil, hfar⟩ := HO.out.bytes
  have hpl : (bs ++ padding bs.length).length = 64 * ((bs ++ padding bs.length).length / 64) := by
    have := padding_length bs.length
    have hz : zerosOf bs.length = (119 - bs.length % 64) % 64 := rfl
    rw [List.length_append]
    omega
  have hplen : (bs ++ padding bs.length).length ≤ 1099511627776 := by
    have := padding_length bs.length
    have hz : zerosOf bs.length < 64 := Nat.mod_lt _ (by decide)
    rw [List.length_append]
    omega
  have hd : digest bs = (blocksN ((bs ++ padding bs.length).length / 64) iv (bs ++ padding bs.length)).bytes := rfl
  have HREF : Hid (RefAt w w1 (bs ++ padding bs.length) Ap cp 0) := by
    have k1 := kept_below hb1
    have hz := HZ0.out
    exact ⟨k1.row HR0.out (fun h => h), by rw [← HR.out]; exact k1.row HR1'.out (fun h => h), k1.row HR2.out (fun h => h), hby, fun b o e => by have := (hfar b o e).1; omega, kept_trans HK0.out k1, by have := k1.size; omega⟩
  generalize bs ++ padding bs.length = p at *
  have HD := Lib.hid hd
  have HPL := Lib.hid hpl
  generalize hN : p.length / 64 = N at *
  have HN := Lib.hid hN
  generalize hn64 : p.length = n at *
  have HN64 := Lib.hid hn64
  have hpl' : n = 64 * N := HPL.out
  have HNN := Lib.hid hpl'
  clear hd hpl hN hn64 hpl' hby hnil hfar hb1 HO HPL HR0 HR1' HR2 HZ0 HK0 HR HRl HR1 HS HA hn
  go_wp2_with fail
  go_loopw [6] (fun at_ wr => ∃ i : Nat, i ≤ N ∧ at_ = .int .i64 (64 * (i : Int)) ∧ Hid (RefAt w wr p Ap cp i)) (fun at_ _ => n - (intOf at_).toNat)
  case atStart => exact ⟨0, Nat.zero_le _, rfl, HREF⟩
  case round =>
    obtain ⟨i, hi, rfl, HAT⟩ := hrel
    have hnn := HNN.out
    by_cases hlt : i < N
    · have ht : 64 * (i : Int) < (n : Int) := by omega
      have hl64 : 64 * i + 64 ≤ n := by omega
      have hL64 : ((p.drop (64 * i)).take 64).length = 64 := by
        rw [List.length_take, List.length_drop, HN64.out]; omega
      have hLg : ∀ j, j < 64 → p[64 * i + j]? = some (((p.drop (64 * i)).take 64).getD j 0) := by
        intro j hj
        have h1 : 64 * i + j < p.length := by rw [HN64.out]; omega
        rw [List.getD, List.getElem?_take_of_lt hj, List.getElem?_drop, List.getElem?_eq_getElem h1]; rfl
      have hst := blocksN_step i iv p
      generalize (p.drop (64 * i)).take 64 = L at *
      have HL64 := Lib.hid hL64
      have HLG := Lib.hid hLg
      have HST := Lib.hid hst
      have hm3 := HAT.out.more
      have h0 : RefAt w (wr.alloc (.cells (List.replicate 64 (v32 0)).toArray 67)) p Ap cp i :=
        ⟨HAT.out.res.alloc _, HAT.out.kt.alloc _, HAT.out.h.alloc _, HAT.out.src.kept ((Kept.refl wr (fun _ => False)).alloc _) (fun _ _ _ _ h => h), HAT.out.far, HAT.out.kept.alloc _, by rw [World.size_alloc]; omega⟩
      have hw0 : Hid (WAt w (wr.alloc (.cells (List.replicate 64 (v32 0)).toArray 67)) p Ap cp i wr.heap.size L 0) := ⟨h0, Row.new _ _ _, fun b o e => by
        obtain ⟨b', o', e', hl, -⟩ := HAT.out.src.at_ (by rw [HN64.out]; omega)
        rw [e] at e'; cases e'; exact hl, hm3⟩
      clear hL64 hLg hst hnn h0
      generalize wr = W1 at *
      go_wp2_with fail
      go_loopw [8] (fun k wr2 => ∃ j : Nat, j ≤ 64 ∧ k = .int .i64 j ∧ Hid (WAt w wr2 p Ap cp i W1.heap.size L j)) (fun k _ => 64 - (intOf k).toNat)
      case atStart => exact ⟨0, Nat.zero_le _, rfl, hw0⟩
      case round =>
        obtain ⟨k, hk, rfl, hs⟩ := hrel
        by_cases hlt : k < 64
        · by_cases h16 : k < 16
          · obtain ⟨b, o, hAp, -, hrg⟩ := hs.out.at_.src.at_ (by rw [HN64.out]; omega)
            subst hAp
            have hc : ∀ j, j < 4 → wr.cell? ⟨b, o + (64 * i + 4 * k + j), none⟩ = some (.int .u8 (n8 (L.getD (4 * k + j) 0))) := fun j hj =>
              hrg (64 * i + 4 * k + j) _ (by rw [List.getElem?_map, Nat.add_assoc (64 * i), HLG.out (4 * k + j) (by omega)]; rfl)
            have c0 := hc 0 (by omega)
            have c1 := hc 1 (by omega)
            have c2 := hc 2 (by omega)
            have c3 := hc 3 (by omega)
            clear hc hrg
            have q0 := n8_nonneg (L.getD (4 * k) 0)
            have q1 := n8_nonneg (L.getD (4 * k + 1) 0)
            have q2 := n8_nonneg (L.getD (4 * k + 2) 0)
            have q3 := n8_nonneg (L.getD (4 * k + 3) 0)
            have r0 := n8_lt (L.getD (4 * k) 0)
            have r1 := n8_lt (L.getD (4 * k + 1) 0)
            have r2 := n8_lt (L.getD (4 * k + 2) 0)
            have r3 := n8_lt (L.getD (4 * k + 3) 0)
            generalize hb0 : L.getD (4 * k) 0 = b0 at *
            generalize hb1 : L.getD (4 * k + 1) 0 = b1 at *
            generalize hb2 : L.getD (4 * k + 2) 0 = b2 at *
            generalize hb3 : L.getD (4 * k + 3) 0 = b3 at *
            have H0 := Lib.hid hb0
            have H1 := Lib.hid hb1
            have H2 := Lib.hid hb2
            have H3 := Lib.hid hb3
            clear hb0 hb1 hb2 hb3
            simp only [Nat.add_zero] at c0
            obtain ⟨u, hu⟩ : ∃ u, wr.cell? ⟨W1.heap.size, k, none⟩ = some u := ⟨_, hs.out.row.cell (List.getElem?_eq_getElem (by rw [wsZ_length L k (by omega)]; omega))⟩
            have hf := hs.out.row.frozen k
            generalize hix : 64 * i + 4 * k = ix at *
            have e0 : IntKind.i64.wrap (4 * (k : Int)) = 4 * (k : Int) := IntWalk.i64_in _ (by omega)
            have e1 : IntKind.i64.wrap (64 * (i : Int) + 4 * (k : Int)) = (ix : Int) := by rw [IntWalk.i64_in _ (by omega)]; omega
            go_upto_region 13 with fail
            have e2 : IntKind.i64.wrap ((ix : Int) + 1) = (ix : Int) + 1 := IntWalk.i64_in _ (by omega)
            have e3 : IntKind.i64.wrap ((ix : Int) + 2) = (ix : Int) + 2 := IntWalk.i64_in _ (by omega)
            have e4 : IntKind.i64.wrap ((ix : Int) + 3) = (ix : Int) + 3 := IntWalk.i64_in _ (by omega)
            have l0 : 0 ≤ (ix : Int) ∧ (ix : Int) < (n : Int) := by omega
            have l1 : 0 ≤ (ix : Int) + 1 ∧ (ix : Int) + 1 < (n : Int) := by omega
            have l2 : 0 ≤ (ix : Int) + 2 ∧ (ix : Int) + 2 < (n : Int) := by omega
            have l3 : 0 ≤ (ix : Int) + 3 ∧ (ix : Int) + 3 < (n : Int) := by omega
            have t0 : ((ix : Int)).toNat = ix := by omega
            have t1 : ((ix : Int) + 1).toNat = ix + 1 := by omega
            have t2 : ((ix : Int) + 2).toNat = ix + 2 := by omega
            have t3 : ((ix : Int) + 3).toNat = ix + 3 := by omega
            have l4 : 0 ≤ (k : Int) ∧ (k : Int) < 64 := by omega
            go_still_tail 31, (by kernel_rfl)
            show wpList _ _ _ _ _ (wr.drewN _)
            clear e0 e1 e2 e3 e4 t0 t1 t2 t3 c0 c1 c2 c3 l0 l1 l2 l3 l4
            go_wp2
            go_roundw
            case rel =>
              have hv : Value.int .u32 (bits .or .u32 (bits .or .u32 (bits .or .u32 (n8 b0 * 16777216) (n8 b1 * 65536)) (n8 b2 * 256)) (n8 b3)) = v32 (next L (ws L k) k) := by
                rw [word_fold, next, if_pos h16, H0.out, H1.out, H2.out, H3.out]; rfl
              rw [hv]
              refine ⟨k + 1, by omega, by go_num, hs.out.at_.put hs.out.hi hs.out.lo 1 _, ?_, hs.out.lo, hs.out.hi⟩
              rw [← wsZ_set L k (by omega)]
              exact (hs.out.row.drewN 1).set k _
            case measure => simp [intOf] <;> omega
          · have hc : ∀ j, j < k → wr.cell? ⟨W1.heap.size, j, none⟩ = some (.int .u32 (n32 ((ws L k).getD j 0))) := fun j hj => hs.out.row.cell (wsZ_at L k j hj)
            have c0 := hc (k - 2) (by omega)
            have c1 := hc (k - 7) (by omega)
            have c2 := hc (k - 15) (by omega)
            have c3 := hc (k - 16) (by omega)
            clear hc
            have hn : next L (ws L k) k = sg1 ((ws L k).getD (k - 2) 0) + (ws L k).getD (k - 7) 0 + sg0 ((ws L k).getD (k - 15) 0) + (ws L k).getD (k - 16) 0 := by rw [next, if_neg (by omega)]
            generalize (ws L k).getD (k - 2) 0 = b0 at *
            generalize (ws L k).getD (k - 7) 0 = b1 at *
            generalize (ws L k).getD (k - 15) 0 = b2 at *
            generalize (ws L k).getD (k - 16) 0 = b3 at *
            have HNX := Lib.hid hn
            clear hn
            obtain ⟨u, hu⟩ : ∃ u, wr.cell? ⟨W1.heap.size, k, none⟩ = some u := ⟨_, hs.out.row.cell (List.getElem?_eq_getElem (by rw [wsZ_length L k (by omega)]; omega))⟩
            have hf := hs.out.row.frozen k
            have h16' : (16 : Int) ≤ (k : Int) := by omega
            have hlt' : (k : Int) < 64 := by omega
            go_upto_region 14 with fail
            have e0 : IntKind.i64.wrap ((k : Int) - 2) = (k : Int) - 2 := IntWalk.i64_in _ (by omega)
            have e1 : IntKind.i64.wrap ((k : Int) - 7) = (k : Int) - 7 := IntWalk.i64_in _ (by omega)
            have e2 : IntKind.i64.wrap ((k : Int) - 15) = (k : Int) - 15 := IntWalk.i64_in _ (by omega)
            have e3 : IntKind.i64.wrap ((k : Int) - 16) = (k : Int) - 16 := IntWalk.i64_in _ (by omega)
            have l0 : 0 ≤ (k : Int) - 2 ∧ (k : Int) - 2 < 64 := by omega
            have l1 : 0 ≤ (k : Int) - 7 ∧ (k : Int) - 7 < 64 := by omega
            have l2 : 0 ≤ (k : Int) - 15 ∧ (k : Int) - 15 < 64 := by omega
            have l3 : 0 ≤ (k : Int) - 16 ∧ (k : Int) - 16 < 64 := by omega
            have l4 : 0 ≤ (k : Int) ∧ (k : Int) < 64 := by omega
            have t0 : ((k : Int) - 2).toNat = k - 2 := by omega
            have t1 : ((k : Int) - 7).toNat = k - 7 := by omega
            have t2 : ((k : Int) - 15).toNat = k - 15 := by omega
            have t3 : ((k : Int) - 16).toNat = k - 16 := by omega
            have p0 : (2 : Int) ≤ (k : Int) := by omega
            have p1 : (7 : Int) ≤ (k : Int) := by omega
            have p2 : (15 : Int) ≤ (k : Int) := by omega
            have p3 : (16 : Int) ≤ (k : Int) := by omega
            go_quiet ((go_at_call 33; exact Calls.quiet_of_same ((turn_any _ _ _ (by decide) (by decide)).mono fun _ _ ⟨he, hw⟩ => ⟨he, hw.symm⟩)))
            go_upto_region 15 with fail
            rw [fold_sg0]
            go_quiet ((go_at_call 33; exact quiet_add ((turn_any _ _ _ (by decide) (by decide)).mono fun _ _ ⟨he, hw⟩ => ⟨he, 0, hw.symm⟩)))
            go_upto_region 16 with fail
            rw [fold_sg1]
            generalize hq : World.drewN _ _ = wq
            have hsq : WAt w wq p Ap cp i W1.heap.size L k := by rw [← hq]; exact (hs.out.drewN _).drewN _
            have d1 : wq.cell? ⟨W1.heap.size, k - 7, none⟩ = some (.int .u32 (n32 b1)) := by rw [← hq]; exact c1
            have d3 : wq.cell? ⟨W1.heap.size, k - 16, none⟩ = some (.int .u32 (n32 b3)) := by rw [← hq]; exact c3
            have du : wq.cell? ⟨W1.heap.size, k, none⟩ = some u := by rw [← hq]; exact hu
            have df : wq.frozen? ⟨W1.heap.size, k, none⟩ = false := by rw [← hq]; exact hf
            have HSQ := Lib.hid hsq
            clear hq hsq c0 c1 c2 c3 hu hf e0 e2 l0 l2 t0 t2
            go_still_tail 15, (by kernel_rfl)
            show wpList _ _ _ _ _ (wq.drewN _)
            clear e1 e3 t1 t3 d1 d3 l1 l3 l4 p0 p1 p2 p3
            go_wp2
            go_roundw
            case rel =>
              have hv : Value.int .u32 ((n32 (sg1 b0) + n32 b1 + n32 (sg0 b2) + n32 b3) % 4294967296) = v32 (next L (ws L k) k) := by rw [add4_fold, HNX.out]; rfl
              rw [hv]
              refine ⟨k + 1, by omega, by go_num, HSQ.out.at_.put HSQ.out.hi HSQ.out.lo 1 _, ?_, HSQ.out.lo, HSQ.out.hi⟩
              rw [← wsZ_set L k (by omega)]
              exact (HSQ.out.row.drewN 1).set k _
            case measure => simp [intOf] <;> omega
        · have hk64 : k = 64 := by omega
          have hs64 := hs.out
          rw [hk64] at hs64
          have hw64 : wsZ L 64 = (ws L 64).map v32 := by simp [wsZ]
          have hge : (64 : Int) ≤ (k : Int) := by omega
          have hva := VAt.start hs64 (blocksN i iv p)
          have hsi := hs64.at_.h
          obtain ⟨V, hV⟩ : ∃ V, V = (blocksN i iv p).vals.toList := ⟨_, rfl⟩
          have hVl : V.length = 8 := by rw [hV]; rfl
          have hV1 : V.toArray.all (·.oneCell') = true := by rw [hV]; exact vals_one _
          have hVa : V.toArray = (blocksN i iv p).vals := by rw [hV, Array.toArray_toList]
          rw [← hVa] at hva
          rw [← hV] at hsi
          have HVL := Lib.hid hVl
          have HV1 := Lib.hid hV1
          have HVA := Lib.hid hva
          have HSI := Lib.hid hsi
          have HLV := Lib.hid hVl
          have H1V := Lib.hid hV1
          clear hk64 hw64 hs hlt hk hs64 hva hsi hV hVl hV1 hVa
          generalize hs0 : blocksN i iv p = s0 at *
          have HS0 := Lib.hid hs0
          clear hs0
          generalize wr = W2 at *
          go_wp2_with (first
            | ((with_reducible refine wpList_load_row ?_ 68 (.tmp 4) ?_ (w.heap.size + 1 + 1) ?_ 68 V.toArray (0, 0) (.array 8 66) ?_ ?_ ?_ ?_ ?_); rfl; rfl; go_must (rfl; exact HSI.out; exact Tryd.underlying68; rfl; (rw [List.size_toArray, HLV.out]; kernel_rfl)))
            | ((with_reducible refine wpList_store_row ?_ 68 (.tmp 12) (.tmp 122) ?_ W2.heap.size V.toArray ?_ ?_ 68 (List.replicate 8 (v32 0)).toArray ?_ ?_ ?_ H1V.out ?_); rfl; rfl; go_must (rfl; rfl; exact Row.at_ _ _ _ rfl rfl; (rw [List.size_toArray, HLV.out]; kernel_rfl); (simp only [List.size_toArray, List.length_replicate, HLV.out]))))
          go_loopw [13] (fun t_ wr2 => ∃ t : Nat, t ≤ 64 ∧ t_ = .int .i64 t ∧ Hid (VAt w wr2 p Ap cp i W1.heap.size L W2.heap.size (rounds kt (ws L 64) s0 t))) (fun t_ _ => 64 - (intOf t_).toNat)
          case atStart => exact ⟨0, Nat.zero_le _, rfl, HVA⟩
          case round =>
            obtain ⟨t, ht, rfl, hs⟩ := hrel
            by_cases hlt : t < 64
            · have hrd : rounds kt (ws L 64) s0 (t + 1) = round (rounds kt (ws L 64) s0 t) (kt.getD t 0) ((ws L 64).getD t 0) := rfl
              have ck : wr.cell? ⟨w.heap.size + 1, t, none⟩ = some (.int .u32 (n32 (kt.getD t 0))) := hs.out.at_.at_.kt.cell (by
                have hl : t < kt.length := hlt
                rw [List.getElem?_map, List.getElem?_eq_getElem hl]
                simp [List.getD, hl, v32])
              have cw : wr.cell? ⟨W1.heap.size, t, none⟩ = some (.int .u32 (n32 ((ws L 64).getD t 0))) := hs.out.at_.row.cell (wsZ_at L 64 t hlt)
              generalize kt.getD t 0 = kk at *
              generalize (ws L 64).getD t 0 = ww at *
              generalize rounds kt (ws L 64) s0 t = st at *
              have HRD := Lib.hid hrd
              clear hrd
              obtain ⟨a, b, cc, d, e, f, g, h⟩ := st
              have v0 : wr.cell? ⟨W2.heap.size, 0, none⟩ = some (.int .u32 (n32 a)) := hs.out.v.cell rfl
              have v1 : wr.cell? ⟨W2.heap.size, 1, none⟩ = some (.int .u32 (n32 b)) := hs.out.v.cell rfl
              have v2 : wr.cell? ⟨W2.heap.size, 2, none⟩ = some (.int .u32 (n32 cc)) := hs.out.v.cell rfl
              have v3 : wr.cell? ⟨W2.heap.size, 3, none⟩ = some (.int .u32 (n32 d)) := hs.out.v.cell rfl
              have v4 : wr.cell? ⟨W2.heap.size, 4, none⟩ = some (.int .u32 (n32 e)) := hs.out.v.cell rfl
              have v5 : wr.cell? ⟨W2.heap.size, 5, none⟩ = some (.int .u32 (n32 f)) := hs.out.v.cell rfl
              have v6 : wr.cell? ⟨W2.heap.size, 6, none⟩ = some (.int .u32 (n32 g)) := hs.out.v.cell rfl
              have v7 : wr.cell? ⟨W2.heap.size, 7, none⟩ = some (.int .u32 (n32 h)) := hs.out.v.cell rfl
              have hlt' : (t : Int) < 64 := by omega
              have l0 : 0 ≤ (t : Int) ∧ (t : Int) < 64 := by omega
              go_upto_region 21 with fail
              go_quiet ((go_at_call 33; exact Calls.quiet_of_same ((turn_any _ _ _ (by decide) (by decide)).mono fun _ _ ⟨he, hw⟩ => ⟨he, hw.symm⟩)))
              go_upto_region 22 with fail
              rw [fold_bg1]
              go_upto_region 23 with fail
              rw [fold_ch]
              go_quiet (fail)
              go_upto_region 24 with fail
              rw [add4_fold, add_fold]
              go_quiet ((go_at_call 33; exact quiet_add ((turn_any _ _ _ (by decide) (by decide)).mono fun _ _ ⟨he, hw⟩ => ⟨he, 0, hw.symm⟩)))
              go_upto_region 25 with fail
              rw [fold_bg0]
              go_upto_region 26 with fail
              rw [fold_maj]
              have hrv := round_vals a b cc d e f g h kk ww
              have hvr : Row wr W2.heap.size 68 (St.mk a b cc d e f g h).vals.toList := hs.out.v
              have HRV := Lib.hid hrv
              have HVR := Lib.hid hvr
              generalize hT1 : h + bg1 e + ch e f g + kk + ww = T1 at *
              generalize hS0 : bg0 a = S0 at *
              generalize hM : maj a b cc = M at *
              clear hrv hvr hT1 hS0 hM
              go_wp2_with ((with_reducible refine wpList_store_row ?_ 68 (.tmp 12) (.tmp 213) ?_ W2.heap.size #[.int .u32 ((n32 T1 + n32 S0 + n32 M) % 4294967296), .int .u32 (n32 a), .int .u32 (n32 b), .int .u32 (n32 cc), .int .u32 ((n32 d + n32 T1) % 4294967296), .int .u32 (n32 e), .int .u32 (n32 f), .int .u32 (n32 g)] ?_ ?_ 68 (St.mk a b cc d e f g h).vals.toList.toArray ?_ ?_ ?_ ?_ ?_); rfl; rfl; go_must (rfl; rfl; exact HVR.out; kernel_rfl; rfl; exact eight_one _ _ _ _ _ _ _ _))
              go_roundw
              case rel =>
                refine ⟨t + 1, by omega, by go_num, ?_⟩
                rw [HRD.out, HRV.out]
                exact Lib.hid ((hs.out.drewN _).put _)
              case measure => simp [intOf] <;> omega
            · have ht64 : t = 64 := by omega
              have hh := hs.out
              rw [ht64] at hh
              have hha := HAt.start hh HS0.out
              have hmx : mix s0 L = s0.plus (rounds kt (ws L 64) s0 64) := rfl
              have hge : (64 : Int) ≤ (t : Int) := by omega
              have hte := HST.out
              rw [hmx] at hte
              clear hh hs ht64 hlt ht hmx
              generalize rounds kt (ws L 64) s0 64 = t0 at *
              have HHA := Lib.hid hha
              have HTE := Lib.hid hte
              clear hha hte
              generalize wr = W3 at *
              go_wp2_with fail
              go_loopw [19] (fun j_ wr2 => ∃ j : Nat, j ≤ 8 ∧ j_ = .int .i64 j ∧ Hid (HAt w wr2 p Ap cp s0 t0 W2.heap.size j)) (fun j_ _ => 8 - (intOf j_).toNat)
              case atStart => exact ⟨0, Nat.zero_le _, rfl, HHA⟩
              case round =>
                obtain ⟨j, hj, rfl, hs⟩ := hrel
                by_cases hlt : j < 8
                · have cx : wr.cell? ⟨w.heap.size + 1 + 1, j, none⟩ = some (.int .u32 (n32 (s0.words.getD j 0))) := hs.out.h.cell (plusZ_at s0 t0 j hlt)
                  have cy : wr.cell? ⟨W2.heap.size, j, none⟩ = some (.int .u32 (n32 (t0.words.getD j 0))) := hs.out.v.cell (vals_at t0 j hlt)
                  have hf : wr.frozen? ⟨w.heap.size + 1 + 1, j, none⟩ = false := hs.out.h.frozen j
                  have hput := hs.out.put hlt 1
                  generalize hx : s0.words.getD j 0 = x at *
                  generalize hy : t0.words.getD j 0 = y at *
                  have HPUT := Lib.hid hput
                  clear hput hx hy
                  have l0 : 0 ≤ (j : Int) ∧ (j : Int) < 8 := by omega
                  have hj' : (j : Int) < 8 := by omega
                  go_upto_region 30 with fail
                  go_still_tail 9, (by kernel_rfl)
                  show wpList _ _ _ _ _ (wr.drewN _)
                  go_wp2
                  go_roundw
                  case rel =>
                    rw [add_fold]
                    exact ⟨j + 1, by omega, by go_num, HPUT⟩
                  case measure => simp [intOf] <;> omega
                · have hj8 : j = 8 := by omega
                  have hdone := hs.out
                  rw [hj8] at hdone
                  have HD2 := Lib.hid (HAt.done hdone HTE.out)
                  have hge8 : (8 : Int) ≤ (j : Int) := by omega
                  clear hdone hj8 hs hlt hj
                  go_wp2_with fail
                  go_roundw
                  case rel => exact ⟨i + 1, by omega, by go_num, HD2⟩
                  case measure => simp [intOf] <;> omega
    · have hiN : i = N := by omega
      have HI := Lib.hid hiN
      have ht : (n : Int) ≤ 64 * (i : Int) := by omega
      have hm3 := HAT.out.more
      have h0 : OutAt w (wr.alloc (.cells (List.replicate 32 (v8 0)).toArray 39)) (blocksN N iv p) wr.heap.size 0 :=
        ⟨HAT.out.res.alloc _, by have := HAT.out.h; rw [hiN] at this; exact this.alloc _, Row.new _ _ _, HAT.out.kept.alloc _⟩
      have HO0 := Lib.hid h0
      clear hnn hiN hlt h0
      generalize blocksN N iv p = st at *
      generalize wr = W1 at *
      go_wp2_with fail
      go_loopw [21] (fun k wr2 => ∃ j : Nat, j ≤ 32 ∧ k = .int .i64 j ∧ Hid (OutAt w wr2 st W1.heap.size j)) (fun k _ => 32 - (intOf k).toNat)
      case atStart => exact ⟨0, Nat.zero_le _, rfl, HO0⟩
      case round =>
        obtain ⟨j, hj, rfl, HJ⟩ := hrel
        by_cases hjl : j < 32
        · have cx : wr.cell? ⟨w.heap.size + 1 + 1, j / 4, none⟩ = some (.int .u32 (n32 (st.words.getD (j / 4) 0))) := HJ.out.h.cell (vals_at st (j / 4) (by omega))
          generalize hx : st.words.getD (j / 4) 0 = x at *
          have HX := Lib.hid hx
          obtain ⟨u, hu⟩ : ∃ u, wr.cell? ⟨W1.heap.size, j, none⟩ = some u := ⟨_, HJ.out.out.cell (List.getElem?_eq_getElem (by rw [outZ_length st j hj]; omega))⟩
          have hf : wr.frozen? ⟨W1.heap.size, j, none⟩ = false := HJ.out.out.frozen j
          have q0 := n32_nonneg x
          have q1 := n32_lt x
          have hj' : (j : Int) < 32 := by omega
          clear hx
          go_wp2_with fail
          go_roundw
          case rel =>
            have hv : Value.int .u8 (n32 x / 2 ^ (8 * (3 - j % 4)) % 256) = v8 (st.bytes.getD j 0) := by
              have e := u8_of_word x (8 * (3 - j % 4))
              rw [IntKind.wrap_u8] at e
              rw [bytes_at st j hjl, HX.out]
              exact congrArg (Value.int .u8) e
            rw [hv]
            refine ⟨j + 1, by omega, by go_num, HJ.out.res.other (by simp; omega) _, HJ.out.h.other (by simp; omega) _, ?_, HJ.out.kept.setCell (.inl (by simp; omega)) _⟩
            rw [← outZ_step st j hjl]
            exact HJ.out.out.set j _
          case measure => simp [intOf] <;> omega
        · have hj32 : j = 32 := by omega
          have hw : Row wr W1.heap.size 39 (st.bytes.map v8) := by have h := HJ.out.out; rw [hj32, outZ_all] at h; exact h
          have hz : Row wr w.heap.size 39 (List.replicate 32 (v8 0)) := HJ.out.res
          have hl : (st.bytes.map v8).length = 32 := rfl
          have h1 := oneCell_map v8 (fun _ => rfl) st.bytes
          have hge : (32 : Int) ≤ (j : Int) := by omega
          generalize hDD : st.bytes.map v8 = D at *
          have HDD := Lib.hid hDD
          unfold Row at hw hz
          have HW := Lib.hid hw
          have HZ := Lib.hid hz
          have HL := Lib.hid hl
          have H1 := Lib.hid h1
          clear hw hz hl h1 hj32 hDD
          go_wp2_with (first
            | ((with_reducible refine wpList_load_row ?_ 39 (.tmp 20) ?_ W1.heap.size ?_ 39 D.toArray (0, 0) (.array 32 5) ?_ ?_ ?_ ?_ ?_); rfl; rfl; go_must (rfl; exact HW.out; exact Tryd.underlying39; rfl; (simp only [List.size_toArray, HL.out]; kernel_rfl)))
            | ((with_reducible refine wpList_store_row ?_ 39 (.tmp 2) (.tmp 244) ?_ w.heap.size D.toArray ?_ ?_ 39 (List.replicate 32 (v8 0)).toArray ?_ ?_ ?_ ?_ ?_); rfl; rfl; go_must (rfl; rfl; exact HZ.out; (simp only [List.size_toArray, HL.out]; kernel_rfl); (simp only [List.size_toArray, List.length_replicate, HL.out]); exact H1.out)))
          refine bodyPost_ret (v := .agg D.toArray) (results_cell_row rfl _ _ w.heap.size _ D.toArray _ _ rfl (setRow_heap wr w.heap.size _ _ _ _ HZ.out) Tryd.underlying39 rfl (by simp only [List.size_toArray, HL.out]; kernel_rfl)) rfl ⟨by rw [HD.out, HDD.out], ?_⟩
          exact below_setRow (HJ.out.kept.below (Nat.le_refl _) (fun _ _ h => h)) (Nat.le_refl _) _
end Go.Proofs.YtokficfpgppaeaaDoor

namespace Go.Proofs.YtokficfpgppaeaaDoor
open Go.RowKit Sh

set_option maxRecDepth 100000 in
set_option maxHeartbeats 400000 in
theorem refless_any (a b : List UInt8) (ha : a.length = 32) (hb : b.length = 32) (w : World) :
    Calls Tryd.prog 53 #[.agg (a.map v8).toArray, .agg (b.map v8).toArray] w fun e w' => e = .returned (.bool (Dg.less a b)) ∧ Below w.heap.size w w' := by
  have h0 : LessAt w ((w.alloc (.cells (a.map v8).toArray 39)).alloc (.cells (b.map v8).toArray 39)) a b 0 :=
    ⟨(Row.at_ _ _ _ rfl rfl).alloc _, Row.at_ _ _ _ rfl (by simp), ((Below.refl _ _).alloc (Nat.le_refl _) _).alloc (by simp) _, rfl⟩
  have H0 := Lib.hid h0
  have HA := Lib.hid ha
  have HB := Lib.hid hb
  clear h0 ha hb
  generalize hAA : a.map v8 = AA at *
  generalize hBB : b.map v8 = BB at *
  have HAA := Lib.hid hAA
  have HBB := Lib.hid hBB
  clear hAA hBB
  go_enter Tryd.func53, Tryd.ntmps53
  go_wp2_with fail
  go_loopw [5] (fun i wr => ∃ k : Nat, k ≤ 32 ∧ i = .int .i64 k ∧ Hid (LessAt w wr a b k)) (fun i _ => 32 - (intOf i).toNat)
  case atStart => exact ⟨0, Nat.zero_le _, rfl, H0⟩
  case round =>
    obtain ⟨k, hk, rfl, hs⟩ := hrel
    by_cases hlt : k < 32
    · have ca : wr.cell? ⟨w.heap.size, k, none⟩ = some (.int .u8 (n8 (a.getD k 0))) := hs.out.ra.cell (by
        rw [List.getElem?_map, List.getElem?_eq_getElem (by rw [HA.out]; exact hlt)]
        simp [List.getD, v8, HA.out, hlt])
      have cb : wr.cell? ⟨w.heap.size + 1, k, none⟩ = some (.int .u8 (n8 (b.getD k 0))) := hs.out.rb.cell (by
        rw [List.getElem?_map, List.getElem?_eq_getElem (by rw [HB.out]; exact hlt)]
        simp [List.getD, v8, HB.out, hlt])
      have hat := less_at' a b k
      have hmo := more' a b k
      generalize hx : a.getD k 0 = x at *
      generalize hy : b.getD k 0 = y at *
      have HAT := Lib.hid hat
      have HMO := Lib.hid hmo
      have q0 := n8_nonneg x
      have q1 := n8_lt x
      have q2 := n8_nonneg y
      have q3 := n8_lt y
      have l0 : 0 ≤ (k : Int) ∧ (k : Int) < 32 := by omega
      clear hx hy hat hmo
      by_cases he : x = y
      · have e1 : (n8 x != n8 y) = false := by rw [he]; simp
        have e2 : (n8 x == n8 y) = true := by rw [he]; simp
        have HE := Lib.hid he
        clear he
        go_wp2_with fail
        go_quiet (fail)
        go_wp2_with fail
        go_roundw
        case rel => exact ⟨k + 1, by omega, by go_num, ⟨hs.out.ra, hs.out.rb, below_drewN hs.out.below _, HMO.out hs.out.same HA.out HB.out (by omega) HE.out⟩⟩
        case measure => simp [intOf] <;> omega
      · have e1 : (n8 x != n8 y) = true := by rw [bne_iff_ne]; exact fun h => he (n8_inj h)
        have e2 : (n8 x == n8 y) = false := by rw [beq_eq_false_iff_ne]; exact fun h => he (n8_inj h)
        have HE := Lib.hid he
        clear he
        go_wp2_with fail
        go_quiet (fail)
        go_wp2_with fail
        go_quiet (fail)
        go_wp2_with fail
        go_ret
        exact ⟨by rw [HAT.out hs.out.same HA.out HB.out (by omega) HE.out]; rfl, below_drewN (below_drewN hs.out.below _) _⟩
    · have hge : (32 : Int) ≤ (k : Int) := by omega
      go_wp2_with fail
      go_ret
      refine ⟨?_, hs.out.below⟩
      have e : k = 32 := by omega
      have h := hs.out.same
      rw [e, List.take_of_length_le (by rw [HA.out]; omega), List.take_of_length_le (by rw [HB.out]; omega)] at h
      rw [h, Dg.less_irrefl]
      rfl

end Go.Proofs.YtokficfpgppaeaaDoor
