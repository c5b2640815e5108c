/-
  What the laws lean on: header.Print of what can be printed; untar.Read of bytes of the call's own; entries' cells; entries that are the same.
-/
import Derived.Test.YtpgaejalkbpbhaaGreatDoorUnParts
import Derived.Test.YtpgaejalkbpbhaaGreatDoorUnB
import Derived.Test.YtpgaejalkbpbhaaGreatDoorHdB
import Derived.Test.YtpgaejalkbpbhaaGreatDoorUnBack
import Derived.Test.YtpgaejalkbpbhaaGreatDoorUnZero
namespace Go.Proofs.YtpgaejalkbpbhaaGreatDoor
open Go.RowKit Sh Px Hd

theorem hd_print (w : World) (h : H) (b : List UInt8) (hb : printF h = some b) (hT : FT w) :
    Calls Tryz.prog 75 #[.agg (hdL h).toArray] w fun e w' => ∃ g, e = .returned (.tuple #[.slice (some ⟨g, 0, none⟩) 512 512, .bool true]) ∧ Hid (BytesAt w' (some ⟨g, 0, none⟩) 512 512 b) ∧ Hid (Below w.heap.size w w') := by
  refine (print_any w h hT).mono ?_
  rintro e w' ⟨hp, hk⟩
  rw [hb] at hp
  obtain ⟨g, rfl, _, hr⟩ := (show ∃ g, e = .returned (.tuple #[.slice (some ⟨g, 0, none⟩) 512 512, .bool true]) ∧ w.heap.size ≤ g ∧ Row w' g 5 (b.map v8) from hp)
  have h5 := BytesAt.row hr
  have h6 := (parse_back hb).2.1
  rw [h6] at h5
  exact ⟨g, rfl, Lib.hid h5, hk⟩
theorem OwnBytes.full {w : World} {B : Nat} {v : Value} {bs : List UInt8} (h : OwnBytes w B v bs) : ∃ (A : Option Addr) (c : Nat), v = .slice A bs.length c ∧ BytesAt w A bs.length c bs ∧ (A = none → c = 0) ∧ (∀ a, A = some a → a.block < w.heap.size) ∧ c ≤ maxLen := by
  obtain ⟨A0, c0, e0, hb, hn, ho⟩ := h.bytes
  refine ⟨A0, c0, e0, hb, hn, ?_, ?_⟩
  · intro a ha
    obtain ⟨hl, ⟨rfl, _⟩ | ⟨g, cap, cur, rfl, hg, hh, _⟩⟩ := h
    · simp only [Value.slice.injEq] at e0
      rw [← e0.1] at ha
      cases ha
    · simp only [Value.slice.injEq] at e0
      rw [← e0.1] at ha
      cases ha
      exact (Array.getElem?_eq_some_iff.1 hh).1
  · obtain ⟨hl, ⟨rfl, _⟩ | ⟨g, cap, cur, rfl, hg, hh, _, hc, _⟩⟩ := h
    · simp only [Value.slice.injEq] at e0
      rw [← e0.2.2]
      exact Nat.zero_le _
    · simp only [Value.slice.injEq] at e0
      rw [← e0.2.2]
      exact hc
/-- untar.Read of bytes of the call's own. -/
theorem un_reads (w : World) (B : Nat) (v : Value) (bs : List UInt8) (k : Nat) (L : List Un.E) (h : OwnBytes w B v bs) (hn : bs.length ≤ 100000000) (hE : UnEnv w) (hu : Un.untarF bs = (k, L)) :
    Calls Tryz.prog 14 #[v] w fun e w' => ∃ A c, e = .returned (.tuple #[.slice A L.length c, .int .i64 (k : Nat)]) ∧ Hid (OwnEnts w' w.heap.size (.slice A L.length c) L) ∧ Hid (Below w.heap.size w w') := by
  obtain ⟨A, c, rfl, hb, _, ha, hc⟩ := h.full
  refine (un_read w A bs.length c bs hb ha hc hn hE).mono ?_
  rintro e w' ⟨v, rfl, ho, hk⟩
  rw [hu] at ho ⊢
  obtain ⟨A2, c2, rfl, _⟩ := ho.out.shape
  exact ⟨A2, c2, rfl, ho, hk⟩
theorem ents_at {w : World} {B : Nat} {A : Option Addr} {c : Nat} {L : List Un.E} (h : OwnEnts w B (.slice A L.length c) L) {i : Nat} (hi : i < L.length) : ∃ g, A = some ⟨g, 0, none⟩ ∧ w.rangeAt g (i * 11) (entL L[i]) := by
  obtain ⟨hl, ⟨e, h0⟩ | ⟨g, cap, cur, e, hg, hh, hn, hc, hs, ht⟩⟩ := h
  · omega
  · simp only [Value.slice.injEq] at e
    refine ⟨g, e.1, fun j v hj => ?_⟩
    have hj11 : j < 11 := by have := (List.getElem?_eq_some_iff.1 hj).1; rwa [entL_len] at this
    have h1 : (entsL L)[i * 11 + j]? = some v := by rw [entsL_at L i j hi hj11]; exact hj
    have h2 := (List.getElem?_eq_some_iff.1 h1).1
    rw [cell_of_row _ _ _ _ _ _ hh, ← h1, ← ht, List.getElem?_take, if_pos (by rw [entsL_len] at h2; exact h2)]
    simp
theorem range_node {w : World} {g o : Nat} {e : Un.E} (h : w.rangeAt g o (entL e)) : w.rangeAt g (o + 1) (nodeL e) := fun j v hj => by
  have := h (j + 1) v hj
  rw [show o + 1 + j = o + (j + 1) by omega]
  exact this
theorem range_path {w : World} {g o : Nat} {e : Un.E} (h : w.rangeAt g o (entL e)) : w.cell? ⟨g, o, none⟩ = some (.string (sb e.path)) := h 0 _ rfl
theorem info_ent (e : Un.E) : (Tryz.prog.info? 30).map (·.size) = some (entL e).length := by
  have : (Tryz.prog.info? 30).map (·.size) = some 11 := by kernel_rfl
  exact this
theorem info_node (e : Un.E) : (Tryz.prog.info? 28).map (·.size) = some (nodeL e).length := by
  have : (Tryz.prog.info? 28).map (·.size) = some 10 := by kernel_rfl
  exact this
set_option maxRecDepth 100000 in
theorem node_same (a b c : ByteArray) (m0 m1 m2 m3 m4 m5 m6 : Int) (W : World) : (Op.equalIn 10000 28 (.agg #[.int .i64 m0, .int .i64 m1, .int .i64 m2, .int .i64 m3, .int .i64 m4, .string a, .string b, .int .i64 m5, .int .i64 m6, .string c]) (.agg #[.int .i64 m0, .int .i64 m1, .int .i64 m2, .int .i64 m3, .int .i64 m4, .string a, .string b, .int .i64 m5, .int .i64 m6, .string c])).run Tryz.prog W = .ok true W := by
  go_simp
theorem node_self (e : Un.E) (W : World) : (Op.equalIn 10000 28 (.agg (nodeL e).toArray) (.agg (nodeL e).toArray)).run Tryz.prog W = .ok true W :=
  node_same (sb e.link) (sb e.data) (sb e.attrs) e.kind e.mode e.uid e.gid e.mtime e.major e.minor W
set_option maxRecDepth 100000 in
theorem ent_same (p a b c : ByteArray) (m0 m1 m2 m3 m4 m5 m6 : Int) (W : World) : (Op.equalIn 10000 30 (.agg #[.string p, .int .i64 m0, .int .i64 m1, .int .i64 m2, .int .i64 m3, .int .i64 m4, .string a, .string b, .int .i64 m5, .int .i64 m6, .string c]) (.agg #[.string p, .int .i64 m0, .int .i64 m1, .int .i64 m2, .int .i64 m3, .int .i64 m4, .string a, .string b, .int .i64 m5, .int .i64 m6, .string c])).run Tryz.prog W = .ok true W := by
  go_simp
theorem ent_self (e : Un.E) (W : World) : (Op.equalIn 10000 30 (.agg (entL e).toArray) (.agg (entL e).toArray)).run Tryz.prog W = .ok true W :=
  ent_same (sb e.path) (sb e.link) (sb e.data) (sb e.attrs) e.kind e.mode e.uid e.gid e.mtime e.major e.minor W
theorem make_1024 (W : World) : (Instr.makeSlice 31 (.int .i64 1024) (.int .i64 1024)).run Tryz.prog W = .ok (.slice (some ⟨W.heap.size, 0, none⟩) 1024 1024) (W.alloc (.cells ((List.replicate 1024 0).map v8).toArray 5)) := by
  rw [show (1024 : Int) = ((1024 : Nat) : Int) from rfl, run_make_row' _ _ _ _ Tryz.underlying31 infoU8 rfl .i64 .i64 1024 (by omega) (by omega), madeCells_one, List.map_replicate]
  rfl
theorem own_zeros {w : World} (n : Nat) (hn : n ≤ 100000) (Z : List Value) (h : Z = (List.replicate n 0).map v8) : OwnBytes (w.alloc (.cells Z.toArray 5)) w.heap.size (.slice (some ⟨w.heap.size, 0, none⟩) n n) (List.replicate n 0) := by
  have := OwnBytes.row (bs := List.replicate n 0) (Row.at_ w 5 ((List.replicate n 0).map v8) (show Z.toArray = _ by rw [h]) rfl) (Nat.le_refl w.heap.size) (by rw [List.length_replicate]; unfold maxLen; omega)
  rwa [List.length_replicate] at this
theorem build_pair3 {ops : Array Oper} {rest : List Oper} {o : Oper} {a : Act} {w : World} {Q : Exit → Act → World → Prop} (hg : o.guard = none) (x y z : Operand) (ho : o.op = .buildSlice 43 3 #[(0, x), (1, y), (2, z)]) (s1 s2 s3 s4 s5 s6 : ByteArray) (hx : a.eval x = .agg #[.string s1, .string s2]) (hy : a.eval y = .agg #[.string s3, .string s4]) (hz : a.eval z = .agg #[.string s5, .string s6])
    (h : wpList Tryz.prog ops Q rest (a.put o.dst (.slice (some ⟨w.heap.size, 0, none⟩) 3 3)) (w.alloc (.cells #[.string s1, .string s2, .string s3, .string s4, .string s5, .string s6] 63))) : wpList Tryz.prog ops Q (o :: rest) a w := by
  obtain ⟨i, hi, hzz, hsz, _⟩ := px_infoZ
  refine wpList_buildSlice hg 43 63 3 #[(0, x), (1, y), (2, z)] ho #[.string s1, .string s2, .string s3, .string s4, .string s5, .string s6] i _ Tryz.underlying43 hi hzz (by rw [hsz]; decide) (by rw [hsz]; decide) ?_ h
  rw [hsz]
  have e : (Array.map (fun (p : Nat × Operand) => (p.1, a.eval p.2)) #[(0, x), (1, y), (2, z)]).toList = [(0, .agg #[.string s1, .string s2]), (1, .agg #[.string s3, .string s4]), (2, .agg #[.string s5, .string s6])] := by simp [hx, hy, hz]
  show Instr.fill _ _ (Array.map (fun (p : Nat × Operand) => (p.1, a.eval p.2)) #[(0, x), (1, y), (2, z)]).toList = _
  rw [e, show Array.range (3 * 2) = #[0, 1, 2, 3, 4, 5] from by decide]
  simp [Instr.fill, Value.cells]
theorem build_pair5 {ops : Array Oper} {rest : List Oper} {o : Oper} {a : Act} {w : World} {Q : Exit → Act → World → Prop} (hg : o.guard = none) (x y z u v : Operand) (ho : o.op = .buildSlice 43 5 #[(0, x), (1, y), (2, z), (3, u), (4, v)]) (s1 s2 s3 s4 s5 s6 s7 s8 s9 s10 : ByteArray) (hx : a.eval x = .agg #[.string s1, .string s2]) (hy : a.eval y = .agg #[.string s3, .string s4]) (hz : a.eval z = .agg #[.string s5, .string s6]) (hu : a.eval u = .agg #[.string s7, .string s8]) (hv : a.eval v = .agg #[.string s9, .string s10])
    (h : wpList Tryz.prog ops Q rest (a.put o.dst (.slice (some ⟨w.heap.size, 0, none⟩) 5 5)) (w.alloc (.cells #[.string s1, .string s2, .string s3, .string s4, .string s5, .string s6, .string s7, .string s8, .string s9, .string s10] 63))) : wpList Tryz.prog ops Q (o :: rest) a w := by
  obtain ⟨i, hi, hzz, hsz, _⟩ := px_infoZ
  refine wpList_buildSlice hg 43 63 5 #[(0, x), (1, y), (2, z), (3, u), (4, v)] ho #[.string s1, .string s2, .string s3, .string s4, .string s5, .string s6, .string s7, .string s8, .string s9, .string s10] i _ Tryz.underlying43 hi hzz (by rw [hsz]; decide) (by rw [hsz]; decide) ?_ h
  rw [hsz]
  have e : (Array.map (fun (p : Nat × Operand) => (p.1, a.eval p.2)) #[(0, x), (1, y), (2, z), (3, u), (4, v)]).toList = [(0, .agg #[.string s1, .string s2]), (1, .agg #[.string s3, .string s4]), (2, .agg #[.string s5, .string s6]), (3, .agg #[.string s7, .string s8]), (4, .agg #[.string s9, .string s10])] := by simp [hx, hy, hz, hu, hv]
  show Instr.fill _ _ (Array.map (fun (p : Nat × Operand) => (p.1, a.eval p.2)) #[(0, x), (1, y), (2, z), (3, u), (4, v)]).toList = _
  rw [e, show Array.range (5 * 2) = #[0, 1, 2, 3, 4, 5, 6, 7, 8, 9] from by decide]
  simp [Instr.fill, Value.cells]
end Go.Proofs.YtpgaejalkbpbhaaGreatDoor
