/-
  Text, Int.
-/
import Derived.Test.YtfgflgifffjdgaaGreatDoorJoGS
import Derived.Test.YtfgflgifffjdgaaGreatDoorJtQuote
import Derived.Lib.AppendIntMem
namespace Go.Proofs.YtfgflgifffjdgaaGreatDoor
open Go.RowKit Sh Jt Js Jo
/-- What the calls find at hand: the tables of unicode/utf8, the table of powers. -/
structure JEnv (w : World) : Prop where
  tab : TabOk w
  pow : Lib.TabIs Tryz.prog w "internal/strconv.uint64pow10" .u64 Lib.pow10Tab
theorem JEnv.below {w w' : World} (h : JEnv w) (k : Below w.heap.size w w') : JEnv w' := ⟨h.tab.below k, Lib.tabBelow_of_tabIs h.pow w' k⟩
theorem below_grown' {w w' : World} (h : ∃ k os, w' = Go.Sort.grow (w.drewN k) os) : Below w.heap.size w w' := by
  obtain ⟨k, os, rfl⟩ := h
  exact ⟨rfl, rfl, rfl, by rw [Go.Sort.size_grow]; show w.heap.size ≤ w.heap.size + _; omega, fun i hi => Go.Sort.heap_grow_old _ _ hi⟩
theorem jo_build1 {ops : Array Oper} {rest : List Oper} {o : Oper} {a : Act} {w : World} {Q : Exit → Act → World → Prop} (hg : o.guard = none) (x : Operand) (ho : o.op = .buildSlice 29 1 #[(0, x)]) (k : Int) (s1 s2 : ByteArray) (n : Int) (hx : a.eval x = .agg #[.int .i64 k, .string s1, .string s2, .int .i64 n])
    (h : wpList Tryz.prog ops Q rest (a.put o.dst (.slice (some ⟨w.heap.size, 0, none⟩) 1 1)) (w.alloc (.cells #[.int .i64 k, .string s1, .string s2, .int .i64 n] 61))) : wpList Tryz.prog ops Q (o :: rest) a w := by
  obtain ⟨i, hi, hz, hsz, _⟩ := js_infoZ
  refine wpList_buildSlice hg 29 61 1 #[(0, x)] ho #[.int .i64 k, .string s1, .string s2, .int .i64 n] i _ Tryz.underlying29 hi hz (by rw [hsz]; decide) (by rw [hsz]; decide) ?_ h
  rw [hsz]
  have e : (Array.map (fun (p : Nat × Operand) => (p.1, a.eval p.2)) #[(0, x)]).toList = [(0, .agg #[.int .i64 k, .string s1, .string s2, .int .i64 n])] := by simp [hx]
  show Instr.fill _ _ (Array.map (fun (p : Nat × Operand) => (p.1, a.eval p.2)) #[(0, x)]).toList = _
  rw [e, show Array.range (1 * 4) = #[0, 1, 2, 3] from by decide]
  simp [Instr.fill, Value.cells]
theorem own_laid (w : World) (v : V) : OwnVals (w.alloc (.cells #[.int .i64 v.kind, .string (sb v.key), .string (sb v.text), .int .i64 v.count] 61)) w.heap.size (.slice (some ⟨w.heap.size, 0, none⟩) 1 1) [v] :=
  ⟨rfl, .inr ⟨w.heap.size, 1, _, rfl, Nat.le_refl _, heap_alloc_new w _, Nat.le_refl _, by unfold maxLen; omega, rfl, rfl⟩⟩
namespace Jo
theorem dec_nat (n : Nat) : Lib.decDigits n = natT n := by
  induction n using Nat.strongRecOn with
  | ind n ih =>
    by_cases h : n < 10
    · rw [Lib.decDigits, dif_pos h, nat_low h]
    · rw [Lib.decDigits, dif_neg h, nat_high h, ih _ (by omega)]
theorem itoa_text (n : Int) : Lib.itoa n = textF n := by
  unfold Lib.itoa textF
  split
  · rw [dec_nat]
  · rw [dec_nat, show n.toNat = n.natAbs by omega]
theorem fix_step {l : List UInt8} {i : Nat} {a : UInt8} {r : List UInt8} (h : l.drop i = a :: r) : fixF (l.drop i) = bytesF (orBad (charF (a :: r))).1 ++ fixF (l.drop (i + (orBad (charF (a :: r))).2)) := by
  have hd : ∀ k, l.drop (i + k) = (a :: r).drop k := fun k => by rw [← h, List.drop_drop]
  rw [h, hd]
  unfold orBad
  by_cases hz : (charF (a :: r)).2 = 0
  · rw [if_pos hz, fix_bad hz]
    rfl
  · rw [if_neg hz, fixF, if_neg hz]
    rw [show (a :: r).drop (charF (a :: r)).2 = r.drop ((charF (a :: r)).2 - 1) by
      conv => lhs; rw [show (charF (a :: r)).2 = ((charF (a :: r)).2 - 1) + 1 by omega, List.drop_succ_cons]]
/-- What the mending has come to. -/
structure FSt (w : World) (b k : Nat) (l acc : List UInt8) (pos : Nat) (wr : World) : Prop where
  mid : Mid w b k l acc pos wr
  fix : acc ++ fixF (l.drop pos) = fixF l
  len : acc.length ≤ 4 * pos
end Jo
set_option maxRecDepth 100000 in
set_option maxHeartbeats 4000000 in
theorem jo_text (w : World) (l : List UInt8) (hl : l.length ≤ 1000000000) : Calls Tryz.prog 25 #[.string (sb l)] w fun e w' => ∃ v', e = .returned v' ∧ Hid (OwnVals w' w.heap.size v' [⟨4, [], fixF l, 0⟩] ∧ Below w.heap.size w w') := by
  have HD := Lib.hid (fun (i : Nat) (h : i < l.length) => dec_at l h)
  have HT := Lib.hid (fun (i : Nat) (h : i < l.length) => told_is (at_of l h))
  have HQ := Lib.hid (fun (i : Nat) (h : i < l.length) => fix_step (at_of l h))
  have hsz := sb_size l
  have HB0 := Lib.hid (Bld.fresh w)
  obtain ⟨w1, hw1⟩ : ∃ w1, w1 = w.alloc (.cells #[.pointer none, .slice none 0 0] 78) := ⟨_, rfl⟩
  have HW1 := Lib.hid hw1
  have hs1 : w1.heap.size = w.heap.size + 1 := by rw [hw1, World.size_alloc]
  have HS1 := Lib.hid hs1
  have HST := Lib.hid (show FSt w w.heap.size (w.heap.size + 1) l [] 0 (w1.iter (sb l) 0) from ⟨⟨by rw [hw1]; exact (Bld.fresh w).alloc _, by have h := World.iter_heap w1 (sb l) 0; rw [hs1] at h; exact h, by omega, by rw [hw1]; exact ((Below.refl _ w).alloc (Nat.le_refl _) _).alloc (by rw [World.size_alloc]; omega) _⟩, by rw [List.drop_zero]; rfl, by simp⟩)
  clear hs1
  go_enter Tryz.func25, Tryz.ntmps25
  go_wp2_with fail
  rw [← hw1]
  clear hw1
  go_loopg [] l.length (fun g wx => ∃ (pos : Nat) (acc : List UInt8), pos + g = l.length ∧ Hid (FSt w w.heap.size (w.heap.size + 1) l acc pos wx))
  case atStart => exact ⟨0, [], by omega, HST⟩
  case round =>
    clear HST HB0
    obtain ⟨pos, acc, hpg, HS⟩ := hrel
    have hit := HS.out.mid.it
    cases gk with
    | zero =>
      obtain rfl : pos = l.length := by omega
      have hnx := fun ty => Lib.run_next_end_at (P := Tryz.prog) wr (w.heap.size + 1) (sb l) l.length ty hit (by rw [hsz]; omega)
      have HF := Lib.hid (show acc = fixF l from by
        have h := HS.out.fix
        rw [List.drop_length, fix_nil, List.append_nil] at h
        exact h)
      have HL := Lib.hid HS.out.mid.low
      have HLT := Lib.hid HS.out.mid.lt
      have HO := Lib.hid (bld_out HS.out.mid.bld HS.out.mid.lt)
      clear hit HS HD HT HQ hsz
      rw [HF.out] at HO
      generalize sb l = S at *
      go_wp2_with fail
      refine HO.out.mono ?_
      rintro e w3 ⟨rfl, B3⟩
      have HB3 := Lib.hid (HL.out.trans B3)
      clear B3 HO
      have HOW := Lib.hid (own_laid w3 ⟨4, [], fixF l, 0⟩)
      have HBW := Lib.hid (below_alloc' w3 (.cells #[.int .i64 4, .string (sb []), .string (sb (fixF l)), .int .i64 0] 61))
      clear hnx
      generalize sb (fixF l) = F at *
      go_wp2_with (with_reducible refine jo_build1 rfl _ rfl 4 ⟨#[]⟩ F 0 rfl ?_)
      go_ret
      exact ⟨_, rfl, Lib.hid ⟨HOW.out.mono HB3.out.size, HB3.out.trans (HBW.out.mono HB3.out.size)⟩⟩
    | succ g =>
      have hlt : pos < l.length := by omega
      have hd := HD.out pos hlt
      have T := HT.out pos hlt
      have hq := HQ.out pos hlt
      have hnx := fun ty => Lib.run_next_any_at (P := Tryz.prog) wr (w.heap.size + 1) (sb l) pos ty hit (by rw [hsz]; exact hlt)
      rw [hd] at hnx
      obtain ⟨n, j, hnj⟩ : ∃ n j, orBad (charF (l[pos] :: l.drop (pos + 1))) = (n, j) := ⟨_, _, rfl⟩
      rw [hnj] at T hq hnx
      dsimp only at T hq hnx
      have hj := T.pos
      have hjl := T.le
      have HN := Lib.hid (fun (w' : World) (m : Mid w w.heap.size (w.heap.size + 1) l (acc ++ bytesF n) (pos + j) w') => show FSt w w.heap.size (w.heap.size + 1) l (acc ++ bytesF n) (pos + j) w' from ⟨m, by rw [List.append_assoc, ← hq, HS.out.fix], by
        have h1 := HS.out.len
        have h2 := bytes_len n
        rw [List.length_append]
        omega⟩)
      have HM2 := Lib.hid (HS.out.mid.next (pos + j))
      have HLEN := Lib.hid (show acc.length ≤ 100000000000 by have := HS.out.len; omega)
      have HT1 := Lib.hid T.ok
      clear hd hq HD HT HQ hnj T HS hit
      generalize hw2 : wr.iterAt (w.heap.size + 1) (sb l) (pos + j) = w2 at hnx HM2
      go_wp2_with fail
      refine (bld_rune HM2.out.bld HLEN.out HM2.out.lt HT1.out).mono ?_
      rintro e w3 ⟨⟨v3, rfl⟩, B3⟩
      have HM3 := Lib.hid (HN.out w3 (HM2.out.wrote B3))
      clear B3 HM2 hnx hw2
      go_wp2_with fail
      go_roundg (g + 1 - j)
      case measure => omega
      case rel => exact ⟨pos + j, _, by omega, HM3⟩
set_option maxRecDepth 100000 in
set_option maxHeartbeats 1000000 in
theorem jo_int (w : World) (n : Int) (h0 : -9223372036854775808 ≤ n) (h1 : n ≤ 9223372036854775807) (hE : JEnv w) : Calls Tryz.prog 24 #[.int .i64 n] w fun e w' => ∃ v', e = .returned v' ∧ Hid (OwnVals w' w.heap.size v' [⟨3, [], textF n, 0⟩] ∧ Below w.heap.size w w') := by
  have HI := Lib.hid (Tryz.strconv_Itoa n h0 h1 w hE.pow)
  rw [itoa_text] at HI
  change Hid (Calls _ _ _ _ fun e w' => e = .returned (.string (sb (textF n))) ∧ _) at HI
  have HOW := Lib.hid (fun W => own_laid W ⟨3, [], textF n, 0⟩)
  have HBW := Lib.hid (fun W => below_alloc' W (.cells #[.int .i64 3, .string (sb []), .string (sb (textF n)), .int .i64 0] 61))
  dsimp only at HOW
  clear hE h0 h1
  generalize sb (textF n) = F at *
  go_enter Tryz.func24, Tryz.ntmps24
  go_wp2_with fail
  refine HI.out.mono ?_
  rintro e w3 ⟨rfl, B3⟩
  have HB3 := Lib.hid (below_grown' B3)
  clear B3 HI
  go_wp2_with (with_reducible refine jo_build1 rfl _ rfl 3 ⟨#[]⟩ F 0 rfl ?_)
  go_ret
  exact ⟨_, rfl, Lib.hid ⟨(HOW.out w3).mono HB3.out.size, HB3.out.trans ((HBW.out w3).mono HB3.out.size)⟩⟩
end Go.Proofs.YtfgflgifffjdgaaGreatDoor
