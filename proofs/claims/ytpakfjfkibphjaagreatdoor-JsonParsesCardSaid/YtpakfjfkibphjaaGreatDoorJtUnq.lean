/-
  jtext.Unquote.
-/
import Derived.Test.YtpakfjfkibphjaaGreatDoorJtQuote
import Derived.Test.YtpakfjfkibphjaaGreatDoorJtEsc
namespace Go.Proofs.YtpakfjfkibphjaaGreatDoor
open Go.RowKit Sh
namespace Jt
/-- What Unquote tells. -/
def unqV : Option (List UInt8 × Nat) → Value
  | some p => .tuple #[.string (sb p.1), .int .i64 (p.2 : Int), .bool true]
  | none => .tuple #[.string ⟨#[]⟩, .int .i64 0, .bool false]
/-- What the reading has come to: the iterator stands at pos, what is not read yet begins at p. -/
structure USt (w : World) (b k : Nat) (l acc : List UInt8) (pos nx p : Nat) (wr : World) : Prop where
  mid : Mid w b k l acc pos wr
  skip : pos ≤ p
  low : ∀ j, pos ≤ j → j < p → (l.getD j 0).toNat < 128
  nx : (pos < nx ∧ p = nx) ∨ (nx ≤ pos ∧ p = pos)
  unq : unqF l = (unqB (l.drop p)).map fun q => (acc ++ q.1, p + q.2)
  le : p ≤ l.length
  len : acc.length ≤ 4 * p
theorem pre_take {l : List UInt8} : [239, 191, 189].isPrefixOf l = true ↔ l.take 3 = [239, 191, 189] := by
  rw [List.isPrefixOf_iff_prefix, List.prefix_iff_eq_take]
  exact eq_comm
theorem low_one {l : List UInt8} {i : Nat} (h : i < l.length) (hl : (l.getD i 0).toNat < 128) : (orBad (charF (l[i] :: l.drop (i + 1)))).2 = 1 := by
  have e : l.getD i 0 = l[i] := by rw [List.getD_eq_getElem?_getD, List.getElem?_eq_getElem h]; rfl
  rw [e] at hl
  rw [charF, if_pos hl]
  rfl
section
variable {w wr w' : World} {b k pos nx p n j : Nat} {l acc : List UInt8}
theorem USt.over (h : USt w b k l acc pos nx p wr) (he : ¬ pos < l.length) : unqF l = none := by
  have h1 := h.skip
  have h2 := h.le
  rw [h.unq, List.drop_eq_nil_of_le (by omega), unq_nil]
  rfl
theorem USt.pass (h : USt w b k l acc pos nx p wr) (hx : pos < nx) (m : Mid w b k l acc (pos + 1) w') : USt w b k l acc (pos + 1) nx p w' := by
  have h1 := h.nx
  have h2 : p = nx := by omega
  exact ⟨m, by omega, fun i h3 h4 => h.low i (by omega) h4, by omega, h.unq, h.le, h.len⟩
theorem USt.here (h : USt w b k l acc pos nx p wr) (hx : ¬ pos < nx) : p = pos := by
  have := h.nx
  omega
theorem USt.char (h : USt w b k l acc pos nx pos wr) {a : UInt8} {r : List UInt8} (hd : l.drop pos = a :: r) (h34 : a ≠ 34) (h92 : a ≠ 92) (hb : ¬ ((charF (a :: r)).2 = 0 ∨ (charF (a :: r)).1 < 32)) (hnx : nx ≤ pos)
    (m : Mid w b k l (acc ++ bytesF (charF (a :: r)).1) (pos + (charF (a :: r)).2) w') : USt w b k l (acc ++ bytesF (charF (a :: r)).1) (pos + (charF (a :: r)).2) nx (pos + (charF (a :: r)).2) w' := by
  have T := told_is hd
  have hz : (charF (a :: r)).2 ≠ 0 := fun e => hb (.inl e)
  rw [orBad_good hz] at T
  have h1 := h.len
  have h2 := bytes_len (charF (a :: r)).1
  have h3 := T.pos
  refine ⟨m, Nat.le_refl _, fun i h3 h4 => by omega, by omega, ?_, T.le, by rw [List.length_append]; omega⟩
  rw [h.unq, unq_at_ch hd h34 h92 hb, Option.map_map]
  congr 1
  funext q
  simp only [Function.comp, List.append_assoc, Nat.add_assoc]
theorem USt.esc (h : USt w b k l acc pos nx pos wr) {r : List UInt8} (hd : l.drop pos = 92 :: r) {c e : Nat} (he : escN (92 :: r) = some (c, e)) (m : Mid w b k l (acc ++ bytesF c) (pos + 1) w') :
    USt w b k l (acc ++ bytesF c) (pos + 1) (pos + e) (pos + e) w' := by
  have T := esc_told he
  have h1 := h.len
  have h2 := bytes_len c
  have h3 := T.two
  have h4 := T.le
  have hl := congrArg List.length hd
  rw [List.length_drop] at hl
  have h5 : pos < l.length := by rw [List.length_cons] at hl; omega
  refine ⟨m, by omega, fun i h6 h7 => ?_, by omega, ?_, by omega, by rw [List.length_append]; omega⟩
  · have h8 := T.low (i - pos) (by omega)
    rw [← hd, getD_drop, show pos + (i - pos) = i by omega] at h8
    exact h8
  · rw [h.unq, unq_at_esc hd he, Option.map_map]
    congr 1
    funext q
    simp only [Function.comp, List.append_assoc, Nat.add_assoc]
end
end Jt
open Jt
set_option maxRecDepth 100000 in
set_option maxHeartbeats 8000000 in
theorem jt_unquote (w : World) (l : List UInt8) (hl : l.length ≤ 1000000000) (hE : ErrOk w) : Calls Tryz.prog 69 #[.string (sb l)] w fun e w' => e = .returned (unqV (unqF l)) ∧ Below w.heap.size w w' := by
  match l with
  | [] =>
    have h1 : (sb []).toList = [] := sb_list _
    show Calls _ _ _ _ fun e w' => e = .returned (unqV none) ∧ _
    unfold unqV
    go_enter Tryz.func69, Tryz.ntmps69
    go_wp2_with fail
    go_ret3
    exact ⟨rfl, Below.refl _ _⟩
  | a :: r =>
    have h1 : ¬ (sb (a :: r)).toList = [] := by rw [sb_list]; exact List.cons_ne_nil _ _
    have h2 : (sb (a :: r)).toList.isEmpty = false := by rw [sb_list]; rfl
    have hix : ∀ W, (Instr.index 9 (.string (sb (a :: r))) (.int .i64 0)).run Tryz.prog W = .ok (.int .u8 (n8 a)) W := fun W => sb_index (a :: r) 0 (by simp) W
    by_cases ha : a = 34
    · subst ha
      have hix : ∀ W, (Instr.index 9 (.string (sb (34 :: r))) (.int .i64 0)).run Tryz.prog W = .ok (.int .u8 34) W := hix
      have hu : unqF (34 :: r) = (unqB ((34 :: r).drop 1)).map fun p => ([] ++ p.1, 1 + p.2) := by rw [unqF, if_pos rfl]; rfl
      have hl0 : 0 < (34 :: r).length := by simp
      have h34 : ((34 :: r).getD 0 0).toNat < 128 := (by decide : (34 : UInt8).toNat < 128)
      generalize 34 :: r = l at *
      have HU := Lib.hid hu
      have HLO := Lib.hid h34
      clear hu h34
      have HD := Lib.hid (fun (i : Nat) (h : i < l.length) => dec_at l h)
      have HT := Lib.hid (fun (i : Nat) (h : i < l.length) => told_is (at_of l h))
      have hsz := sb_size l
      have HE := Lib.hid hE
      clear hE
      have HIT := Lib.hid (World.iter_heap (w.alloc (.cells #[.pointer none, .slice none 0 0] 92)) (sb l) 0)
      go_enter Tryz.func69, Tryz.ntmps69
      go_wp2_with fail
      go_loopg [6] l.length (fun g vn wx => ∃ (pos nx p : Nat) (acc : List UInt8), pos + g = l.length ∧ vn = .int .i64 (nx : Int) ∧ nx ≤ 2000000000 ∧ Hid (USt w w.heap.size (w.heap.size + 1) l acc pos nx p wx))
      case atStart =>
        refine ⟨0, 1, 1, [], by omega, rfl, by omega, Lib.hid ⟨⟨(Bld.fresh w).alloc _, ?_, by omega, ((Below.refl _ w).alloc (Nat.le_refl _) _).alloc (by simp) _⟩, by omega, fun j _ hj => ?_, by omega, HU.out, by omega, by simp⟩⟩
        · have := HIT.out
          simpa using this
        · obtain rfl : j = 0 := by omega
          exact HLO.out
      case round =>
        obtain ⟨pos, nx, p, acc, hpg, rfl, hnx, HS⟩ := hrel
        have hit := HS.out.mid.it
        cases gk with
        | zero =>
          obtain rfl : pos = l.length := by omega
          have hnx := fun ty => Lib.run_next_end_at (P := Tryz.prog) wr (w.heap.size + 1) (sb l) l.length ty hit (by rw [hsz]; omega)
          have HN := Lib.hid (HS.out.over (Nat.lt_irrefl _))
          have HL := Lib.hid HS.out.mid.low
          clear hit HS HD HT hsz HIT
          generalize sb l = S at *
          go_wp2_with fail
          go_ret3
          exact ⟨by rw [HN.out]; rfl, HL.out⟩
        | succ g =>
          have hlt : pos < l.length := by omega
          have hd := HD.out pos hlt
          have T := HT.out pos hlt
          have hnx1 := fun ty => Lib.run_next_any_at (P := Tryz.prog) wr (w.heap.size + 1) (sb l) pos ty hit (by rw [hsz]; exact hlt)
          rw [hd] at hnx1
          by_cases hsk : pos < nx
          · have hj := low_one hlt (HS.out.low pos (Nat.le_refl _) (by have := HS.out.nx; omega))
            rw [hj] at hnx1
            generalize (orBad (charF (l[pos] :: l.drop (pos + 1)))).1 = n at *
            have HN := Lib.hid (HS.out.pass hsk (HS.out.mid.next (pos + 1)))
            have hi : (pos : Int) < (nx : Int) := by omega
            clear hd T HD HT hit HS
            generalize wr.iterAt (w.heap.size + 1) (sb l) (pos + 1) = w2 at *
            go_wp2_with fail
            go_roundg g
            case measure => omega
            case rel => exact ⟨pos + 1, nx, p, acc, by omega, rfl, hnx, HN⟩
          · obtain rfl := HS.out.here hsk
            have hi : ¬ (p : Int) < (nx : Int) := by omega
            have hat := at_of l hlt
            obtain ⟨c, hc⟩ : ∃ c, l[p] = c := ⟨_, rfl⟩
            obtain ⟨t, ht⟩ : ∃ t, l.drop (p + 1) = t := ⟨_, rfl⟩
            rw [hc, ht] at hat T hnx1 hd
            have HM2 := Lib.hid (HS.out.mid.next (p + (orBad (charF (c :: t))).2))
            have HLN := Lib.hid (show acc.length ≤ 10000000000 by have := HS.out.len; omega)
            have hnp : nx ≤ p := by omega
            clear hd HD HT hit hsk HIT HLO HU hix h1 h2 hl0 hc ht
            by_cases c34 : c = 34
            · subst c34
              have e1 : orBad (charF (34 :: t)) = (34, 1) := rfl
              rw [e1] at hnx1 HM2
              have HN := Lib.hid (show unqF l = some (acc, p + 1) from by
                rw [HS.out.unq, unq_at_end hat]
                show some (acc ++ [], p + 1) = _
                rw [List.append_nil])
              have hp1 : (p : Int) ≤ 1000000000 := by omega
              clear T HS hat
              dsimp only at hnx1 HM2
              change ∀ ty, _ = Result.ok (Value.tuple #[.bool true, .int .i64 (p : Int), .int .i32 34]) _ at hnx1
              generalize wr.iterAt (w.heap.size + 1) (sb l) (p + 1) = w2 at *
              generalize sb l = S at *
              go_wp2_with fail
              refine (bld_out HM2.out.bld HM2.out.lt).mono ?_
              rintro e w3 ⟨rfl, B3⟩
              have HB3 := Lib.hid (HM2.out.low.trans B3)
              clear B3
              go_wp2_with fail
              go_ret3
              exact ⟨by rw [HN.out]; rfl, HB3.out⟩
            by_cases c92 : c = 92
            · subst c92
              have e1 : orBad (charF (92 :: t)) = (92, 1) := rfl
              rw [e1] at hnx1 HM2
              have hcut := sb_cut l p l.length
              rw [List.take_length, hat] at hcut
              have HX := Lib.hid (fun W (hW : ErrOk W) => jt_escape W (92 :: t) (by
                have := congrArg List.length hat
                rw [List.length_drop] at this
                omega) hW)
              have hp1 : (p : Int) ≤ 1000000000 := by omega
              have hpl : (p : Int) ≤ (l.length : Int) := by omega
              clear T
              dsimp only at hnx1 HM2
              change ∀ ty, _ = Result.ok (Value.tuple #[.bool true, .int .i64 (p : Int), .int .i32 92]) _ at hnx1
              have HE2 := Lib.hid (HE.out.below HM2.out.low)
              cases he : escN (92 :: t) with
              | none =>
                rw [he] at HX
                have HN := Lib.hid (show unqF l = none from by
                  rw [HS.out.unq, unq_at_none hat he]
                  rfl)
                unfold escV at HX
                dsimp only at HX
                clear HS hat he
                generalize wr.iterAt (w.heap.size + 1) (sb l) (p + 1) = w2 at *
                generalize sb (92 :: t) = Z at *
                generalize sb l = S at *
                generalize l.length = ln at *
                go_wp2_with fail
                refine (HX.out _ HE2.out).mono ?_
                rintro e w3 ⟨rfl, B3⟩
                have HM3 := Lib.hid (HM2.out.low.trans (B3.mono HM2.out.lt))
                clear B3
                go_wp2_with fail
                go_ret3
                exact ⟨by rw [HN.out]; rfl, HM3.out⟩
              | some ck =>
                obtain ⟨cc, kk⟩ := ck
                rw [he] at HX
                have hT := esc_told he
                have hk2 := hT.two
                have hkl := hT.le
                have HOK := Lib.hid hT.ok
                have HN := Lib.hid (fun (w' : World) (m : Mid w w.heap.size (w.heap.size + 1) l (acc ++ bytesF cc) (p + 1) w') => HS.out.esc hat he m)
                have hlt2 := congrArg List.length hat
                rw [List.length_drop] at hlt2
                have hkk : ¬ (kk : Int) = 0 := by omega
                have hkb : (kk : Int) ≤ 1000000000 := by omega
                have hkn : kk ≤ 1000000000 := by omega
                have hk0 : 0 ≤ (kk : Int) := by omega
                unfold escV at HX
                dsimp only at HX
                clear HS hat he hT hk2 hkl hlt2
                have HMN := Lib.hid (fun (w3 : World) (hb : Below (wr.iterAt (w.heap.size + 1) (sb l) (p + 1)).heap.size (wr.iterAt (w.heap.size + 1) (sb l) (p + 1)) w3) => HM2.out.still hb)
                generalize hw2 : wr.iterAt (w.heap.size + 1) (sb l) (p + 1) = w2 at *
                clear hw2
                generalize sb (92 :: t) = Z at *
                go_wp2_with fail
                refine (HX.out _ HE2.out).mono ?_
                rintro e w3 ⟨rfl, B3⟩
                have HM3 := Lib.hid (HMN.out _ B3)
                clear B3 HX HMN
                go_wp2_with fail
                refine (bld_rune HM3.out.bld (by have := HLN.out; omega) HM3.out.lt HOK.out).mono ?_
                rintro e w4 ⟨⟨v, rfl⟩, W4⟩
                have HS4 := Lib.hid (HN.out w4 (HM3.out.wrote W4))
                clear W4
                go_wp2_with fail
                go_roundg g
                case measure => omega
                case rel => exact ⟨p + 1, p + kk, p + kk, _, by omega, by go_num, by omega, HS4⟩
            · have hn34 : ¬ (orBad (charF (c :: t))).1 = 34 := fun e => c34 ((told_byte (c := 34) (by decide)).1 e)
              have hn92 : ¬ (orBad (charF (c :: t))).1 = 92 := fun e => c92 ((told_byte (c := 92) (by decide)).1 e)
              have hsc := T.ok
              have hj1 := T.pos
              have hjl := T.le
              have hcut := sb_cut l p l.length
              rw [List.take_length, hat] at hcut
              have HP := Lib.hid (fun W => has_sb (c :: t) [239, 191, 189] W)
              have hpl : (p : Int) ≤ (l.length : Int) := by omega
              by_cases hz : (charF (c :: t)).2 = 0 ∨ (charF (c :: t)).1 < 32
              · have HN := Lib.hid (show unqF l = none from by
                  rw [HS.out.unq, unq_at_bad hat c34 c92 hz]
                  rfl)
                by_cases h0 : (charF (c :: t)).2 = 0
                · have e1 : orBad (charF (c :: t)) = (65533, 1) := by rw [orBad, if_pos h0]
                  have hb := (bad_or c t (by rw [e1])).1 h0
                  have hpf : [239, 191, 189].isPrefixOf (c :: t) = false := by
                    cases hq : [239, 191, 189].isPrefixOf (c :: t) with
                    | false => rfl
                    | true => exact absurd (pre_take.1 hq) hb
                  rw [hpf] at HP
                  rw [e1] at hnx1 HM2
                  dsimp only at hnx1 HM2
                  change ∀ ty, _ = Result.ok (Value.tuple #[.bool true, .int .i64 (p : Int), .int .i32 65533]) _ at hnx1
                  clear T HS hat hz h0 hb hpf e1 hn34 hn92 hsc hj1 hjl c34 c92
                  generalize wr.iterAt (w.heap.size + 1) (sb l) (p + 1) = w2 at *
                  generalize sb (c :: t) = Z at *
                  generalize sb l = S at *
                  generalize l.length = ln at *
                  go_wp2_with fail
                  refine (HP.out _).mono ?_
                  rintro e w3 ⟨rfl, rfl⟩
                  go_wp2_with fail
                  go_ret3
                  exact ⟨by rw [HN.out]; rfl, HM2.out.low⟩
                · have e1 := orBad_good h0
                  have hlow := hz.resolve_left h0
                  rw [e1] at hnx1 HM2 hn34 hn92
                  have hni : ((charF (c :: t)).1 : Int) < 32 := by omega
                  clear T HS hat hz h0 e1 hsc hj1 hjl c34 c92
                  generalize (charF (c :: t)).1 = n at *
                  generalize (charF (c :: t)).2 = j at *
                  have hi34 : ¬ (n : Int) = 34 := by omega
                  have hi92 : ¬ (n : Int) = 92 := by omega
                  clear hn34 hn92 hlow HP
                  generalize (n : Int) = z at *
                  generalize wr.iterAt (w.heap.size + 1) (sb l) (p + j) = w2 at *
                  generalize sb (c :: t) = Z at *
                  generalize sb l = S at *
                  generalize l.length = ln at *
                  go_wp2_with fail
                  go_ret3
                  exact ⟨by rw [HN.out]; rfl, HM2.out.low⟩
              · have h0 : (charF (c :: t)).2 ≠ 0 := fun e => hz (.inl e)
                have h32 : ¬ (charF (c :: t)).1 < 32 := fun e => hz (.inr e)
                have e1 := orBad_good h0
                have hbo := bad_or c t
                rw [e1] at hnx1 HM2 hn34 hn92 hsc hj1 hjl hbo
                have HN := Lib.hid (fun (w' : World) m => HS.out.char (w' := w') hat c34 c92 hz hnp m)
                clear T HS hat hz e1 c34 c92
                have hpf : (charF (c :: t)).1 = 65533 → [239, 191, 189].isPrefixOf (c :: t) = true := fun e => pre_take.2 (Decidable.byContradiction fun hq => h0 ((hbo e).2 hq))
                clear hbo h0
                generalize (charF (c :: t)).1 = n at *
                generalize (charF (c :: t)).2 = j at *
                have HOK := Lib.hid hsc
                obtain ⟨z, hz0⟩ : ∃ z : Int, z = (n : Int) := ⟨_, rfl⟩
                rw [← hz0] at hnx1
                have hi32 : ¬ z < 32 := by omega
                have hi34 : ¬ z = 34 := by omega
                have hi92 : ¬ z = 92 := by omega
                have HZ := Lib.hid hz0
                generalize wr.iterAt (w.heap.size + 1) (sb l) (p + j) = w2 at *
                have HBR := Lib.hid (bld_rune HM2.out.bld (by have := HLN.out; omega) HM2.out.lt HOK.out)
                rw [← hz0] at HBR
                by_cases hbad : z = 65533
                · have hb2 := hpf (by omega)
                  rw [hb2] at HP
                  subst hbad
                  clear hz0 HZ hb2 hpf hn34 hn92 hsc h32
                  generalize sb (c :: t) = Z at *
                  go_wp2_with fail
                  refine (HP.out _).mono ?_
                  rintro e w3 ⟨rfl, rfl⟩
                  go_wp2_with fail
                  refine HBR.out.mono ?_
                  rintro e w4 ⟨⟨v, rfl⟩, W4⟩
                  have HS4 := Lib.hid (HN.out w4 (HM2.out.wrote W4))
                  clear W4
                  go_wp2_with fail
                  go_roundg (g + 1 - j)
                  case measure => omega
                  case rel => exact ⟨p + j, nx, p + j, _, by omega, rfl, hnx, HS4⟩
                · clear hz0 HZ hpf hn34 hn92 hsc h32 HP
                  go_wp2_with fail
                  refine HBR.out.mono ?_
                  rintro e w4 ⟨⟨v, rfl⟩, W4⟩
                  have HS4 := Lib.hid (HN.out w4 (HM2.out.wrote W4))
                  clear W4
                  go_wp2_with fail
                  go_roundg (g + 1 - j)
                  case measure => omega
                  case rel => exact ⟨p + j, nx, p + j, _, by omega, rfl, hnx, HS4⟩
    · have hn : ¬ n8 a = 34 := fun e => ha (n8_is (c := 34) e)
      have hu : unqF (a :: r) = none := by rw [unqF, if_neg ha]
      rw [hu]
      unfold unqV
      generalize sb (a :: r) = S at *
      generalize n8 a = d at *
      clear hu ha
      go_enter Tryz.func69, Tryz.ntmps69
      go_wp2_with fail
      go_ret3
      exact ⟨rfl, Below.refl _ _⟩
end Go.Proofs.YtpakfjfkibphjaaGreatDoor
