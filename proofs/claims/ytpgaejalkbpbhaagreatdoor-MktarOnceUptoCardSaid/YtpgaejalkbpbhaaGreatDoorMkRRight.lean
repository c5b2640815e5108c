/-
  The reference's text, far, Right.
-/
import Derived.Test.YtpgaejalkbpbhaaGreatDoorMkB
import Derived.Test.YtpgaejalkbpbhaaGreatDoorUnRef
import Derived.Test.YtpgaejalkbpbhaaGreatDoorHdC
import Derived.Deep.CutRange
namespace Go.Proofs.YtpgaejalkbpbhaaGreatDoor
open Go.RowKit Sh Px Hd

theorem text_step {l : List UInt8} {j : Nat} (hj : j < l.length) (h : (l.take j).contains 0 = false) (hd : n8 l[j] ≠ 0) : (l.take (j + 1)).contains 0 = false := by
  rw [List.take_succ_eq_append_getElem hj]
  cases hc : (l.take j ++ [l[j]]).contains 0 with
  | false => rfl
  | true =>
    rcases List.mem_append.1 (List.contains_iff_mem.1 hc) with h2 | h2
    · have := List.contains_iff_mem.2 h2
      rw [h] at this
      cases this
    · have h3 : l[j] = 0 := (List.mem_singleton.1 h2).symm
      exact absurd (by rw [h3]; rfl) hd
theorem text_zero {l : List UInt8} {j : Nat} (hj : j < l.length) (h : n8 l[j] = 0) : Un.textOk l = false := by
  have h2 : l.contains 0 = true := List.contains_iff_mem.2 (by rw [← n8_is (c := 0) h]; exact List.getElem_mem _)
  unfold Un.textOk
  rw [h2]
  exact Bool.and_false _
set_option maxRecDepth 100000 in
set_option maxHeartbeats 2000000 in
theorem mk_rtext (w : World) (s : List UInt8) (hl : s.length ≤ 140737488351232) : Calls Tryz.prog 25 #[.string (sb s)] w fun e w' => e = .returned (.bool (Un.textOk s)) ∧ w = w' := by
  have HI := Lib.hid (sb_index s)
  have hsz := sb_size s
  have HT := Lib.hid (show ∀ z, s.contains 0 = z → Un.textOk s = (decide (s.length ≤ 4096) && !z) from fun z hz => by unfold Un.textOk; rw [hz])
  have HZ := Lib.hid (fun j hj h => text_zero (l := s) (j := j) hj h)
  generalize sb s = S at *
  generalize Un.textOk s = z at *
  go_enter Tryz.func25, Tryz.ntmps25
  go_wp2_with fail
  go_loopw [3] (fun i wr => ∃ j : Nat, j ≤ s.length ∧ i = .int .i64 j ∧ Hid ((s.take j).contains 0 = false) ∧ w = wr) (fun i _ => s.length - (intOf i).toNat)
  case atStart => exact ⟨0, Nat.zero_le _, rfl, Lib.hid rfl, rfl⟩
  case round =>
    obtain ⟨j, hj, rfl, ho, rfl⟩ := hrel
    by_cases hlt : j < s.length
    · have hix := HI.out j hlt
      have HX := Lib.hid (fun h => text_step hlt ho.out h)
      have HN := Lib.hid (fun h => HZ.out j hlt h)
      generalize n8 s[j] = d at *
      have hlt' : (j : Int) < (s.length : Int) := by omega
      by_cases h1 : d = 0
      · subst h1
        go_wp2_with fail
        go_ret
        exact ⟨by rw [HN.out (by simp)]; rfl, rfl⟩
      · go_wp2_with fail
        go_roundw
        case rel => exact ⟨j + 1, by omega, by go_num, Lib.hid (HX.out h1), trivial⟩
        case measure => simp [intOf] <;> omega
    · obtain rfl : j = s.length := by omega
      have hge : ¬ (s.length : Int) < (s.length : Int) := by omega
      have h2 := ho.out
      rw [List.take_length] at h2
      have HR := Lib.hid (HT.out _ h2)
      clear h2 HT HZ
      by_cases h4 : s.length ≤ 4096
      · have h4' : (s.length : Int) ≤ 4096 := by omega
        have HR2 := Lib.hid (show z = true by rw [HR.out, decide_eq_true h4]; rfl)
        go_wp2_with fail
        go_ret
        exact ⟨by rw [HR2.out]; rfl, rfl⟩
      · have h4' : ¬ (s.length : Int) ≤ 4096 := by omega
        have HR2 := Lib.hid (show z = false by rw [HR.out, decide_eq_false h4]; rfl)
        go_wp2_with fail
        go_ret
        exact ⟨by rw [HR2.out]; rfl, rfl⟩
set_option maxRecDepth 100000 in
set_option maxHeartbeats 2000000 in
theorem mk_rfar (w : World) (n : Int) : Calls Tryz.prog 28 #[.int .i64 n] w fun e w' => e = .returned (.bool (Mk.far n)) ∧ w = w' := by
  by_cases h1 : n < 0
  · have HR := Lib.hid (show Mk.far n = true by unfold Mk.far; rw [decide_eq_true h1]; rfl)
    go_enter Tryz.func28, Tryz.ntmps28
    go_wp2_with fail
    go_ret
    exact ⟨by rw [HR.out]; rfl, rfl⟩
  · by_cases h2 : 4611686018427387904 < n
    · have h2' : n > 4611686018427387904 := h2
      have HR := Lib.hid (show Mk.far n = true by unfold Mk.far; rw [decide_eq_true h2, Bool.or_true])
      go_enter Tryz.func28, Tryz.ntmps28
      go_wp2_with fail
      go_ret
      exact ⟨by rw [HR.out]; rfl, rfl⟩
    · have h2' : ¬ n > 4611686018427387904 := h2
      have HR := Lib.hid (show Mk.far n = false by unfold Mk.far; rw [decide_eq_false h1, decide_eq_false h2]; rfl)
      go_enter Tryz.func28, Tryz.ntmps28
      go_wp2_with fail
      go_ret
      exact ⟨by rw [HR.out]; rfl, rfl⟩
theorem str_empty (s : List UInt8) : (s = [] → (sb s).toList = []) ∧ (s ≠ [] → ¬ (sb s).toList = [] ∧ (sb s).toList.isEmpty = false) := ⟨fun h => by rw [h]; exact sb_list _, fun h => by
  rw [sb_list]
  cases s with
  | nil => exact absurd rfl h
  | cons _ _ => exact ⟨by simp, rfl⟩⟩
/-- The questions, one by one. -/
def rq1 (e : Un.E) : Bool := e.path == [] || !Un.textOk e.path
def rq2 (e : Un.E) : Bool := decide (e.kind < 0) || decide (6 < e.kind) || decide (e.mode < 0) || decide (4095 < e.mode)
def rq3 (e : Un.E) : Bool := Mk.far e.uid || Mk.far e.gid || Mk.far e.mtime
def rq4 (e : Un.E) : Bool := !Un.textOk e.link || (!(e.link == []) && !Mk.isLink e.kind) || (!(e.data == []) && !(e.kind == 0))
def rq5 (e : Un.E) : Bool := !(writeZ e.major 8).isSome || !(writeZ e.minor 8).isSome || (!Mk.isDev e.kind && (!(e.major == 0) || !(e.minor == 0)))
noncomputable def rq6 (e : Un.E) : Bool := !((readF e.attrs).1 == 0) || !(Un.attrsF (readF e.attrs).2 == e.attrs)
theorem if_bool {P : Prop} [Decidable P] {b : Bool} (h : P ↔ b = true) (x y : Nat) : (if P then x else y) = if b = true then x else y := by
  by_cases hp : P
  · rw [if_pos hp, if_pos (h.1 hp)]
  · rw [if_neg hp, if_neg (fun hb => hp (h.2 hb))]
theorem right_rq (e : Un.E) : Mk.rightF e = if rq1 e = true then 9 else if rq2 e = true then 1 else if rq3 e = true then 1 else if rq4 e = true then 1 else if rq5 e = true then 1 else if rq6 e = true then 1 else 0 := by
  have h1 : (e.path = [] ∨ Un.textOk e.path = false) ↔ rq1 e = true := by simp [rq1]
  have h2 : (e.kind < 0 ∨ 6 < e.kind ∨ e.mode < 0 ∨ 4095 < e.mode) ↔ rq2 e = true := by simp [rq2, or_assoc]
  have h3 : (Mk.far e.uid = true ∨ Mk.far e.gid = true ∨ Mk.far e.mtime = true) ↔ rq3 e = true := by simp [rq3, or_assoc]
  have h4 : (Un.textOk e.link = false ∨ (e.link ≠ [] ∧ Mk.isLink e.kind = false) ∨ (e.data ≠ [] ∧ e.kind ≠ 0)) ↔ rq4 e = true := by simp [rq4, or_assoc]
  have h5 : ((writeZ e.major 8).isSome = false ∨ (writeZ e.minor 8).isSome = false ∨ (Mk.isDev e.kind = false ∧ (e.major ≠ 0 ∨ e.minor ≠ 0))) ↔ rq5 e = true := by
    simp only [rq5, Bool.or_eq_true, Bool.and_eq_true, Bool.not_eq_true', beq_eq_false_iff_ne, ne_eq, or_assoc]
  have h6 : ((readF e.attrs).1 ≠ 0 ∨ Un.attrsF (readF e.attrs).2 ≠ e.attrs) ↔ rq6 e = true := by simp [rq6]
  unfold Mk.rightF
  rw [if_bool h1, if_bool h2, if_bool h3, if_bool h4, if_bool h5, if_bool h6]

set_option maxRecDepth 100000 in
set_option maxHeartbeats 16000000 in
theorem mk_rright (w : World) (e : Un.E) (hp : e.path.length ≤ 140737488351232) (hl : e.link.length ≤ 140737488351232) (ha : e.attrs.length ≤ 100000000) :
    Calls Tryz.prog 11 #[.agg (entL e).toArray] w fun x w' => x = .returned (.int .i64 (Mk.rightF e : Nat)) ∧ Hid (Below w.heap.size w w') := by
  have HR := Lib.hid (right_rq e)
  have Q1 := Lib.hid (show rq1 e = (e.path == [] || !Un.textOk e.path) from rfl)
  have Q2 := Lib.hid (show rq2 e = (decide (e.kind < 0) || decide (6 < e.kind) || decide (e.mode < 0) || decide (4095 < e.mode)) from rfl)
  have Q3 := Lib.hid (show rq3 e = (Mk.far e.uid || Mk.far e.gid || Mk.far e.mtime) from rfl)
  have Q4 := Lib.hid (show rq4 e = (!Un.textOk e.link || (!(e.link == []) && !Mk.isLink e.kind) || (!(e.data == []) && !(e.kind == 0))) from rfl)
  have Q5 := Lib.hid (show rq5 e = (!(writeZ e.major 8).isSome || !(writeZ e.minor 8).isSome || (!Mk.isDev e.kind && (!(e.major == 0) || !(e.minor == 0)))) from rfl)
  have Q6 := Lib.hid (show rq6 e = (!((readF e.attrs).1 == 0) || !(Un.attrsF (readF e.attrs).2 == e.attrs)) from rfl)
  have QK := Lib.hid (show Mk.isLink e.kind = (e.kind == 2 || e.kind == 3) ∧ Mk.isDev e.kind = (e.kind == 4 || e.kind == 5) from ⟨rfl, rfl⟩)
  have H1 := Lib.hid (fun W => mk_rtext W e.path hp)
  have H2 := Lib.hid (fun W => mk_rtext W e.link hl)
  have H3 := Lib.hid (fun W => mk_rparse W e.attrs ha)
  have H4 := Lib.hid (fun W => rwrite_is W e.major 8 _ rfl)
  have H5 := Lib.hid (fun W => rwrite_is W e.minor 8 _ rfl)
  have H6 := Lib.hid (fun W => mk_rfar W e.uid)
  have H7 := Lib.hid (fun W => mk_rfar W e.gid)
  have H8 := Lib.hid (fun W => mk_rfar W e.mtime)
  have H9 : Hid (∀ W A c, PairsAt W A (readF e.attrs).2.length c (readF e.attrs).2 → Calls Tryz.prog 29 #[.slice A (readF e.attrs).2.length c] W fun x w' => x = .returned (.string (sb (Un.attrsF (readF e.attrs).2))) ∧ Hid (Below W.heap.size W w')) :=
    Lib.hid (fun W A c h => un_rattrs W A _ c _ h (read_few e.attrs ha).1 (read_few e.attrs ha).2)
  have HQP := Lib.hid (str_empty e.path)
  have HQL := Lib.hid (str_empty e.link)
  have HQD := Lib.hid (str_empty e.data)
  have HSA := Lib.hid (str_eq (Un.attrsF (readF e.attrs).2) e.attrs)
  have HNI := Lib.hid (And.intro (info_node e) (nodeL_all e))
  have HN0 := Lib.hid (show (nodeL e)[0]? = some (.int .i64 e.kind) ∧ (nodeL e)[1]? = some (.int .i64 e.mode) ∧ (nodeL e)[2]? = some (.int .i64 e.uid) ∧ (nodeL e)[3]? = some (.int .i64 e.gid) ∧ (nodeL e)[4]? = some (.int .i64 e.mtime) ∧ (nodeL e)[5]? = some (.string (sb e.link)) ∧ (nodeL e)[6]? = some (.string (sb e.data)) ∧ (nodeL e)[7]? = some (.int .i64 e.major) ∧ (nodeL e)[8]? = some (.int .i64 e.minor) ∧ (nodeL e)[9]? = some (.string (sb e.attrs)) ∧ (nodeL e).length = 10 from ⟨rfl, rfl, rfl, rfl, rfl, rfl, rfl, rfl, rfl, rfl, rfl⟩)
  have HD0 := Lib.hid (show (entL e)[0]? = some (.string (sb e.path)) ∧ (∀ j v, (nodeL e)[j]? = some v → (entL e)[1 + j]? = some v) from ⟨rfl, fun j v h => by rw [Nat.add_comm]; exact h⟩)
  clear hp hl ha
  generalize Mk.rightF e = r at *
  generalize rq1 e = q1 at *
  generalize rq2 e = q2 at *
  generalize rq3 e = q3 at *
  generalize rq4 e = q4 at *
  generalize rq5 e = q5 at *
  generalize rq6 e = q6 at *
  generalize Mk.isLink e.kind = bk at *
  generalize Mk.isDev e.kind = bd at *
  generalize Un.textOk e.path = b0 at *
  generalize Un.textOk e.link = bl at *
  generalize Mk.far e.uid = f1 at *
  generalize Mk.far e.gid = f2 at *
  generalize Mk.far e.mtime = f3 at *
  generalize writeZ e.major 8 = o1 at *
  generalize writeZ e.minor 8 = o2 at *
  generalize e.attrs.length = al at *
  generalize (readF e.attrs).1 = pk at *
  generalize (readF e.attrs).2 = L at *
  generalize (Un.attrsF L == e.attrs) = za at *
  generalize sb (Un.attrsF L) = SL at *
  generalize sb e.attrs = SA at *
  generalize sb e.path = SP at *
  generalize sb e.link = SK at *
  generalize sb e.data = SD at *
  generalize e.kind = ki at *
  generalize e.mode = mo at *
  generalize e.uid = n1 at *
  generalize e.gid = n2 at *
  generalize e.mtime = n3 at *
  generalize e.major = ma at *
  generalize e.minor = mi at *
  generalize nodeL e = N at *
  generalize entL e = D at *
  go_enter Tryz.func11, Tryz.ntmps11
  go_upto_region 1 with fail
  have R1 : Hid (Row (w.alloc (.cells D.toArray 30)) w.heap.size 30 D) := Lib.hid (Row.new _ _ _)
  have K1 : Hid (Below w.heap.size w (w.alloc (.cells D.toArray 30))) := Lib.hid ((Below.refl _ _).alloc (Nat.le_refl _) _)
  generalize w.alloc _ = w1 at R1 K1 ⊢
  have HRN := Lib.hid (R1.out.range 1 N (fun j v h => HD0.out.2 j v h))
  go_upto_region 2 with (first
    | ((with_reducible refine load_all ?_ 28 (.tmp 14) ?_ w.heap.size 1 N N.toArray ?_ _ ?_ Tryz.underlying28 ?_ ?_ ?_ ?_); rfl; rfl; go_must (rfl; exact HRN.out; rfl; exact HNI.out.1; rfl))
    | ((with_reducible refine store_all ?_ 28 (.tmp 3) (.tmp 15) ?_ w1.heap.size N ?_ ?_ nodeZ ?_ ?_ ?_ ?_ ?_); rfl; rfl; go_must (rfl; rfl; (rw [HN0.out.2.2.2.2.2.2.2.2.2.2]; rfl); exact Row.at_ _ _ _ rfl rfl; exact HNI.out.1; exact HNI.out.2; intro w2 R2 M2 E2)))
  have K2 := Lib.hid (K1.out.trans ((kept_stored M2.out).below K1.out.size (fun _ _ h => h)))
  have R2e := Lib.hid ((kept_stored M2.out).row R1.out (fun h => h))
  clear M2 E2 R1 K1 HRN
  generalize w1.heap.size = g at R2 ⊢
  have cp := R2e.out.cell HD0.out.1
  have c5 := R2.out.cell HN0.out.2.2.2.2.2.1
  have c9 := R2.out.cell HN0.out.2.2.2.2.2.2.2.2.2.1
  go_upto_region 3 with (go_at_call 25; go_must (refine (H1.out _).mono ?_; rintro x wz ⟨rfl, rfl⟩))
  go_upto_region 4 with (go_at_call 25; go_must (refine (H2.out _).mono ?_; rintro x wz ⟨rfl, rfl⟩))
  obtain ⟨cn, wn, hcv, hpp⟩ := H3.out w2
  have HPP := Lib.hid hpp
  clear hpp
  go_upto_region 5 with (go_at_call 26; go_must (refine HPP.out.mono ?_; rintro x w3 ⟨A3, cX, rfl, O3, P3, T3⟩))
  have R3 := Lib.hid (R2.out.below T3.out R2.out.lt)
  have R3e := Lib.hid (R2e.out.below T3.out R2e.out.lt)
  have K3 := Lib.hid (K2.out.trans (T3.out.mono K2.out.size))
  clear hcv HPP c5 c9 cp R2 R2e T3 H1 H2 H3 K2 O3
  have c7 := R3.out.cell HN0.out.2.2.2.2.2.2.2.1
  go_upto_region 6 with (go_at_call 27; go_must (refine (H4.out _).mono ?_; rintro x w4 ⟨⟨A4, c4, rfl, -, -, -⟩, T4⟩))
  have R4 := Lib.hid (R3.out.below T4.out R3.out.lt)
  have R4e := Lib.hid (R3e.out.below T4.out R3e.out.lt)
  have K4 := Lib.hid (K3.out.trans (T4.out.mono K3.out.size))
  have P4 := Lib.hid (P3.out.below T4.out)
  clear c7 R3 R3e T4 H4 K3 P3
  have c8 := R4.out.cell HN0.out.2.2.2.2.2.2.2.2.1
  go_upto_region 7 with (go_at_call 27; go_must (refine (H5.out _).mono ?_; rintro x w5 ⟨⟨A5, c5, rfl, -, -, -⟩, T5⟩))
  have R5 := Lib.hid (R4.out.below T5.out R4.out.lt)
  have R5e := Lib.hid (R4e.out.below T5.out R4e.out.lt)
  have K5 := Lib.hid (K4.out.trans (T5.out.mono K4.out.size))
  have P5 := Lib.hid (P4.out.below T5.out)
  clear c8 R4 R4e T5 H5 K4 P4
  generalize o1.isSome = m1 at *
  generalize o2.isSome = m2 at *
  have cp := R5e.out.cell HD0.out.1
  have c0 := R5.out.cell HN0.out.1
  have c1 := R5.out.cell HN0.out.2.1
  have c2 := R5.out.cell HN0.out.2.2.1
  have c3 := R5.out.cell HN0.out.2.2.2.1
  have c4 := R5.out.cell HN0.out.2.2.2.2.1
  have c5 := R5.out.cell HN0.out.2.2.2.2.2.1
  have c6 := R5.out.cell HN0.out.2.2.2.2.2.2.1
  have c7 := R5.out.cell HN0.out.2.2.2.2.2.2.2.1
  have c8 := R5.out.cell HN0.out.2.2.2.2.2.2.2.2.1
  have c9 := R5.out.cell HN0.out.2.2.2.2.2.2.2.2.2.1
  go_upto_region 7 with fail
  go_cut [12] from 41 to 48 (fun x wx => x = .bool bk ∧ w5 = wx)
  case first =>
    by_cases g2 : ki = 2
    · have hx : bk = true := by rw [QK.out.1, g2]; rfl
      subst g2
      go_wp2_with fail
      go_meet
      case rel => exact ⟨congrArg Value.bool (hx).symm, rfl⟩
    by_cases g3 : ki = 3
    · have hx : bk = true := by rw [QK.out.1, g3]; rfl
      subst g3
      go_wp2_with fail
      go_meet
      case rel => exact ⟨congrArg Value.bool (hx).symm, rfl⟩
    have e1 : (ki == 2) = false := beq_eq_false_iff_ne.2 g2
    have e2 : (ki == 3) = false := beq_eq_false_iff_ne.2 g3
    have hx : bk = false := by rw [QK.out.1, e1, e2]; rfl
    go_wp2_with fail
    go_meet
    case rel => exact ⟨congrArg Value.bool (hx).symm, rfl⟩
  case rest =>
  obtain ⟨rfl, rfl⟩ := hcut
  go_upto_region 8 with fail
  go_cut [13] from 49 to 56 (fun x wx => x = .bool bd ∧ w5 = wx)
  case first =>
    by_cases g4 : ki = 4
    · have hx : bd = true := by rw [QK.out.2, g4]; rfl
      subst g4
      go_wp2_with fail
      go_meet
      case rel => exact ⟨congrArg Value.bool (hx).symm, rfl⟩
    by_cases g5 : ki = 5
    · have hx : bd = true := by rw [QK.out.2, g5]; rfl
      subst g5
      go_wp2_with fail
      go_meet
      case rel => exact ⟨congrArg Value.bool (hx).symm, rfl⟩
    have e1 : (ki == 4) = false := beq_eq_false_iff_ne.2 g4
    have e2 : (ki == 5) = false := beq_eq_false_iff_ne.2 g5
    have hx : bd = false := by rw [QK.out.2, e1, e2]; rfl
    go_wp2_with fail
    go_meet
    case rel => exact ⟨congrArg Value.bool (hx).symm, rfl⟩
  case rest =>
  obtain ⟨rfl, rfl⟩ := hcut
  go_upto_region 9 with fail
  go_cut [57] from 58 to 64 (fun x wx => x = .bool q1 ∧ w5 = wx)
  case first =>
    by_cases h0 : e.path = []
    · have hx : q1 = true := by rw [Q1.out, h0]; rfl
      have z0 := HQP.out.1 h0
      clear h0
      go_wp2_with fail
      go_meet
      case rel => exact ⟨congrArg Value.bool (hx).symm, rfl⟩
    obtain ⟨z0, z1⟩ := HQP.out.2 h0
    have hx : q1 = !b0 := by rw [Q1.out, show (e.path == []) = false from beq_eq_false_iff_ne.2 h0, Bool.false_or]
    clear h0
    go_wp2_with fail
    go_meet
    case rel => exact ⟨congrArg Value.bool (hx).symm, rfl⟩
  case rest =>
  obtain ⟨rfl, rfl⟩ := hcut
  cases q1 with
  | true =>
    have HRR := Lib.hid (show r = 9 by rw [HR.out, if_pos rfl])
    go_wp2_with fail
    go_ret
    exact ⟨by rw [HRR.out]; rfl, K5⟩
  | false =>
  go_upto_region 11 with fail
  go_cut [65] from 66 to 83 (fun x wx => x = .bool q2 ∧ w5 = wx)
  case first =>
    by_cases g1 : ki < 0
    · have hx : q2 = true := by rw [Q2.out, decide_eq_true g1]; rfl
      go_wp2_with fail
      go_meet
      case rel => exact ⟨congrArg Value.bool (hx).symm, rfl⟩
    by_cases g2 : 6 < ki
    · have g2' : ki > 6 := g2
      have hx : q2 = true := by rw [Q2.out, decide_eq_true g2]; simp
      go_wp2_with fail
      go_meet
      case rel => exact ⟨congrArg Value.bool (hx).symm, rfl⟩
    have g2' : ¬ ki > 6 := g2
    by_cases g3 : mo < 0
    · have hx : q2 = true := by rw [Q2.out, decide_eq_true g3]; simp
      go_wp2_with fail
      go_meet
      case rel => exact ⟨congrArg Value.bool (hx).symm, rfl⟩
    by_cases g4 : 4095 < mo
    · have g4' : mo > 4095 := g4
      have hx : q2 = true := by rw [Q2.out, decide_eq_true g4]; simp
      go_wp2_with fail
      go_meet
      case rel => exact ⟨congrArg Value.bool (hx).symm, rfl⟩
    have g4' : ¬ mo > 4095 := g4
    have hx : q2 = false := by rw [Q2.out, decide_eq_false g1, decide_eq_false g2, decide_eq_false g3, decide_eq_false g4]; rfl
    go_wp2_with fail
    go_meet
    case rel => exact ⟨congrArg Value.bool (hx).symm, rfl⟩
  case rest =>
  obtain ⟨rfl, rfl⟩ := hcut
  cases q2 with
  | true =>
    have HRR := Lib.hid (show r = 1 by rw [HR.out, if_neg (by decide), if_pos rfl])
    go_wp2_with fail
    go_ret
    exact ⟨by rw [HRR.out]; rfl, K5⟩
  | false =>
  go_upto_region 13 with fail
  go_cut [84] from 85 to 97 (fun x wx => x = .bool q3 ∧ w5 = wx)
  case first =>
    cases f1 with
    | true =>
      have hx : q3 = true := by rw [Q3.out]; rfl
      go_wp2_with (go_at_call 28; go_must (first | (with_reducible refine (H6.out _).mono ?_; rintro x wz ⟨rfl, rfl⟩) | (with_reducible refine (H7.out _).mono ?_; rintro x wz ⟨rfl, rfl⟩) | (with_reducible refine (H8.out _).mono ?_; rintro x wz ⟨rfl, rfl⟩)))
      go_meet
      case rel => exact ⟨congrArg Value.bool (hx).symm, rfl⟩
    | false =>
    cases f2 with
    | true =>
      have hx : q3 = true := by rw [Q3.out]; rfl
      go_wp2_with (go_at_call 28; go_must (first | (with_reducible refine (H6.out _).mono ?_; rintro x wz ⟨rfl, rfl⟩) | (with_reducible refine (H7.out _).mono ?_; rintro x wz ⟨rfl, rfl⟩) | (with_reducible refine (H8.out _).mono ?_; rintro x wz ⟨rfl, rfl⟩)))
      go_meet
      case rel => exact ⟨congrArg Value.bool (hx).symm, rfl⟩
    | false =>
    have hx : q3 = f3 := by rw [Q3.out]; rfl
    go_wp2_with (go_at_call 28; go_must (first | (with_reducible refine (H6.out _).mono ?_; rintro x wz ⟨rfl, rfl⟩) | (with_reducible refine (H7.out _).mono ?_; rintro x wz ⟨rfl, rfl⟩) | (with_reducible refine (H8.out _).mono ?_; rintro x wz ⟨rfl, rfl⟩)))
    go_meet
    case rel => exact ⟨congrArg Value.bool (hx).symm, rfl⟩
  case rest =>
  obtain ⟨rfl, rfl⟩ := hcut
  cases q3 with
  | true =>
    have HRR := Lib.hid (show r = 1 by rw [HR.out, if_neg (by decide), if_neg (by decide), if_pos rfl])
    go_wp2_with fail
    go_ret
    exact ⟨by rw [HRR.out]; rfl, K5⟩
  | false =>
  go_upto_region 15 with fail
  go_cut [98] from 99 to 119 (fun x wx => x = .bool q4 ∧ w5 = wx)
  case first =>
    cases bl with
    | false =>
      have hx : q4 = true := by rw [Q4.out]; rfl
      go_wp2_with fail
      go_meet
      case rel => exact ⟨congrArg Value.bool (hx).symm, rfl⟩
    | true =>
    by_cases h1 : e.link = []
    · have hy : q4 = (!(e.data == []) && !(ki == 0)) := by rw [Q4.out, h1]; rfl
      have x0 := HQL.out.1 h1
      clear h1
      by_cases h2 : e.data = []
      · have hx : q4 = false := by rw [hy, h2]; rfl
        have y0 := HQD.out.1 h2
        clear h2
        go_wp2_with fail
        go_meet
        case rel => exact ⟨congrArg Value.bool (hx).symm, rfl⟩
      obtain ⟨y0, y1⟩ := HQD.out.2 h2
      have hy2 : q4 = !(ki == 0) := by rw [hy, show (e.data == []) = false from beq_eq_false_iff_ne.2 h2]; rfl
      clear h2 hy
      by_cases h3 : ki = 0
      · have hx : q4 = false := by rw [hy2, h3]; rfl
        subst h3
        go_wp2_with fail
        go_meet
        case rel => exact ⟨congrArg Value.bool (hx).symm, rfl⟩
      have e3 : (ki != 0) = true := bne_iff_ne.2 h3
      have hx : q4 = true := by rw [hy2, show (ki == 0) = false from beq_eq_false_iff_ne.2 h3]; rfl
      go_wp2_with fail
      go_meet
      case rel => exact ⟨congrArg Value.bool (hx).symm, rfl⟩
    obtain ⟨x0, x1⟩ := HQL.out.2 h1
    have hz : q4 = (!bk || (!(e.data == []) && !(ki == 0))) := by rw [Q4.out, show (e.link == []) = false from beq_eq_false_iff_ne.2 h1]; rfl
    clear h1
    cases bk with
    | false =>
      have hx : q4 = true := by rw [hz]; rfl
      go_wp2_with fail
      go_meet
      case rel => exact ⟨congrArg Value.bool (hx).symm, rfl⟩
    | true =>
    have hy : q4 = (!(e.data == []) && !(ki == 0)) := by rw [hz]; rfl
    clear hz
    by_cases h2 : e.data = []
    · have hx : q4 = false := by rw [hy, h2]; rfl
      have y0 := HQD.out.1 h2
      clear h2
      go_wp2_with fail
      go_meet
      case rel => exact ⟨congrArg Value.bool (hx).symm, rfl⟩
    obtain ⟨y0, y1⟩ := HQD.out.2 h2
    have hy2 : q4 = !(ki == 0) := by rw [hy, show (e.data == []) = false from beq_eq_false_iff_ne.2 h2]; rfl
    clear h2 hy
    by_cases h3 : ki = 0
    · have hx : q4 = false := by rw [hy2, h3]; rfl
      subst h3
      go_wp2_with fail
      go_meet
      case rel => exact ⟨congrArg Value.bool (hx).symm, rfl⟩
    have e3 : (ki != 0) = true := bne_iff_ne.2 h3
    have hx : q4 = true := by rw [hy2, show (ki == 0) = false from beq_eq_false_iff_ne.2 h3]; rfl
    go_wp2_with fail
    go_meet
    case rel => exact ⟨congrArg Value.bool (hx).symm, rfl⟩
  case rest =>
  obtain ⟨rfl, rfl⟩ := hcut
  cases q4 with
  | true =>
    have HRR := Lib.hid (show r = 1 by rw [HR.out, if_neg (by decide), if_neg (by decide), if_neg (by decide), if_pos rfl])
    go_wp2_with fail
    go_ret
    exact ⟨by rw [HRR.out]; rfl, K5⟩
  | false =>
  go_upto_region 17 with fail
  go_cut [120] from 121 to 140 (fun x wx => x = .bool q5 ∧ w5 = wx)
  case first =>
    cases m1 with
    | false =>
      have hx : q5 = true := by rw [Q5.out]; rfl
      go_wp2_with fail
      go_meet
      case rel => exact ⟨congrArg Value.bool (hx).symm, rfl⟩
    | true =>
    cases m2 with
    | false =>
      have hx : q5 = true := by rw [Q5.out]; rfl
      go_wp2_with fail
      go_meet
      case rel => exact ⟨congrArg Value.bool (hx).symm, rfl⟩
    | true =>
    cases bd with
    | true =>
      have hx : q5 = false := by rw [Q5.out]; rfl
      go_wp2_with fail
      go_meet
      case rel => exact ⟨congrArg Value.bool (hx).symm, rfl⟩
    | false =>
    have hy : q5 = (!(ma == 0) || !(mi == 0)) := by rw [Q5.out]; rfl
    by_cases g1 : ma = 0
    · subst g1
      by_cases g2 : mi = 0
      · subst g2
        have hx : q5 = false := by rw [hy]; rfl
        go_wp2_with fail
        go_meet
        case rel => exact ⟨congrArg Value.bool (hx).symm, rfl⟩
      have e2 : (mi != 0) = true := bne_iff_ne.2 g2
      have hx : q5 = true := by rw [hy, show (mi == 0) = false from beq_eq_false_iff_ne.2 g2]; rfl
      go_wp2_with fail
      go_meet
      case rel => exact ⟨congrArg Value.bool (hx).symm, rfl⟩
    have e1 : (ma != 0) = true := bne_iff_ne.2 g1
    have hx : q5 = true := by rw [hy, show (ma == 0) = false from beq_eq_false_iff_ne.2 g1]; rfl
    go_wp2_with fail
    go_meet
    case rel => exact ⟨congrArg Value.bool (hx).symm, rfl⟩
  case rest =>
  obtain ⟨rfl, rfl⟩ := hcut
  cases q5 with
  | true =>
    have HRR := Lib.hid (show r = 1 by rw [HR.out, if_neg (by decide), if_neg (by decide), if_neg (by decide), if_neg (by decide), if_pos rfl])
    go_wp2_with fail
    go_ret
    exact ⟨by rw [HRR.out]; rfl, K5⟩
  | false =>
  have HC9 := Lib.hid (show ∀ v, Below w5.heap.size w5 v → v.cell? ⟨g, 9, none⟩ = some (.string SA) from fun v hv => (kept_below hv).cell c9 (fun h => h))
  have H9b := Lib.hid (fun W hb => H9.out W A3 cX (P5.out.below hb))
  by_cases hk : pk = 0
  rotate_left
  · have HRR := Lib.hid (show r = 1 by rw [HR.out, if_neg (by decide), if_neg (by decide), if_neg (by decide), if_neg (by decide), if_neg (by decide), if_pos (by rw [Q6.out, show (pk == 0) = false from beq_eq_false_iff_ne.2 hk]; rfl)])
    have hkb : ((pk : Int) != 0) = true := by rw [bne_iff_ne]; omega
    go_upto_region 19 with fail
    have HB : Hid (Below w5.heap.size w5 w5.drew) := Lib.hid (below_drewN (Below.refl _ _) 1)
    refine wp_region_held (S := fun v => Below w5.heap.size w5 v) (by kernel_rfl) ?_
    change wpAnyH _ _ _ _ _ _ _ _ (World.drew _)
    generalize w5.drew = w6 at HB ⊢
    refine wpAnyH_take (i := 0) (v := ?_) rfl (by kernel_rfl) (by kernel_rfl) (by kernel_rfl) (fun _ _ _ h => h) (Or.inl ⟨by rfl, ?_⟩) HB.out ?_
    rotate_left
    · (intro v hv; go_simp <;> with_reducible rfl)
    simp only [List.getElem_toArray, List.getElem_cons_zero, Act.put, List.setIfInBounds_toArray, List.set_cons_zero, List.set_cons_succ]
    refine wpAnyH_take (i := 1) (v := ?_) rfl (by kernel_rfl) (by kernel_rfl) (by kernel_rfl) (fun _ _ _ h => h) (Or.inl ⟨by rfl, ?_⟩) HB.out ?_
    rotate_left
    · (intro v hv; go_simp <;> with_reducible rfl)
    simp only [List.getElem_toArray, List.getElem_cons_succ, List.getElem_cons_zero, Act.put, List.setIfInBounds_toArray, List.set_cons_zero, List.set_cons_succ]
    refine wpAnyH_take (i := 2) (v := ?_) rfl (by kernel_rfl) (by kernel_rfl) (by kernel_rfl) (fun _ _ _ h => h) (Or.inl ⟨by rfl, ?_⟩) HB.out ?_
    rotate_left
    · (intro v hv; go_simp <;> with_reducible rfl)
    simp only [List.getElem_toArray, List.getElem_cons_succ, List.getElem_cons_zero, Act.put, List.setIfInBounds_toArray, List.set_cons_zero, List.set_cons_succ]
    refine wpAnyH_take (i := 3) (v := undef) rfl (by kernel_rfl) (by kernel_rfl) (by kernel_rfl) (fun _ _ _ h => h) (Or.inr ⟨by rfl, by rfl⟩) HB.out ?_
    simp only [List.getElem_toArray, List.getElem_cons_succ, List.getElem_cons_zero, Act.put, List.setIfInBounds_toArray, List.set_cons_zero, List.set_cons_succ]
    refine wpAnyH_take (i := 4) (v := undef) rfl (by kernel_rfl) (by kernel_rfl) (by kernel_rfl) (fun _ _ _ h => h) (Or.inr ⟨by rfl, by rfl⟩) HB.out ?_
    simp only [List.getElem_toArray, List.getElem_cons_succ, List.getElem_cons_zero, Act.put, List.setIfInBounds_toArray, List.set_cons_zero, List.set_cons_succ]
    refine wpAnyH_take (i := 5) (v := undef) rfl (by kernel_rfl) (by kernel_rfl) (by kernel_rfl) (fun _ _ _ h => h) (Or.inr ⟨by rfl, by rfl⟩) HB.out ?_
    simp only [List.getElem_toArray, List.getElem_cons_succ, List.getElem_cons_zero, Act.put, List.setIfInBounds_toArray, List.set_cons_zero, List.set_cons_succ]
    refine wpAnyH_take (i := 6) (v := undef) rfl (by kernel_rfl) (by kernel_rfl) (by kernel_rfl) (fun _ _ _ h => h) (Or.inr ⟨by rfl, by rfl⟩) HB.out ?_
    simp only [List.getElem_toArray, List.getElem_cons_succ, List.getElem_cons_zero, Act.put, List.setIfInBounds_toArray, List.set_cons_zero, List.set_cons_succ]
    refine wpAnyH_take (i := 7) (v := undef) rfl (by kernel_rfl) (by kernel_rfl) (by kernel_rfl) (fun _ _ _ h => h) (Or.inr ⟨by rfl, by rfl⟩) HB.out ?_
    simp only [List.getElem_toArray, List.getElem_cons_succ, List.getElem_cons_zero, Act.put, List.setIfInBounds_toArray, List.set_cons_zero, List.set_cons_succ]
    refine wpAnyH_take (i := 8) (v := ?_) rfl (by kernel_rfl) (by kernel_rfl) (by kernel_rfl) (fun _ _ _ h => h) (Or.inl ⟨by rfl, ?_⟩) HB.out ?_
    rotate_left
    · (intro v hv; go_simp <;> with_reducible rfl)
    simp only [List.getElem_toArray, List.getElem_cons_succ, List.getElem_cons_zero, Act.put, List.setIfInBounds_toArray, List.set_cons_zero, List.set_cons_succ]
    refine wpAnyH_take (i := 9) (v := ?_) rfl (by kernel_rfl) (by kernel_rfl) (by kernel_rfl) (fun _ _ _ h => h) (Or.inl ⟨by rfl, ?_⟩) HB.out ?_
    rotate_left
    · (intro v hv; go_simp <;> with_reducible rfl)
    simp only [List.getElem_toArray, List.getElem_cons_succ, List.getElem_cons_zero, Act.put, List.setIfInBounds_toArray, List.set_cons_zero, List.set_cons_succ]
    refine wpAnyH_done (by kernel_rfl) ?_ _
    have K6 := Lib.hid (K5.out.trans (HB.out.mono K5.out.size))
    go_wp2_with fail
    go_ret
    exact ⟨by rw [HRR.out]; rfl, K6⟩
  subst hk
  have Q6b := Lib.hid (show q6 = !za by rw [Q6.out]; rfl)
  have hq := HSA.out
  cases za with
  | true =>
    have HRR := Lib.hid (show r = 0 by rw [HR.out, if_neg (by decide), if_neg (by decide), if_neg (by decide), if_neg (by decide), if_neg (by decide), if_neg (by rw [Q6b.out]; decide)])
    go_upto_region 19 with fail
    have HB : Hid (Below w5.heap.size w5 w5.drew) := Lib.hid (below_drewN (Below.refl _ _) 1)
    refine wp_region_held (S := fun v => Below w5.heap.size w5 v) (by kernel_rfl) ?_
    change wpAnyH _ _ _ _ _ _ _ _ (World.drew _)
    generalize w5.drew = w6 at HB ⊢
    refine wpAnyH_take (i := 0) (v := ?_) rfl (by kernel_rfl) (by kernel_rfl) (by kernel_rfl) (fun _ _ _ h => h) (Or.inl ⟨by rfl, ?_⟩) HB.out ?_
    rotate_left
    · (intro v hv; go_simp <;> with_reducible rfl)
    simp only [List.getElem_toArray, List.getElem_cons_zero, Act.put, List.setIfInBounds_toArray, List.set_cons_zero, List.set_cons_succ]
    refine wpAnyH_take (i := 1) (v := ?_) rfl (by kernel_rfl) (by kernel_rfl) (by kernel_rfl) (fun _ _ _ h => h) (Or.inl ⟨by rfl, ?_⟩) HB.out ?_
    rotate_left
    · (intro v hv; go_simp <;> with_reducible rfl)
    simp only [List.getElem_toArray, List.getElem_cons_succ, List.getElem_cons_zero, Act.put, List.setIfInBounds_toArray, List.set_cons_zero, List.set_cons_succ]
    refine wpAnyH_take (i := 2) (v := ?_) rfl (by kernel_rfl) (by kernel_rfl) (by kernel_rfl) (fun _ _ _ h => h) (Or.inl ⟨by rfl, ?_⟩) HB.out ?_
    rotate_left
    · (intro v hv; go_simp <;> with_reducible rfl)
    simp only [List.getElem_toArray, List.getElem_cons_succ, List.getElem_cons_zero, Act.put, List.setIfInBounds_toArray, List.set_cons_zero, List.set_cons_succ]
    refine wpAnyH_take (i := 3) (v := ?_) rfl (by kernel_rfl) (by kernel_rfl) (by kernel_rfl) (fun _ _ _ h => h) (Or.inl ⟨by rfl, ?_⟩) HB.out ?_
    rotate_left
    · (intro v hv; go_simp <;> with_reducible rfl)
    simp only [List.getElem_toArray, List.getElem_cons_succ, List.getElem_cons_zero, Act.put, List.setIfInBounds_toArray, List.set_cons_zero, List.set_cons_succ]
    refine wpAnyH_take (i := 5) (v := ?_) rfl (by kernel_rfl) (by kernel_rfl) (by kernel_rfl) (fun _ _ _ h => h) (Or.inl ⟨by rfl, ?_⟩) HB.out ?_
    rotate_left
    · (intro v hv; go_simp <;> with_reducible rfl)
    simp only [List.getElem_toArray, List.getElem_cons_succ, List.getElem_cons_zero, Act.put, List.setIfInBounds_toArray, List.set_cons_zero, List.set_cons_succ]
    refine wpAnyH_take (i := 6) (v := ?_) rfl (by kernel_rfl) (by kernel_rfl) (by kernel_rfl) (fun _ _ _ h => h) (Or.inl ⟨by rfl, ?_⟩) HB.out ?_
    rotate_left
    · (intro v hv; have h9 := HC9.out v hv; go_simp <;> with_reducible rfl)
    simp only [List.getElem_toArray, List.getElem_cons_succ, List.getElem_cons_zero, Act.put, List.setIfInBounds_toArray, List.set_cons_zero, List.set_cons_succ]
    refine wpAnyH_ready (rs := [4]) (by kernel_rfl) (by simp) ?_
    refine AllReadyH.cons rfl (fun K hK => ?_) AllReadyH.nil
    go_simp
    refine (H9b.out w6 HB.out).mono ?_
    rintro x w7 ⟨rfl, T7⟩
    have HB7 := Lib.hid (HB.out.trans (T7.out.mono HB.out.size))
    clear HB
    have HB := HB7
    clear HB7
    simp only []
    refine hK _ _ HB.out (fun _ => ?_)
    clear hK K
    refine wpAnyH_take (i := 7) (v := ?_) rfl (by kernel_rfl) (by kernel_rfl) (by kernel_rfl) (fun _ _ _ h => h) (Or.inl ⟨by rfl, ?_⟩) HB.out ?_
    rotate_left
    · (intro v hv; go_simp <;> with_reducible rfl)
    simp only [List.getElem_toArray, List.getElem_cons_succ, List.getElem_cons_zero, Act.put, List.setIfInBounds_toArray, List.set_cons_zero, List.set_cons_succ]
    refine wpAnyH_take (i := 8) (v := ?_) rfl (by kernel_rfl) (by kernel_rfl) (by kernel_rfl) (fun _ _ _ h => h) (Or.inl ⟨by rfl, ?_⟩) HB.out ?_
    rotate_left
    · (intro v hv; go_simp <;> with_reducible rfl)
    simp only [List.getElem_toArray, List.getElem_cons_succ, List.getElem_cons_zero, Act.put, List.setIfInBounds_toArray, List.set_cons_zero, List.set_cons_succ]
    refine wpAnyH_take (i := 9) (v := ?_) rfl (by kernel_rfl) (by kernel_rfl) (by kernel_rfl) (fun _ _ _ h => h) (Or.inl ⟨by rfl, ?_⟩) HB.out ?_
    rotate_left
    · (intro v hv; go_simp <;> with_reducible rfl)
    simp only [List.getElem_toArray, List.getElem_cons_succ, List.getElem_cons_zero, Act.put, List.setIfInBounds_toArray, List.set_cons_zero, List.set_cons_succ]
    refine wpAnyH_done (by kernel_rfl) ?_ _
    have K6 := Lib.hid (K5.out.trans (HB.out.mono K5.out.size))
    go_wp2_with fail
    go_ret
    exact ⟨by rw [HRR.out]; rfl, K6⟩
  | false =>
  have HRR := Lib.hid (show r = 1 by rw [HR.out, if_neg (by decide), if_neg (by decide), if_neg (by decide), if_neg (by decide), if_neg (by decide), if_pos (by rw [Q6b.out]; rfl)])
  go_upto_region 19 with fail
  have HB : Hid (Below w5.heap.size w5 w5.drew) := Lib.hid (below_drewN (Below.refl _ _) 1)
  refine wp_region_held (S := fun v => Below w5.heap.size w5 v) (by kernel_rfl) ?_
  change wpAnyH _ _ _ _ _ _ _ _ (World.drew _)
  generalize w5.drew = w6 at HB ⊢
  refine wpAnyH_take (i := 0) (v := ?_) rfl (by kernel_rfl) (by kernel_rfl) (by kernel_rfl) (fun _ _ _ h => h) (Or.inl ⟨by rfl, ?_⟩) HB.out ?_
  rotate_left
  · (intro v hv; go_simp <;> with_reducible rfl)
  simp only [List.getElem_toArray, List.getElem_cons_zero, Act.put, List.setIfInBounds_toArray, List.set_cons_zero, List.set_cons_succ]
  refine wpAnyH_take (i := 1) (v := ?_) rfl (by kernel_rfl) (by kernel_rfl) (by kernel_rfl) (fun _ _ _ h => h) (Or.inl ⟨by rfl, ?_⟩) HB.out ?_
  rotate_left
  · (intro v hv; go_simp <;> with_reducible rfl)
  simp only [List.getElem_toArray, List.getElem_cons_succ, List.getElem_cons_zero, Act.put, List.setIfInBounds_toArray, List.set_cons_zero, List.set_cons_succ]
  refine wpAnyH_take (i := 2) (v := ?_) rfl (by kernel_rfl) (by kernel_rfl) (by kernel_rfl) (fun _ _ _ h => h) (Or.inl ⟨by rfl, ?_⟩) HB.out ?_
  rotate_left
  · (intro v hv; go_simp <;> with_reducible rfl)
  simp only [List.getElem_toArray, List.getElem_cons_succ, List.getElem_cons_zero, Act.put, List.setIfInBounds_toArray, List.set_cons_zero, List.set_cons_succ]
  refine wpAnyH_take (i := 3) (v := ?_) rfl (by kernel_rfl) (by kernel_rfl) (by kernel_rfl) (fun _ _ _ h => h) (Or.inl ⟨by rfl, ?_⟩) HB.out ?_
  rotate_left
  · (intro v hv; go_simp <;> with_reducible rfl)
  simp only [List.getElem_toArray, List.getElem_cons_succ, List.getElem_cons_zero, Act.put, List.setIfInBounds_toArray, List.set_cons_zero, List.set_cons_succ]
  refine wpAnyH_take (i := 5) (v := ?_) rfl (by kernel_rfl) (by kernel_rfl) (by kernel_rfl) (fun _ _ _ h => h) (Or.inl ⟨by rfl, ?_⟩) HB.out ?_
  rotate_left
  · (intro v hv; go_simp <;> with_reducible rfl)
  simp only [List.getElem_toArray, List.getElem_cons_succ, List.getElem_cons_zero, Act.put, List.setIfInBounds_toArray, List.set_cons_zero, List.set_cons_succ]
  refine wpAnyH_take (i := 6) (v := ?_) rfl (by kernel_rfl) (by kernel_rfl) (by kernel_rfl) (fun _ _ _ h => h) (Or.inl ⟨by rfl, ?_⟩) HB.out ?_
  rotate_left
  · (intro v hv; have h9 := HC9.out v hv; go_simp <;> with_reducible rfl)
  simp only [List.getElem_toArray, List.getElem_cons_succ, List.getElem_cons_zero, Act.put, List.setIfInBounds_toArray, List.set_cons_zero, List.set_cons_succ]
  refine wpAnyH_ready (rs := [4]) (by kernel_rfl) (by simp) ?_
  refine AllReadyH.cons rfl (fun K hK => ?_) AllReadyH.nil
  go_simp
  refine (H9b.out w6 HB.out).mono ?_
  rintro x w7 ⟨rfl, T7⟩
  have HB7 := Lib.hid (HB.out.trans (T7.out.mono HB.out.size))
  clear HB
  have HB := HB7
  clear HB7
  simp only []
  refine hK _ _ HB.out (fun _ => ?_)
  clear hK K
  refine wpAnyH_take (i := 7) (v := ?_) rfl (by kernel_rfl) (by kernel_rfl) (by kernel_rfl) (fun _ _ _ h => h) (Or.inl ⟨by rfl, ?_⟩) HB.out ?_
  rotate_left
  · (intro v hv; go_simp <;> with_reducible rfl)
  simp only [List.getElem_toArray, List.getElem_cons_succ, List.getElem_cons_zero, Act.put, List.setIfInBounds_toArray, List.set_cons_zero, List.set_cons_succ]
  refine wpAnyH_take (i := 8) (v := ?_) rfl (by kernel_rfl) (by kernel_rfl) (by kernel_rfl) (fun _ _ _ h => h) (Or.inl ⟨by rfl, ?_⟩) HB.out ?_
  rotate_left
  · (intro v hv; go_simp <;> with_reducible rfl)
  simp only [List.getElem_toArray, List.getElem_cons_succ, List.getElem_cons_zero, Act.put, List.setIfInBounds_toArray, List.set_cons_zero, List.set_cons_succ]
  refine wpAnyH_take (i := 9) (v := ?_) rfl (by kernel_rfl) (by kernel_rfl) (by kernel_rfl) (fun _ _ _ h => h) (Or.inl ⟨by rfl, ?_⟩) HB.out ?_
  rotate_left
  · (intro v hv; go_simp <;> with_reducible rfl)
  simp only [List.getElem_toArray, List.getElem_cons_succ, List.getElem_cons_zero, Act.put, List.setIfInBounds_toArray, List.set_cons_zero, List.set_cons_succ]
  refine wpAnyH_done (by kernel_rfl) ?_ _
  have K6 := Lib.hid (K5.out.trans (HB.out.mono K5.out.size))
  go_wp2_with fail
  go_ret
  exact ⟨by rw [HRR.out]; rfl, K6⟩
end Go.Proofs.YtpgaejalkbpbhaaGreatDoor
