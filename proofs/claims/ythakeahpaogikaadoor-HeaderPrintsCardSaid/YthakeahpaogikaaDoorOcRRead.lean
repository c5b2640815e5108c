/-
  The reference's Read.
-/
import Derived.Test.YthakeahpaogikaaDoorOcNum
import Derived.Deep.DeepCutAuto
import Derived.Deep.CutBlock
namespace Go.Proofs.YthakeahpaogikaaDoor
open Go.RowKit Sh Oc

theorem split_at (p : UInt8 → Bool) (l : List UInt8) (m : Nat) (h : (l.take m).all p = true) (h2 : ∀ x, l[m]? = some x → p x = false) : l.takeWhile p = l.take m ∧ l.dropWhile p = l.drop m := by
  induction m generalizing l with
  | zero =>
    cases l with
    | nil => exact ⟨rfl, rfl⟩
    | cons x l =>
      have hx := h2 x rfl
      constructor
      · rw [List.takeWhile_cons, if_neg (by rw [hx]; decide)]; rfl
      · rw [List.dropWhile_cons, if_neg (by rw [hx]; decide)]; rfl
  | succ m ih =>
    cases l with
    | nil => exact ⟨rfl, rfl⟩
    | cons x l =>
      rw [List.take_succ_cons, List.all_cons, Bool.and_eq_true] at h
      obtain ⟨i1, i2⟩ := ih l h.2 (fun y hy => h2 y (by rw [List.getElem?_cons_succ]; exact hy))
      constructor
      · rw [List.takeWhile_cons, if_pos h.1, i1]; rfl
      · rw [List.dropWhile_cons, if_pos h.1, i2]; rfl
theorem seg_snoc {bs : List UInt8} {j p : Nat} (hj : j ≤ p) (h : p < bs.length) : (bs.drop j).take (p + 1 - j) = (bs.drop j).take (p - j) ++ [bs[p]] := by
  rw [show p + 1 - j = (p - j) + 1 by omega, List.take_add_one, List.getElem?_drop, show j + (p - j) = p by omega, List.getElem?_eq_getElem h]
  rfl
theorem seg_val {bs : List UInt8} {j p : Nat} (B : Nat) (hj : j ≤ p) (h : p < bs.length) : val B ((bs.drop j).take (p + 1 - j)) = val B ((bs.drop j).take (p - j)) * B + bs[p].toNat % B := by rw [seg_snoc hj h, val_snoc]
theorem seg_all {bs : List UInt8} {j p : Nat} (q : UInt8 → Bool) (hj : j ≤ p) (h : p < bs.length) : ((bs.drop j).take (p + 1 - j)).all q = (((bs.drop j).take (p - j)).all q && q bs[p]) := by rw [seg_snoc hj h, List.all_append]; simp
theorem seg_val_le {bs : List UInt8} (B : Nat) (hB : 0 < B) (j p : Nat) : val B ((bs.drop j).take (p - j)) ≤ val B (bs.drop j) := by
  have := val_mono B hB ((bs.drop j).take (p - j)) ((bs.drop j).drop (p - j))
  rwa [List.take_append_drop] at this
theorem all_take' {bs : List UInt8} {j : Nat} (p : UInt8 → Bool) (h : j < bs.length) : (bs.take (j + 1)).all p = ((bs.take j).all p && p bs[j]) := by
  rw [take_snoc h, List.all_append]; simp
theorem oct_n8 (x : UInt8) : oct x = (decide (48 ≤ n8 x) && decide (n8 x ≤ 55)) := by unfold oct n8; congr 1 <;> (rw [decide_eq_decide]; omega)
theorem u8_eq {x : UInt8} {k : Nat} (hk : k < 256) : x = UInt8.ofNat k ↔ n8 x = (k : Int) := by
  constructor
  · rintro rfl; rw [n8, UInt8.toNat_ofNat']; omega
  · intro h; rw [n8] at h
    rw [show k = x.toNat by omega, UInt8.ofNat_toNat]
theorem blank_n8 (x : UInt8) : Oc.blank x = decide (n8 x = 32) := by
  unfold Oc.blank
  simp only [List.contains_cons, List.contains_nil, Bool.or_false]
  rw [Bool.eq_iff_iff, beq_iff_eq, decide_eq_true_eq]
  exact u8_eq (k := 32) (by decide)
theorem tail_n8 (x : UInt8) : tail x = (decide (n8 x = 0) || decide (n8 x = 32)) := by
  unfold tail
  simp only [List.contains_cons, List.contains_nil, Bool.or_false]
  rw [Bool.eq_iff_iff, Bool.or_eq_true, Bool.or_eq_true, beq_iff_eq, beq_iff_eq, decide_eq_true_eq, decide_eq_true_eq]
  exact or_congr (u8_eq (k := 0) (by decide)) (u8_eq (k := 32) (by decide))
/-- The reference's answer where the first byte is below 128. -/
theorem refF_low (bs : List UInt8) (f : UInt8) (hf : bs[0]? = some f) (h : f.toNat < 128) (j p : Nat) (hj : (bs.take j).all Oc.blank = true) (hj2 : ∀ x, bs[j]? = some x → Oc.blank x = false)
    (hjp : j ≤ p) (hp : ((bs.drop j).take (p - j)).all oct = true) (hp2 : ∀ x, bs[p]? = some x → oct x = false) :
    refF bs = if val 8 ((bs.drop j).take (p - j)) ≤ big ∧ (bs.drop p).all tail = true then some (val 8 ((bs.drop j).take (p - j))) else none := by
  cases bs with
  | nil => cases hf
  | cons x r =>
    cases hf
    obtain ⟨_, e1⟩ := split_at Oc.blank _ j hj hj2
    obtain ⟨e2, e3⟩ := split_at oct ((f :: r).drop j) (p - j) hp (fun y hy => hp2 y (by rw [List.getElem?_drop, show j + (p - j) = p by omega] at hy; exact hy))
    unfold refF
    simp only
    rw [if_neg (by omega), e1, e2, e3, List.drop_drop, show j + (p - j) = p by omega]
theorem refF_over (bs : List UInt8) (f : UInt8) (hf : bs[0]? = some f) (h : f.toNat < 128) (j p : Nat) (hj : (bs.take j).all Oc.blank = true) (hj2 : ∀ x, bs[j]? = some x → Oc.blank x = false)
    (hjp : j ≤ p) (hp : ((bs.drop j).take (p - j)).all oct = true) (hv : big < val 8 ((bs.drop j).take (p - j))) : refF bs = none := by
  cases bs with
  | nil => cases hf
  | cons x r =>
    cases hf
    obtain ⟨_, e1⟩ := split_at Oc.blank _ j hj hj2
    unfold refF
    simp only
    rw [if_neg (by omega), e1, if_neg]
    rintro ⟨h1, _⟩
    have e : ((f :: r).drop j).takeWhile oct = ((f :: r).drop j).take (p - j) ++ (((f :: r).drop j).drop (p - j)).takeWhile oct := by
      conv => lhs; rw [← List.take_append_drop (p - j) ((f :: r).drop j)]
      rw [List.takeWhile_append_of_pos (List.all_eq_true.1 hp)]
    rw [e] at h1
    have := val_mono 8 (by decide) (((f :: r).drop j).take (p - j)) ((((f :: r).drop j).drop (p - j)).takeWhile oct)
    omega
theorem refF_high (bs : List UInt8) (f : UInt8) (hf : bs[0]? = some f) (h : 128 ≤ f.toNat) : refF bs = if f.toNat = 128 then num 256 (bs.drop 1) else none := by
  cases bs with
  | nil => cases hf
  | cons x r =>
    cases hf
    unfold refF
    simp only
    rw [if_pos h]
    rfl
theorem quo_gt (v d B : Int) (hB : B = 8 ∨ B = 256) (h0 : 0 ≤ d) (h1 : d < 256) (hv : 0 ≤ v) : v > (4611686018427387904 - d) / B ↔ v * B + d > 4611686018427387904 := by
  rcases hB with rfl | rfl <;> omega
structure RrAt (bs : List UInt8) (j p v : Nat) : Prop where
  blank : (bs.take j).all Oc.blank = true
  stop : ∀ x, bs[j]? = some x → Oc.blank x = false
  le : j ≤ p
  octal : ((bs.drop j).take (p - j)).all oct = true
  val : Oc.val 8 ((bs.drop j).take (p - j)) = v

set_option maxRecDepth 100000 in
set_option maxHeartbeats 4000000 in
theorem rread_any (w : World) (A : Option Addr) (n c : Nat) (bs : List UInt8) (S : BytesAt w A n c bs) (hn : n ≤ 1099511627776) :
    Calls Tryd.prog 21 #[.slice A n c] w fun e w' => e = .returned (two (refF bs)) ∧ w' = w := by
  have HS := Lib.hid S
  have hlen := S.len
  have hcap := S.cap
  clear S
  by_cases hn0 : n = 0
  · subst hn0
    obtain rfl : bs = [] := List.eq_nil_of_length_eq_zero hlen
    go_enter Tryd.func21, Tryd.ntmps21
    go_wp2_with fail
    go_ret2
    exact ⟨rfl, rfl⟩
  obtain ⟨b, o, rfl, _, _⟩ := HS.out.at_ (by omega)
  have hcell := HS.out.cellAt (j := 0) (by omega)
  rw [Nat.add_zero] at hcell
  have hf0 : bs[0]? = some bs[0] := List.getElem?_eq_getElem _
  have hn0' : ¬ (n : Int) = 0 := by omega
  have hpos : (0 : Int) < (n : Int) := by omega
  have HD := Lib.hid (show n8 bs[0] = (bs[0].toNat : Int) from rfl)
  have hd0 := n8_nonneg bs[0]
  have hd1 := n8_lt bs[0]
  generalize n8 bs[0] = d at *
  by_cases h1 : d ≥ 128
  · have HR := Lib.hid (refF_high bs bs[0] hf0 (by have := HD.out; omega))
    go_enter Tryd.func21, Tryd.ntmps21
    go_wp2_with fail
    go_loopw [4, 5] (fun v i wr => ∃ p : Nat, 1 ≤ p ∧ p ≤ n ∧ i = .int .i64 p ∧ v = .int .i64 (val 256 ((bs.drop 1).take (p - 1)) : Nat) ∧ val 256 ((bs.drop 1).take (p - 1)) ≤ 4611686018427387904 ∧ wr = w) (fun _ i _ => n - (intOf i).toNat)
    case atStart => exact ⟨1, Nat.le_refl _, by omega, rfl, rfl, Nat.zero_le _, rfl⟩
    case round =>
      obtain ⟨p, hp1, hp, rfl, rfl, hv, rfl⟩ := hrel
      by_cases hlt : p < n
      · have hc := HS.out.cellAt (j := p) (by omega)
        have hb := n8_nonneg (bs[p])
        have hb' := n8_lt (bs[p])
        have HX := Lib.hid (seg_val (bs := bs) 256 hp1 (show p < bs.length by omega))
        have HL := Lib.hid (seg_val_le (bs := bs) 256 (by decide) 1 (p + 1))
        have HE := Lib.hid (show n8 bs[p] = (bs[p].toNat : Int) from rfl)
        have hm : bs[p].toNat % 256 = bs[p].toNat := Nat.mod_eq_of_lt (by have := HE.out; omega)
        have HM := Lib.hid hm
        clear hm
        generalize n8 bs[p] = x at *
        generalize val 256 ((bs.drop 1).take (p - 1)) = v at *
        have hlt' : (p : Int) < (n : Int) := by omega
        have hq := quo_gt v x 256 (.inr rfl) hb hb' (by omega)
        by_cases hg : (v : Int) > (4611686018427387904 - x) / 256
        · have hg2 := hq.1 hg
          have HN : Hid (refF bs = none) := by
            rw [HR.out]
            by_cases h128 : bs[0].toNat = 128
            · rw [if_pos h128]
              unfold num
              have := HL.out
              rw [HX.out, HM.out] at this
              have := HE.out
              rw [if_neg (by unfold big; omega)]
              exact Lib.hid rfl
            · rw [if_neg h128]; exact Lib.hid rfl
          clear hq hg2
          go_wp2_with fail
          go_ret2
          exact ⟨by rw [HN.out]; rfl, rfl⟩
        · have hg2 : ¬ ((v : Int) * 256 + x > 4611686018427387904) := fun h => hg (hq.2 h)
          clear hq
          go_wp2_with fail
          go_roundw
          case rel =>
            refine ⟨p + 1, by omega, by omega, by go_num, ?_, ?_, trivial⟩
            · rw [HX.out, HM.out]
              have := HE.out
              exact congrArg (Value.int IntKind.i64) (by omega)
            · rw [HX.out, HM.out]
              have := HE.out
              omega
          case measure => simp [intOf] <;> omega
      · obtain rfl : p = n := by omega
        have hge : (p : Int) ≤ (p : Int) := Int.le_refl _
        have HV := Lib.hid (show (bs.drop 1).take (p - 1) = bs.drop 1 from List.take_of_length_le (by rw [List.length_drop]; omega))
        by_cases h128 : d = 128
        · subst h128
          have HN : Hid (refF bs = some (val 256 ((bs.drop 1).take (p - 1)))) := by
            rw [HR.out, if_pos (by have := HD.out; omega), HV.out]
            rw [HV.out] at hv
            exact Lib.hid (num_some 256 (by unfold big; omega))
          generalize val 256 ((bs.drop 1).take (p - 1)) = v at *
          go_wp2_with fail
          go_ret2
          exact ⟨by rw [HN.out]; rfl, rfl⟩
        · have HN : Hid (refF bs = none) := by
            rw [HR.out, if_neg (by have := HD.out; omega)]; exact Lib.hid rfl
          generalize val 256 ((bs.drop 1).take (p - 1)) = v at *
          go_wp2_with fail
          go_ret2
          exact ⟨by rw [HN.out]; rfl, rfl⟩
  · have hlow : bs[0].toNat < 128 := by have := HD.out; omega
    have HF := Lib.hid (And.intro hf0 hlow)
    clear hf0 hlow
    go_enter Tryd.func21, Tryd.ntmps21
    go_upto_block 2 with fail
    go_cut [6] from 7 to 112 (fun i wx => ∃ j : Nat, j ≤ n ∧ i = .int .i64 j ∧ Hid (RrAt bs j j 0) ∧ wx = w)
    case first =>
      go_wp2_with fail
      go_loopw [6] (fun i wr => ∃ j : Nat, j ≤ n ∧ i = .int .i64 j ∧ Hid ((bs.take j).all Oc.blank = true) ∧ wr = w) (fun i _ => n - (intOf i).toNat)
      case atStart => exact ⟨0, Nat.zero_le _, rfl, Lib.hid rfl, rfl⟩
      case round =>
        obtain ⟨j, hj, rfl, ho, rfl⟩ := hrel
        by_cases hlt : j < n
        · have hc := HS.out.cellAt (j := j) (by omega)
          have hx : bs[j]? = some bs[j] := List.getElem?_eq_getElem _
          have hall := all_take' (bs := bs) (j := j) Oc.blank (by omega)
          rw [ho.out, Bool.true_and, blank_n8] at hall
          have hbl := blank_n8 bs[j]
          have HX := Lib.hid (And.intro hx (And.intro hall hbl))
          clear hx hall hbl
          generalize n8 bs[j] = d2 at *
          have hlt' : (j : Int) < (n : Int) := by omega
          by_cases h32 : d2 = 32
          · subst h32
            go_wp2_with fail
            go_roundw
            case rel => exact ⟨j + 1, by omega, by go_num, Lib.hid (by rw [HX.out.2.1]; rfl), trivial⟩
            case measure => simp [intOf] <;> omega
          · go_wp2_with fail
            go_meet
            case rel => exact ⟨j, hj, rfl, Lib.hid ⟨ho.out, fun x hx => by
              rw [HX.out.1] at hx
              cases hx
              rw [HX.out.2.2, decide_eq_false h32], Nat.le_refl _, by simp, by rw [Nat.sub_self]; rfl⟩, rfl⟩
        · have hge : ¬ (j : Int) < (n : Int) := by omega
          go_wp2_with fail
          go_meet
          case rel => exact ⟨j, hj, rfl, Lib.hid ⟨ho.out, fun x hx => by
              have := (List.getElem?_eq_some_iff.1 hx).1
              omega, Nat.le_refl _, by simp, by rw [Nat.sub_self]; rfl⟩, rfl⟩
    case rest =>
      obtain ⟨j, hj, rfl, HJ, rfl⟩ := hcut
      rename World => w
      go_upto_block 4 with fail
      go_cut [4, 6] from 7 to 112 (fun v i wx => ∃ p v0 : Nat, p ≤ n ∧ i = .int .i64 p ∧ v = .int .i64 v0 ∧ v0 ≤ 4611686018427387904 ∧ Hid (RrAt bs j p v0) ∧ Hid (∀ x, bs[p]? = some x → oct x = false) ∧ wx = w)
      case first =>
        go_wp2_with fail
        go_loopw [4, 6] (fun v i wr => ∃ p v0 : Nat, p ≤ n ∧ i = .int .i64 p ∧ v = .int .i64 v0 ∧ v0 ≤ 4611686018427387904 ∧ Hid (RrAt bs j p v0) ∧ wr = w) (fun _ i _ => n - (intOf i).toNat)
        case atStart => exact ⟨j, 0, hj, rfl, rfl, by omega, HJ, rfl⟩
        case round =>
          obtain ⟨p, v0, hp, rfl, rfl, hv, HP, rfl⟩ := hrel
          by_cases hlt : p < n
          · have hc := HS.out.cellAt (j := p) (by omega)
            have hb := n8_nonneg (bs[p])
            have hb' := n8_lt (bs[p])
            have hx : bs[p]? = some bs[p] := List.getElem?_eq_getElem _
            have hoc := oct_n8 bs[p]
            have hseg := seg_val (bs := bs) 8 HP.out.le (show p < bs.length by omega)
            have hsegA := seg_all (bs := bs) oct HP.out.le (show p < bs.length by omega)
            rw [HP.out.octal, Bool.true_and] at hsegA
            rw [HP.out.val] at hseg
            have hn8 : n8 bs[p] = (bs[p].toNat : Int) := rfl
            have HX := Lib.hid (And.intro hx (And.intro hoc (And.intro hseg (And.intro hsegA hn8))))
            clear hx hoc hseg hsegA hn8
            generalize n8 bs[p] = d2 at *
            have hlt' : (p : Int) < (n : Int) := by omega
            by_cases h48 : d2 ≥ 48
            · by_cases h55 : d2 ≤ 55
              · have hq := quo_gt v0 (d2 - 48) 8 (.inl rfl) (by omega) (by omega) (by omega)
                have hoct : oct bs[p] = true := by rw [HX.out.2.1, decide_eq_true h48, decide_eq_true h55]; rfl
                have hmod : ((bs[p].toNat % 8 : Nat) : Int) = d2 - 48 := by have := HX.out.2.2.2.2; omega
                have HO := Lib.hid (And.intro hoct hmod)
                clear hoct hmod
                by_cases hg : (v0 : Int) > (4611686018427387904 - (d2 - 48)) / 8
                · have hg2 := hq.1 hg
                  have HN : Hid (refF bs = none) := Lib.hid (refF_over bs bs[0] HF.out.1 HF.out.2 j (p + 1) HJ.out.blank HJ.out.stop (by have := HP.out.le; omega) (by rw [HX.out.2.2.2.1, HO.out.1]) (by rw [HX.out.2.2.1]; have := HO.out.2; unfold big; omega))
                  clear hq hg2
                  go_wp2_with fail
                  go_ret2
                  exact ⟨by rw [HN.out]; rfl, rfl⟩
                · have hg2 : ¬ ((v0 : Int) * 8 + (d2 - 48) > 4611686018427387904) := fun h => hg (hq.2 h)
                  clear hq
                  go_wp2_with fail
                  go_roundw
                  case rel =>
                    refine ⟨p + 1, v0 * 8 + bs[p].toNat % 8, by omega, by go_num, ?_, by have := HO.out.2; omega, Lib.hid ⟨HJ.out.blank, HJ.out.stop, by have := HP.out.le; omega, by rw [HX.out.2.2.2.1, HO.out.1], HX.out.2.2.1⟩, trivial⟩
                    have := HO.out.2
                    exact congrArg (Value.int IntKind.i64) (by omega)
                  case measure => simp [intOf] <;> omega
              · go_wp2_with fail
                go_meet
                case rel => exact ⟨p, v0, hp, rfl, rfl, hv, HP, Lib.hid (fun x hx => by
                  rw [HX.out.1] at hx
                  cases hx
                  rw [HX.out.2.1, decide_eq_false (show ¬ d2 ≤ 55 by omega), Bool.and_false]), rfl⟩
            · go_wp2_with fail
              go_meet
              case rel => exact ⟨p, v0, hp, rfl, rfl, hv, HP, Lib.hid (fun x hx => by
                rw [HX.out.1] at hx
                cases hx
                rw [HX.out.2.1, decide_eq_false (show ¬ 48 ≤ d2 by omega)]; rfl), rfl⟩
          · have hge : ¬ (p : Int) < (n : Int) := by omega
            go_wp2_with fail
            go_meet
            case rel => exact ⟨p, v0, hp, rfl, rfl, hv, HP, Lib.hid (fun x hx => by
              have := (List.getElem?_eq_some_iff.1 hx).1
              omega), rfl⟩
      case rest =>
        obtain ⟨p, v0, hp, rfl, rfl, hv, HP, HST, rfl⟩ := hcut
        rename World => w
        have HR := Lib.hid (refF_low bs bs[0] HF.out.1 HF.out.2 j p HJ.out.blank HJ.out.stop HP.out.le HP.out.octal HST.out)
        go_wp2_with fail
        go_loopw [6] (fun i wr => ∃ q : Nat, p ≤ q ∧ q ≤ n ∧ i = .int .i64 q ∧ Hid (((bs.drop p).take (q - p)).all Oc.tail = true) ∧ wr = w) (fun i _ => n - (intOf i).toNat)
        case atStart => exact ⟨p, Nat.le_refl _, hp, rfl, Lib.hid (by rw [Nat.sub_self]; rfl), rfl⟩
        case round =>
          obtain ⟨q, hpq, hq, rfl, HQ, rfl⟩ := hrel
          by_cases hlt : q < n
          · have hc := HS.out.cellAt (j := q) (by omega)
            have htl := tail_n8 bs[q]
            have hseg := seg_all (bs := bs) Oc.tail hpq (show q < bs.length by omega)
            rw [HQ.out, Bool.true_and] at hseg
            have hmem : bs[q] ∈ bs.drop p := by
              rw [List.mem_drop_iff_getElem]
              exact ⟨q - p, by omega, by simp [show p + (q - p) = q by omega]⟩
            have HX := Lib.hid (And.intro htl (And.intro hseg hmem))
            clear htl hseg hmem
            generalize n8 bs[q] = d2 at *
            have hlt' : (q : Int) < (n : Int) := by omega
            by_cases h0 : d2 = 0
            · subst h0
              go_wp2_with fail
              go_roundw
              case rel => exact ⟨q + 1, by omega, by omega, by go_num, Lib.hid (by rw [HX.out.2.1, HX.out.1]; rfl), trivial⟩
              case measure => simp [intOf] <;> omega
            · by_cases h32 : d2 = 32
              · subst h32
                go_wp2_with fail
                go_roundw
                case rel => exact ⟨q + 1, by omega, by omega, by go_num, Lib.hid (by rw [HX.out.2.1, HX.out.1]; rfl), trivial⟩
                case measure => simp [intOf] <;> omega
              · have HN : Hid (refF bs = none) := Lib.hid (by
                  rw [HR.out, if_neg]
                  rintro ⟨_, h⟩
                  have := List.all_eq_true.1 h _ HX.out.2.2
                  rw [HX.out.1, decide_eq_false h0, decide_eq_false h32] at this
                  cases this)
                have b0 : (d2 != 0) = true := bne_iff_ne.2 h0
                have b32 : (d2 != 32) = true := bne_iff_ne.2 h32
                go_wp2_with fail
                go_ret2
                exact ⟨by rw [HN.out]; rfl, rfl⟩
          · obtain rfl : q = n := by omega
            have HN : Hid (refF bs = some v0) := Lib.hid (by
              have h2 := HQ.out
              rw [List.take_of_length_le (by rw [List.length_drop]; omega)] at h2
              rw [HR.out, HP.out.val, if_pos ⟨by unfold big; omega, h2⟩])
            have hge : ¬ (q : Int) < (q : Int) := by omega
            go_wp2_with fail
            go_ret2
            exact ⟨by rw [HN.out]; rfl, rfl⟩
end Go.Proofs.YthakeahpaogikaaDoor
