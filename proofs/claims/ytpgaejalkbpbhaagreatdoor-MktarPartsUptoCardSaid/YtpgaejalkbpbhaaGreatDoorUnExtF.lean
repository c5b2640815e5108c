/-
  What the law UntarExtras reads; a number's text, up to 2 to the 62nd.
-/
import Derived.Test.YtpgaejalkbpbhaaGreatDoorUnPadW
import Derived.Test.YtpgaejalkbpbhaaGreatDoorUnAttrsW
namespace Go.Proofs.YtpgaejalkbpbhaaGreatDoor
open Go.RowKit Sh Px Hd

theorem txt_19 (n : Nat) (h : n ≤ 4611686018427387904) : (txt n).length ≤ 19 := txt_len_pow 18 _ (by omega)
set_option maxRecDepth 100000 in
set_option maxHeartbeats 1000000 in
theorem un_text (n : Nat) (hn : n ≤ 4611686018427387904) : ∀ w : World, Calls Tryz.prog 76 #[.int .i64 n] w fun e w' => e = .returned (.string (sb (txt n))) ∧ w = w' := by
  induction n using Nat.strongRecOn with
  | ind n ih =>
    intro w
    by_cases h : n < 10
    · exact px_text n (by omega) w
    · have h1 : ¬ (n : Int) < 10 := by omega
      have c1 := Lib.hid (ih (n / 10) (by omega) (by omega))
      have c2 := Lib.hid (ih (n % 10) (by omega) (by omega))
      have HT := Lib.hid (show sb (txt (n / 10)) ++ sb (txt (n % 10)) = sb (txt n) by
        rw [sb_app, txt_high n (by omega), txt_low (n % 10) (Nat.mod_lt _ (by decide))])
      have hz1 : (sb (txt (n / 10))).size ≤ 19 := by
        rw [sb_size]
        exact txt_19 _ (by omega)
      have hz2 : (sb (txt (n % 10))).size ≤ 19 := by
        rw [sb_size]
        exact txt_19 _ (by omega)
      clear ih
      generalize sb (txt (n / 10)) = S1 at *
      generalize sb (txt (n % 10)) = S2 at *
      generalize sb (txt n) = S at *
      have hz3 : ¬ 9223372036854775807 < S1.size + S2.size := by omega
      go_enter Tryz.func76, Tryz.ntmps76
      go_wp2_with fail
      refine (c1.out w).mono ?_
      rintro e w1 ⟨rfl, rfl⟩
      go_wp2_with fail
      refine (c2.out w).mono ?_
      rintro e w1 ⟨rfl, rfl⟩
      go_wp2_with fail
      go_ret
      exact ⟨by rw [← HT.out]; rfl, rfl⟩

def pxH (n : Nat) : H := ⟨[112, 97, 120], 0, 0, 0, n, 0, 120, [], 0, 0⟩
def exH : H := ⟨[110], 8191, 0, 5, 0, 0, 50, [108], 3, 0⟩
theorem pxH_print (n : Nat) (hn : n < 8589934592) : ∃ b, Hd.printF (pxH n) = some b := print_size (pxH 0) n hn (by decide +kernel)
theorem exH_print : ∃ b, Hd.printF exH = some b := Option.isSome_iff_exists.1 (by decide +kernel)
def kWhat : List UInt8 := [119, 104, 97, 116]
def vEver : List UInt8 := [101, 118, 101, 114]
def exL (path link : List UInt8) (uid m : Nat) : List Pr := [(Un.kLink, link), (Un.kMtime, txt m), (Un.kPath, path), (Un.kUid, txt uid), (kWhat, vEver)]
def exE (path link : List UInt8) (uid m : Nat) : Un.E := ⟨path, 2, 4095, uid, 5, m, link, [], 0, 0, []⟩
theorem exL_print (path link : List UInt8) (uid m : Nat) : Px.printF (exL path link uid m) = some (flat (exL path link uid m)) := by
  refine if_pos ⟨?_, ?_⟩
  · show ([Un.kLink, Un.kMtime, Un.kPath, Un.kUid, kWhat].all okKey) = true
    decide
  · show ([Un.kLink, Un.kMtime, Un.kPath, Un.kUid, kWhat] : List (List UInt8)).Nodup
    decide
theorem exL_len (path link : List UInt8) (uid m : Nat) (h1 : path.length ≤ 4096) (h2 : link.length ≤ 4096) (hu : uid ≤ 4611686018427387904) (hm : m ≤ 4611686018427387904) : (flat (exL path link uid m)).length ≤ 20000 := by
  have h := flat_tot (exL path link uid m)
  have ht : tot (exL path link uid m) = (8 + link.length) + ((5 + (txt m).length) + ((4 + path.length) + ((3 + (txt uid).length) + ((4 + 4) + 0)))) := rfl
  have hl : (exL path link uid m).length = 5 := rfl
  have := txt_19 m hm
  have := txt_19 uid hu
  omega
theorem exL_attrs (path link : List UInt8) (uid m : Nat) : Un.attrsF (exL path link uid m) = [] := by
  have hf : (exL path link uid m).filter Un.isAttr = [] := by
    have h1 : ∀ v, Un.isAttr (Un.kLink, v) = false := fun v => (show Lib.hasPrefix Un.kLink Un.attrKey = false by decide)
    have h2 : ∀ v, Un.isAttr (Un.kMtime, v) = false := fun v => (show Lib.hasPrefix Un.kMtime Un.attrKey = false by decide)
    have h3 : ∀ v, Un.isAttr (Un.kPath, v) = false := fun v => (show Lib.hasPrefix Un.kPath Un.attrKey = false by decide)
    have h4 : ∀ v, Un.isAttr (Un.kUid, v) = false := fun v => (show Lib.hasPrefix Un.kUid Un.attrKey = false by decide)
    have h5 : ∀ v, Un.isAttr (kWhat, v) = false := fun v => (show Lib.hasPrefix kWhat Un.attrKey = false by decide)
    unfold exL
    simp [h1, h2, h3, h4, h5]
  unfold Un.attrsF
  rw [hf, List.mergeSort_nil]
  rfl
theorem exL_counted (path link : List UInt8) (uid m : Nat) (hu : uid ≤ 4611686018427387904) (hm : m ≤ 4611686018427387904) :
    Un.countedF exH (exL path link uid m) = some { exH with link := link, mtime := (m : Int), name := path, uid := (uid : Int) } := by
  have n1 := Un.num_back m hm
  have n2 := Un.num_back uid hu
  have a1 : ∀ h : H, Un.oneF h (Un.kLink, link) = some { h with link := link } := fun h => by
    unfold Un.oneF
    rw [if_neg (show ¬ Un.kLink = Un.kSize by decide), if_neg (show ¬ Un.kLink = Un.kUid by decide), if_neg (show ¬ Un.kLink = Un.kGid by decide), if_neg (show ¬ Un.kLink = Un.kMtime by decide), if_neg (show ¬ Un.kLink = Un.kPath by decide), if_pos rfl]
  have a2 : ∀ h : H, Un.oneF h (Un.kMtime, txt m) = some { h with mtime := (m : Int) } := fun h => by
    unfold Un.oneF
    rw [if_neg (show ¬ Un.kMtime = Un.kSize by decide), if_neg (show ¬ Un.kMtime = Un.kUid by decide), if_neg (show ¬ Un.kMtime = Un.kGid by decide), if_pos rfl, n1]
    rfl
  have a3 : ∀ h : H, Un.oneF h (Un.kPath, path) = some { h with name := path } := fun h => by
    unfold Un.oneF
    rw [if_neg (show ¬ Un.kPath = Un.kSize by decide), if_neg (show ¬ Un.kPath = Un.kUid by decide), if_neg (show ¬ Un.kPath = Un.kGid by decide), if_neg (show ¬ Un.kPath = Un.kMtime by decide), if_pos rfl]
  have a4 : ∀ h : H, Un.oneF h (Un.kUid, txt uid) = some { h with uid := (uid : Int) } := fun h => by
    unfold Un.oneF
    rw [if_neg (show ¬ Un.kUid = Un.kSize by decide), if_pos rfl, n2]
    rfl
  have a5 : ∀ h : H, Un.oneF h (kWhat, vEver) = some h := fun h => by
    unfold Un.oneF
    rw [if_neg (show ¬ kWhat = Un.kSize by decide), if_neg (show ¬ kWhat = Un.kUid by decide), if_neg (show ¬ kWhat = Un.kGid by decide), if_neg (show ¬ kWhat = Un.kMtime by decide), if_neg (show ¬ kWhat = Un.kPath by decide), if_neg (show ¬ kWhat = Un.kLink by decide)]
  unfold exL
  simp only [Un.countedF, a1, a2, a3, a4, a5, Option.bind_some]
theorem ex_read (path link : List UInt8) (uid m : Nat) (hu : uid ≤ 4611686018427387904) (hm : m ≤ 4611686018427387904) (h0 : path ≠ []) (h1 : Un.textOk path = true) (h2 : Un.textOk link = true) (bx bh : List UInt8)
    (hx : Hd.printF (pxH (flat (exL path link uid m)).length) = some bx) (hh : Hd.printF exH = some bh) :
    Un.untarF (bx ++ Un.padF (flat (exL path link uid m)) ++ bh ++ List.replicate 1024 0) = (0, [exE path link uid m]) := by
  have hr := read_print _ _ (exL_print path link uid m)
  have hc := exL_counted path link uid m hu hm
  have ha := exL_attrs path link uid m
  generalize hL : exL path link uid m = L at *
  have hp := Un.pad_len (flat L)
  unfold Un.padF at hp ⊢
  generalize List.replicate (Un.whole (flat L).length - (flat L).length) (0 : UInt8) = P at *
  unfold Un.untarF
  have s1 := Un.step_keep (es := []) (flat L) P (bh ++ List.replicate 1024 0) hx rfl hr rfl hp
  have s2 := Un.step_add (es := []) [] [] (List.replicate 1024 0) hh (show (50 : UInt8) ≠ 120 by decide) (k := 2) rfl hc h0 h1 h2 rfl (.inr rfl) rfl (by decide)
  rw [show ([] : List UInt8) ++ [] ++ List.replicate 1024 0 = List.replicate 1024 0 from by rw [List.append_nil, List.nil_append]] at s2
  rw [List.append_assoc (bx ++ (flat L ++ P)), List.append_assoc bx, Un.run_more s1, Un.run_more s2, Un.run_zeros]
  unfold Un.entryOf
  rw [ha]
  rfl
theorem exE_built (path link : List UInt8) (uid m : Nat) : Tryz.prog.built 28 [(0, .int .i64 2), (1, .int .i64 4095), (2, .int .i64 (uid : Int)), (3, .int .i64 5), (4, .int .i64 (m : Int)), (5, .string (sb link))] = some (nodeL (exE path link uid m)).toArray ∧
    Tryz.prog.built 30 [(0, .string (sb path)), (1, .agg (nodeL (exE path link uid m)).toArray)] = some (entL (exE path link uid m)).toArray := by
  constructor
  · show Tryz.prog.built 28 [(0, .int .i64 2), (1, .int .i64 4095), (2, .int .i64 (uid : Int)), (3, .int .i64 5), (4, .int .i64 (m : Int)), (5, .string (sb link))] = some #[.int .i64 2, .int .i64 4095, .int .i64 (uid : Int), .int .i64 5, .int .i64 (m : Int), .string (sb link), .string (sb []), .int .i64 0, .int .i64 0, .string (sb [])]
    generalize sb link = S
    generalize (uid : Int) = x
    generalize (m : Int) = y
    kernel_rfl
  · show Tryz.prog.built 30 [(0, .string (sb path)), (1, .agg #[.int .i64 2, .int .i64 4095, .int .i64 (uid : Int), .int .i64 5, .int .i64 (m : Int), .string (sb link), .string (sb []), .int .i64 0, .int .i64 0, .string (sb [])])] = some #[.string (sb path), .int .i64 2, .int .i64 4095, .int .i64 (uid : Int), .int .i64 5, .int .i64 (m : Int), .string (sb link), .string (sb []), .int .i64 0, .int .i64 0, .string (sb [])]
    generalize sb link = S
    generalize sb path = T
    generalize (uid : Int) = x
    generalize (m : Int) = y
    kernel_rfl
theorem pxH_built (n : Int) : Tryz.prog.built 57 [(0, .string ⟨#[112, 97, 120]⟩), (6, .int .u8 120), (4, .int .i64 n)] = some #[.string ⟨#[112, 97, 120]⟩, .int .i64 0, .int .i64 0, .int .i64 0, .int .i64 n, .int .i64 0, .int .u8 120, .string ⟨#[]⟩, .int .i64 0, .int .i64 0] := by kernel_rfl
theorem exH_built : Tryz.prog.built 57 [(0, .string ⟨#[110]⟩), (1, .int .i64 8191), (3, .int .i64 5), (6, .int .u8 50), (7, .string ⟨#[108]⟩), (8, .int .i64 3)] = some (hdL exH).toArray := by kernel_rfl
/-- pax.Print of the law's pairs. -/
theorem ex_print (W : World) (g : Nat) (path link : List UInt8) (uid m : Nat) (h1 : path.length ≤ 4096) (h2 : link.length ≤ 4096) (hu : uid ≤ 4611686018427387904) (hm : m ≤ 4611686018427387904) (hR : Row W g 63 (cellsOf (exL path link uid m))) (hE : UnEnv W) :
    Calls Tryz.prog 45 #[.slice (some ⟨g, 0, none⟩) 5 5] W fun e w' => ∃ A c, e = .returned (.tuple #[.slice A (flat (exL path link uid m)).length c, .bool true]) ∧ Hid (BytesAt w' A (flat (exL path link uid m)).length c (flat (exL path link uid m))) ∧ Hid (A = none → c = 0) ∧ Hid (Below W.heap.size W w') := by
  have hl := exL_len path link uid m h1 h2 hu hm
  refine (px_print W (some ⟨g, 0, none⟩) 5 5 (exL path link uid m) (PairsAt.lay hR 5 rfl) (by decide) (by omega) hE.tab).mono ?_
  rintro e w' ⟨v, rfl, ho, hb⟩
  rw [exL_print] at ho ⊢
  obtain ⟨A, c, rfl, hB, hn, _⟩ := (show OwnBytes w' W.heap.size v (flat (exL path link uid m)) from ho.out).bytes
  exact ⟨A, c, rfl, Lib.hid hB, Lib.hid hn, hb⟩
/-- All that the law's walk leans on. -/
structure ExIs (path link : List UInt8) (uid m : Nat) (SP SL SM SU : ByteArray) (F bx bh : List UInt8) (D1 D2 N E : List Value) (X : Un.E) : Prop where
  len : F.length ≤ 20000
  lx : bx.length = 512
  lh : bh.length = 512
  t1 : ∀ W, Calls Tryz.prog 76 #[.int .i64 (m : Int)] W fun e w' => e = .returned (.string SM) ∧ W = w'
  t2 : ∀ W, Calls Tryz.prog 76 #[.int .i64 (uid : Int)] W fun e w' => e = .returned (.string SU) ∧ W = w'
  pr : ∀ W : World, UnEnv W → Calls Tryz.prog 45 #[.slice (some ⟨W.heap.size, 0, none⟩) 5 5] (W.alloc (.cells #[.string ⟨#[108, 105, 110, 107, 112, 97, 116, 104]⟩, .string SL, .string ⟨#[109, 116, 105, 109, 101]⟩, .string SM, .string ⟨#[112, 97, 116, 104]⟩, .string SP, .string ⟨#[117, 105, 100]⟩, .string SU, .string ⟨#[119, 104, 97, 116]⟩, .string ⟨#[101, 118, 101, 114]⟩] 63))
    fun e w' => ∃ A c, e = .returned (.tuple #[.slice A F.length c, .bool true]) ∧ Hid (BytesAt w' A F.length c F) ∧ Hid (A = none → c = 0) ∧ Hid (Below W.heap.size W w')
  px : ∀ W, FT W → Calls Tryz.prog 75 #[.agg D1.toArray] W fun e w' => ∃ g, e = .returned (.tuple #[.slice (some ⟨g, 0, none⟩) 512 512, .bool true]) ∧ Hid (BytesAt w' (some ⟨g, 0, none⟩) 512 512 bx) ∧ Hid (Below W.heap.size W w')
  ph : ∀ W, FT W → Calls Tryz.prog 75 #[.agg D2.toArray] W fun e w' => ∃ g, e = .returned (.tuple #[.slice (some ⟨g, 0, none⟩) 512 512, .bool true]) ∧ Hid (BytesAt w' (some ⟨g, 0, none⟩) 512 512 bh) ∧ Hid (Below W.heap.size W w')
  b1 : Tryz.prog.built 57 [(0, .string ⟨#[112, 97, 120]⟩), (6, .int .u8 120), (4, .int .i64 (F.length : Int))] = some D1.toArray
  b2 : Tryz.prog.built 57 [(0, .string ⟨#[110]⟩), (1, .int .i64 8191), (3, .int .i64 5), (6, .int .u8 50), (7, .string ⟨#[108]⟩), (8, .int .i64 3)] = some D2.toArray
  rd : ∀ W B' v, OwnBytes W B' v (bx ++ Un.padF F ++ bh ++ List.replicate 1024 0) → UnEnv W → Calls Tryz.prog 14 #[v] W fun e w' => ∃ A c, e = .returned (.tuple #[.slice A 1 c, .int .i64 0]) ∧ Hid (OwnEnts w' W.heap.size (.slice A 1 c) [X]) ∧ Hid (Below W.heap.size W w')
  nb : Tryz.prog.built 28 [(0, .int .i64 2), (1, .int .i64 4095), (2, .int .i64 (uid : Int)), (3, .int .i64 5), (4, .int .i64 (m : Int)), (5, .string SL)] = some N.toArray
  eb : Tryz.prog.built 30 [(0, .string SP), (1, .agg N.toArray)] = some E.toArray
  es : ∀ W, (Op.equalIn 10000 30 (.agg E.toArray) (.agg E.toArray)).run Tryz.prog W = .ok true W
  ei : (Tryz.prog.info? 30).map (·.size) = some E.length
  ee : E = entL X
theorem ex_is (path link : List UInt8) (uid m : Nat) (h0 : path ≠ []) (h1 : path.length ≤ 4096) (h2 : link.length ≤ 4096) (z1 : path.contains 0 = false) (z2 : link.contains 0 = false) (hu : uid ≤ 4611686018427387904) (hm : m ≤ 4611686018427387904) :
    ∃ SM SU F bx bh D1 D2 N E X, ExIs path link uid m (sb path) (sb link) SM SU F bx bh D1 D2 N E X := by
  have hl := exL_len path link uid m h1 h2 hu hm
  have ok1 : Un.textOk path = true := by unfold Un.textOk; rw [z1, decide_eq_true h1]; rfl
  have ok2 : Un.textOk link = true := by unfold Un.textOk; rw [z2, decide_eq_true h2]; rfl
  obtain ⟨bx, hbx⟩ := pxH_print (flat (exL path link uid m)).length (by omega)
  obtain ⟨bh, hbh⟩ := exH_print
  have hrd := ex_read path link uid m hu hm h0 ok1 ok2 bx bh hbx hbh
  have hlx := (parse_back hbx).2.1
  have hlh := (parse_back hbh).2.1
  refine ⟨sb (txt m), sb (txt uid), flat (exL path link uid m), bx, bh, hdL (pxH (flat (exL path link uid m)).length), hdL exH, nodeL (exE path link uid m), entL (exE path link uid m), exE path link uid m,
    ⟨hl, hlx, hlh, un_text m hm, un_text uid hu, fun W he => ?_, fun W hW => hd_print W _ bx hbx hW, fun W hW => hd_print W exH bh hbh hW, pxH_built _, exH_built, fun W B' v ho he => ?_, (exE_built path link uid m).1, (exE_built path link uid m).2, ent_self _, info_ent _, rfl⟩⟩
  · have hb0 : Below W.heap.size W (W.alloc (.cells (cellsOf (exL path link uid m)).toArray 63)) := (Below.refl _ _).alloc (Nat.le_refl _) _
    refine (ex_print (W.alloc (.cells (cellsOf (exL path link uid m)).toArray 63)) W.heap.size path link uid m h1 h2 hu hm (Row.new _ _ _) (he.below hb0)).mono ?_
    rintro e w' ⟨A, c, rfl, hB, hn, hb⟩
    exact ⟨A, c, rfl, hB, hn, Lib.hid (hb0.trans (hb.out.mono hb0.size))⟩
  · have hw := Un.whole_le (flat (exL path link uid m)).length
    have hp := Un.pad_len (flat (exL path link uid m))
    exact un_reads W B' v _ 0 [exE path link uid m] ho (by rw [List.length_append, List.length_append, List.length_append, List.length_replicate, hlx, hlh, hp]; omega) he hrd
end Go.Proofs.YtpgaejalkbpbhaaGreatDoor
