/-
  Whether two headers are the same; Sealed.
-/
import Derived.Test.YthakeahpaogikaaDoorHdPrint
import Derived.Test.YthakeahpaogikaaDoorHdRParse
import Derived.Test.YthakeahpaogikaaDoorHdBack2
namespace Go.Proofs.YthakeahpaogikaaDoor
open Go.RowKit Sh Oc Hd

set_option maxRecDepth 100000 in
theorem hd_same (a b : ByteArray) (m0 m1 m2 m3 m4 m5 m6 : Int) (x : Int) (W : World) : (Op.equalIn 10000 25 (.agg #[.string a, .int .i64 m0, .int .i64 m1, .int .i64 m2, .int .i64 m3, .int .i64 m4, .int .u8 x, .string b, .int .i64 m5, .int .i64 m6]) (.agg #[.string a, .int .i64 m0, .int .i64 m1, .int .i64 m2, .int .i64 m3, .int .i64 m4, .int .u8 x, .string b, .int .i64 m5, .int .i64 m6])).run Tryd.prog W = .ok true W := by
  go_simp
theorem hd_self (h : H) (W : World) : (Op.equalIn 10000 25 (.agg (hdL h).toArray) (.agg (hdL h).toArray)).run Tryd.prog W = .ok true W :=
  hd_same ⟨h.name.toArray⟩ ⟨h.link.toArray⟩ h.mode h.uid h.gid h.size h.mtime h.major h.minor (n8 h.typ) W

set_option maxRecDepth 100000 in
set_option maxHeartbeats 4000000 in
theorem sealed_any (w : World) (A : Option Addr) (n c : Nat) (bs : List UInt8) (S : BytesAt w A n c bs) (hn : n ≤ 1099511627776) :
    Calls Tryd.prog 11 #[.slice A n c] w fun e w' => (∃ g, e = .returned (.slice (some ⟨g, 0, none⟩) 512 512) ∧ Hid (Row w' g 5 ((sealed bs).map v8)) ∧ Hid (w.heap.size ≤ g)) ∧ Hid (Below w.heap.size w w') := by
  have HS := Lib.hid S
  have hlen := S.len
  clear S
  have hmk := make_512
  obtain ⟨Z, hZ⟩ : ∃ Z, Z = (List.replicate 512 (0 : UInt8)).map v8 := ⟨_, rfl⟩
  rw [← hZ] at hmk
  have HZ := Lib.hid hZ
  clear hZ
  obtain ⟨X, hX⟩ : ∃ X, X = lay 0 (bs.take 512) (List.replicate 512 0) := ⟨_, rfl⟩
  have hX2 : X = bs.take 512 ++ List.replicate (512 - bs.length) 0 := by
    rw [hX, lay, List.take_zero, List.nil_append, List.drop_replicate, List.length_take]
    congr 2
    omega
  have hXL : X.length = 512 := by rw [hX2, List.length_append, List.length_take, List.length_replicate]; omega
  have hSE : sealed bs = lay 148 (sum7 X) X := by rw [sealed, ← hX2]
  have h7 := sum7_len hXL
  have h7t : (sum7 X).take 364 = sum7 X := List.take_of_length_le (by omega)
  have HF := Lib.hid (And.intro hX (And.intro hXL (And.intro hSE (And.intro h7 h7t))))
  have HWS := Lib.hid (fun W => write_is W (checkF X) 7 _ rfl)
  have H77 := Lib.hid (show (writeZ (checkF X) 7).getD [] = sum7 X from rfl)
  clear hX hX2 hXL hSE h7 h7t
  go_enter Tryd.func11, Tryd.ntmps11
  go_upto_region 2 with fail
  have R1 : Hid (Row (w.alloc (.cells Z.toArray 5)) w.heap.size 5 ((List.replicate 512 (0 : UInt8)).map v8)) := Lib.hid (by rw [← HZ.out]; exact Row.new _ _ _)
  have K1 : Hid (Kept w (w.alloc (.cells Z.toArray 5)) (fun _ => False)) := Lib.hid (kept_alloc _ _)
  generalize w.alloc _ = w1 at R1 K1 ⊢
  clear hmk
  go_upto_region 3 with ((with_reducible refine wpList_copy_lay ?_ (.tmp 7) (.tmp 8) ?_ w.heap.size 0 512 512 (List.replicate 512 0) ?_ R1.out ?_ A n c bs ?_ (HS.out.kept K1.out (fun _ _ _ _ h => h)) ?_); rfl; rfl; go_must (rfl; (rw [List.length_replicate]; decide); rfl; intro w2 R2 K2))
  rw [← HF.out.1] at R2
  have M2 := Lib.hid (kept_fresh K1.out K2.out (Nat.le_refl _))
  clear K2 K1 R1
  go_wp2_with fail
  refine (check_any w2 (some ⟨w.heap.size, 0, none⟩) 512 512 X (by have h := BytesAt.row R2.out; rwa [HF.out.2.1] at h) (by decide)).mono ?_
  rintro e w3 ⟨rfl, rfl⟩
  go_wp2_with fail
  refine (HWS.out w3).mono ?_
  rintro e w4 ⟨⟨A4, c4, rfl, Y4, _, _⟩, K4⟩
  rw [H77.out, HF.out.2.2.2.1] at Y4 ⊢
  have R4 := Lib.hid (R2.out.below K4.out R2.out.lt)
  have M4 := Lib.hid (kept_trans M2.out (kept_below K4.out))
  clear R2 M2 K4 HWS H77
  go_wp2_with ((with_reducible refine wpList_copy_lay ?_ (.tmp 17) (.tmp 18) ?_ w.heap.size 148 364 364 X ?_ R4.out ?_ A4 7 c4 (sum7 X) ?_ Y4.out ?_); rfl; rfl; go_must (rfl; (rw [HF.out.2.1]; decide); rfl; intro w5 R5 K5))
  rw [HF.out.2.2.2.2, ← HF.out.2.2.1] at R5
  have M5 := Lib.hid (kept_fresh M4.out K5.out (Nat.le_refl _))
  go_ret
  exact ⟨⟨_, rfl, R5, Lib.hid (Nat.le_refl _)⟩, Lib.hid (M5.out.below (Nat.le_refl _) (fun _ _ h => h))⟩
end Go.Proofs.YthakeahpaogikaaDoor
