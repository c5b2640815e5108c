import Derived.Test.YtgmangikcfakgaaGreatDoorPP8
import Derived.WalkMore
namespace Go.Proofs.YtgmangikcfakgaaGreatDoor
open Go.RowKit Sh
namespace Jt
theorem marks_low:∀(i:Nat) (h:i < marks.length),(marks[i]).toNat < 128:=by decide
theorem marks_dec {i:Nat} (h:i < (sb marks).size):∃c,c < 128∧Utf8.decode (sb marks) i=(c,1):=by
 have h7:i < marks.length:=h
 have hl:=marks_low i h7
 refine ⟨(marks[i]).toNat,hl, ?_⟩
 rw [dec_at marks h7,charF,if_pos hl]
 rfl
theorem idx_no {l:List UInt8} {c:UInt8} (h:∀x∈l,x≠c):Lib.indexByte l c= -1:=by
 induction l with
 | nil=> rfl
 | cons a r ih=>
  rw [Lib.indexByte,beq_eq_false_iff_ne.2 (h a (List.mem_cons_self ..)),ih (fun x hx=> h x (List.mem_cons_of_mem _ hx))]
  rfl
theorem bytes_last {n:Nat} (hn:scalar n=true) (h:128≤n):∃m,m+1=(bytesF n).length∧1≤m∧m≤3∧∃c,(bytesF n)[m]? =some c∧128≤c.toNat:=by
 have hs:=scalar_is.1 hn
 unfold bytesF
 rw [if_neg (by omega)]
 split
 ·exact ⟨1,rfl,Nat.le_refl _,by omega,_,rfl,by rw [toN _ (by omega)];omega⟩
 split
 ·exact ⟨2,rfl,by omega,by omega,_,rfl,by rw [toN _ (by omega)];omega⟩
 ·exact ⟨3,rfl,by omega,by omega,_,rfl,by rw [toN _ (by omega)];omega⟩
theorem valid_is {n:Nat} (hn:scalar n=true):Lib.validRune (n:Int)=true:=by
 have hs:=scalar_is.1 hn
 unfold Lib.validRune
 simp
 omega
end Jt
open Jt
set_option maxRecDepth 100000 in
set_option maxHeartbeats 2000000 in
theorem jt_irune_bad (w:World):Calls Tryz.prog 144 #[.string (sb marks), .int .i32 65533] w fun e w'=> e= .returned (.int .i64 (-1))∧∃o,w'=w.alloc o:=by
 have HM:=Lib.hid (fun (i:Nat) (h:i < (sb marks).size)=> marks_dec h)
 generalize sb marks=S at*
 go_enter Tryz.func144,Tryz.ntmps144
 go_wp2_with fail
 go_loopg [5,6] S.size (fun g _ _ wx=> ∃i:Nat,i+g=S.size∧wx=w.iter S i)
 case atStart=> exact ⟨0,by omega,rfl⟩
 case round=>
  obtain ⟨i,hig,rfl⟩:=hrel
  cases gk with
  | zero=>
   obtain rfl:i=S.size:=by omega
   have hnx:=run_next_end (P:=Tryz.prog) w S S.size
   go_wp2_with fail
   go_ret
   exact ⟨rfl,_,rfl⟩
  | succ g=>
   have hi:i < S.size:=by omega
   obtain ⟨c,hc,hd⟩:=HM.out i hi
   have hnx:=fun ty=> run_next_any (P:=Tryz.prog) w S i ty hi
   rw [hd]at hnx
   have hne:¬(c:Int)=65533:=by omega
   clear hd
   go_wp2_with fail
   go_roundg g
   case measure=> omega
   case rel=> exact ⟨i+1,by omega,rfl⟩
set_option maxRecDepth 100000 in
set_option maxHeartbeats 4000000 in
theorem jt_irune_wide (w:World) {n:Nat} (hn:scalar n=true) (h1:128≤n) (h2:n≠65533):Calls Tryz.prog 144 #[.string (sb marks), .int .i32 (n:Int)] w fun e w'=> e= .returned (.int .i64 (-1))∧Below w.heap.size w w':=by
 have hs:=scalar_is.1 hn
 obtain ⟨m,hm,hm1,hm3,c,hc,hc1⟩:=bytes_last hn h1
 have hcL:(bytesF n)[m]'(by omega)=c:=by
  have:=List.getElem?_eq_getElem (show m < (bytesF n).length by omega)
  rw [this]at hc
  exact Option.some.inj hc
 have hix1:=fun W=> sb_index (bytesF n) m (by omega) W
 rw [hcL]at hix1
 have h7:m < marks.length:=by show m < 7;omega
 have hix2:=fun W=> sb_index marks m h7 W
 have hlow:=marks_low m h7
 have HV:=Lib.hid (fun W=> Tryz.utf8_ValidRune (n:Int) W)
 rw [valid_is hn]at HV
 have HI:=Lib.hid (fun W=> idx_sb (marks.drop (m+1)) c W)
 rw [idx_no (fun x hx e=> by
  have hx2:=List.mem_of_mem_drop hx
  obtain ⟨j,hj,e2⟩:=List.getElem_of_mem hx2
  have:=marks_low j hj
  rw [e2,e]at this
  omega)]at HI
 have hcut:=sb_cut marks (m+1) marks.length
 rw [List.take_length]at hcut
 have hen:=encode_is hn
 have hsz:(sb (bytesF n)).size=m+1:=by rw [sb_size];omega
 change Utf8.encode (n:Int)=sb (bytesF n)at hen
 have hsz2:(sb marks).size=7:=rfl
 change (sb marks).extract (m+1) 7=_ at hcut
 have hne:¬n8 (marks[m])=n8 c:=by unfold n8;omega
 generalize n8 (marks[m])=d at*
 clear hcL hc
 generalize sb (bytesF n)=R at*
 generalize sb (marks.drop (m+1))=Z at*
 generalize sb marks=S at*
 generalize n8 c=c8 at*
 have i1:128≤(n:Int):=by omega
 have i2:¬(n:Int)=65533:=by omega
 have i3:(n:Int)≤1114111:=by omega
 obtain ⟨m1,hm1'⟩:∃m1,m1=m+1:=⟨_,rfl⟩
 have hwr:IntKind.i64.wrap ((m:Int)+1)=(m1:Int):=by
  rw [IntKind.wrap_i64]
  omega
 have hm17:(m1:Int)≤7:=by omega
 rw [←hm1']at hcut
 have HIm:=Lib.hid hm1'
 clear hm1'
 clear hlow hc1 hm h7 hs h1 h2 hn
 generalize (n:Int)=z at*
 have hcv:∀W,(convert 21 9 (.int .i32 z)).run Tryz.prog W= .ok (.string R) W:=fun W=> by
  rw [←hen]
  exact run_convert_int_string W _ _ _ _ (by rw [Tryz.underlying21];rfl) Tryz.underlying9
 clear hen
 go_enter Tryz.func144,Tryz.ntmps144
 go_wp2_with fail
 refine (HV.out _).mono ?_
 rintro e w1 ⟨rfl,rfl⟩
 go_wp2_with fail
 go_step3
 go_wp2_with fail
 go_loopg [9,10] 0 (fun _ vi vf wx=> vi= .int .i64 m∧vf= .int .i64 0∧wx=w1)
 case atStart=> exact ⟨by go_num,rfl,rfl⟩
 case round=>
  obtain ⟨rfl,rfl,rfl⟩:=hrel
  go_wp2_with fail
  go_step3
  go_upto_region 6 with fail
  go_quiet (fail)
  go_upto_region 7 with fail
  go_quiet (first | exact quiet_eq (HI.out _) | fail)
  go_wp2_with fail
  simp only [Exit.noGoto_ret,Exit.then,Exit.inBlock]
  go_ret
  exact ⟨rfl,below_drewN (Below.refl _ _) _⟩
theorem jt_irune (w:World) {n:Nat} (hn:scalar n=true):Calls Tryz.prog 144 #[.string (sb marks), .int .i32 (n:Int)] w fun e w'=>
  e= .returned (.int .i64 (if n < 128 then Lib.indexByte marks (UInt8.ofNat n) else -1))∧Below w.heap.size w w':=by
 by_cases h1:n < 128
 ·rw [if_pos h1]
  refine (Tryz.strings_IndexRune_ascii (sb marks) (n:Int) w (by omega) (by omega)).mono ?_
  rintro e w' ⟨rfl,rfl⟩
  refine ⟨?_,Below.refl _ _⟩
  rw [Int.toNat_natCast]
  rfl
 ·rw [if_neg h1]
  by_cases h2:n=65533
  ·subst h2
   refine (jt_irune_bad w).mono ?_
   rintro e w' ⟨rfl,o,rfl⟩
   exact ⟨rfl,(Below.refl _ _).alloc (Nat.le_refl _) _⟩
  ·exact jt_irune_wide w hn (by omega) h2
end Go.Proofs.YtgmangikcfakgaaGreatDoor
namespace Go.Proofs.YtgmangikcfakgaaGreatDoor
open Go.RowKit Sh
namespace Jt
def hexs:List UInt8:=[48,49,50,51,52,53,54,55,56,57,97,98,99,100,101,102]
theorem hexs_at:∀d:Nat,(h:d < 16)→hexs[d]'h=hexd d:=by
 have:∀d:Fin 16,hexs[d.1]'d.2=hexd d.1:=by decide
 exact fun d h=> this ⟨d,h⟩
theorem hexs_get (d:Nat) (h:d < 16) (hx:d < (⟨#[48,49,50,51,52,53,54,55,56,57,97,98,99,100,101,102]⟩:ByteArray).size):((((⟨#[48,49,50,51,52,53,54,55,56,57,97,98,99,100,101,102]⟩:ByteArray)[d]'hx).toNat:Nat):Int)=n8 (hexd d):=
 congrArg n8 (hexs_at d h)
theorem let_index {j:Nat} (h:j < 8) (W:World):(Instr.index 9 (.string (sb lets)) (.int .i64 (j:Int))).run Tryz.prog W= .ok (.int .u8 (n8 (lets.getD j 0))) W:=by
 rw [sb_index lets j h W]
 congr 4
 rw [List.getD_eq_getElem?_getD,List.getElem?_eq_getElem h]
 rfl
theorem one_len {n:Nat} (h:n < 128):(oneF n).length≤6:=by
 have:∀n:Fin 128,(oneF n.1).length≤6:=by decide
 exact this ⟨n,h⟩
theorem q_len (n:Nat):(qF n).length≤6:=by
 unfold qF
 split
 ·exact one_len (by assumption)
 ·unfold bytesF
  split
  ·exact Nat.le_of_ble_eq_true rfl
  split
  ·exact Nat.le_of_ble_eq_true rfl
  split
  ·exact Nat.le_of_ble_eq_true rfl
  ·exact Nat.le_of_ble_eq_true rfl
theorem bytes_len (n:Nat):(bytesF n).length≤4:=by
 unfold bytesF
 split
 ·exact Nat.le_of_ble_eq_true rfl
 split
 ·exact Nat.le_of_ble_eq_true rfl
 split
 ·exact Nat.le_of_ble_eq_true rfl
 ·exact Nat.le_of_ble_eq_true rfl
structure Mid (w:World) (b k:Nat) (l acc:List UInt8) (pos:Nat) (wr:World):Prop where
 bld:Bld b acc wr
 it:wr.heap[k]? =some (.stringIter (sb l) pos)
 bk:b < k
 low:Below b w wr
namespace Mid
variable {w wr w':World} {b k pos:Nat} {l acc:List UInt8}
theorem lt (h:Mid w b k l acc pos wr):b≤wr.heap.size:=by
 have:=(Array.getElem?_eq_some_iff.1 h.it).1
 have:=h.bk
 omega
theorem wrote (h:Mid w b k l acc pos wr) {acc':List UInt8} (W:Wrote b acc' wr w'):Mid w b k l acc' pos w':=
 ⟨W.bld,W.kept.iter h.it (fun e=> absurd h.bk (by rw [e];exact Nat.lt_irrefl _)),h.bk,h.low.trans W.below⟩
theorem still (h:Mid w b k l acc pos wr) (hb:Below wr.heap.size wr w'):Mid w b k l acc pos w':=
 ⟨h.bld.below hb,heap_below h.it hb,h.bk,h.low.trans (hb.mono h.lt)⟩
theorem next (h:Mid w b k l acc pos wr) (p:Nat):Mid w b k l acc p (wr.iterAt k (sb l) p):=
 ⟨h.bld.iterAt h.it p,Lib.iterAt_heap wr k (sb l) pos p h.it,h.bk,Lib.below_iterAt h.low (Nat.le_of_lt h.bk) (sb l) p⟩
end Mid
structure QSt (w:World) (b k:Nat) (l acc:List UInt8) (pos:Nat) (wr:World):Prop where
 mid:Mid w b k l acc pos wr
 quo:acc++quoteB (l.drop pos)=34::quoteB l
 len:acc.length≤6*pos+1
theorem QSt.on {w wr w':World} {b k pos n j:Nat} {l acc:List UInt8} (h:QSt w b k l acc pos wr) (hj:1≤j) (hq:quoteB (l.drop pos)=qF n++quoteB (l.drop (pos+j))) (m:Mid w b k l (acc++qF n) (pos+j) w'):QSt w b k l (acc++qF n) (pos+j) w':=by
 refine ⟨m, ?_, ?_⟩
 ·rw [List.append_assoc,←hq,h.quo]
 ·have h1:=h.len
  have h2:=q_len n
  rw [List.length_append]
  omega
end Jt
open Jt
set_option maxRecDepth 100000 in
set_option maxHeartbeats 4000000 in
theorem jt_quote (w:World) (l:List UInt8) (hl:l.length≤1000000000):Calls Tryz.prog 108 #[.string (sb l)] w fun e w'=> e= .returned (.string (sb (quoteF l)))∧Below w.heap.size w w':=by
 have HD:=Lib.hid (fun (i:Nat) (h:i < l.length)=> dec_at l h)
 have HT:=Lib.hid (fun (i:Nat) (h:i < l.length)=> told_is (at_of l h))
 have HQ:=Lib.hid (fun (i:Nat) (h:i < l.length)=> quote_step (at_of l h))
 have hsz:=sb_size l
 have hcut:(⟨#[34,92,8,12,10,13,9,47]⟩:ByteArray).extract 0 7=sb marks:=sb_cut means 0 7
 go_enter Tryz.func108,Tryz.ntmps108
 go_wp2_with fail
 have HB:=bld_byte (Bld.fresh w) (by simp) (by simp) 34
 rw [show n8 34=34 from rfl]at HB
 refine HB.mono ?_
 rintro e w1 ⟨rfl,W1⟩
 have HW1:=Lib.hid W1
 clear W1 HB
 go_wp2_with fail
 go_loopg [] l.length (fun g wx=> ∃(pos:Nat) (acc:List UInt8),pos+g=l.length∧Hid (QSt w w.heap.size w1.heap.size l acc pos wx))
 case atStart=>
  refine ⟨0,[34],by omega,Lib.hid ⟨⟨HW1.out.bld.alloc _,World.iter_heap w1 (sb l) 0, ?_,((((Below.refl _ w).alloc (Nat.le_refl _) _).trans HW1.out.below).alloc ?_ _)⟩,rfl,by simp⟩⟩
  ·have:=HW1.out.below.size
   rw [World.size_alloc]at this
   omega
  ·have:=HW1.out.below.size
   rw [World.size_alloc]at this
   omega
 case round=>
  obtain ⟨pos,acc,hpg,HS⟩:=hrel
  have hit:=HS.out.mid.it
  cases gk with
  | zero=>
   obtain rfl:pos=l.length:=by omega
   have hnx:=fun ty=> Lib.run_next_end_at (P:=Tryz.prog) wr w1.heap.size (sb l) l.length ty hit (by rw [hsz];omega)
   have HO:=Lib.hid (bld_byte HS.out.mid.bld (by have:=HS.out.len;omega) HS.out.mid.lt 34)
   rw [show n8 34=34 from rfl]at HO
   have HF:=Lib.hid (show acc++[34]=quoteF l from by
    have h:=HS.out.quo
    rw [List.drop_length,quote_nil,List.append_nil]at h
    rw [h]
    rfl)
   have HL:=Lib.hid HS.out.mid.low
   have HLT:=Lib.hid HS.out.mid.lt
   clear hit HS HD HT HQ HW1 hcut hsz
   generalize sb l=S at*
   go_wp2_with fail
   refine HO.out.mono ?_
   rintro e w2 ⟨rfl,W2⟩
   have HW:=Lib.hid W2
   clear W2
   go_wp2_with fail
   refine (bld_out HW.out.bld (Nat.le_trans HLT.out HW.out.below.size)).mono ?_
   rintro e w3 ⟨rfl,B3⟩
   have HB3:=Lib.hid B3
   clear B3
   go_wp2_with fail
   go_ret
   exact ⟨by rw [HF.out];rfl,(HL.out.trans HW.out.below).trans HB3.out⟩
  | succ g=>
   have hlt:pos < l.length:=by omega
   have hd:=HD.out pos hlt
   have T:=HT.out pos hlt
   have hq:=HQ.out pos hlt
   have hnx:=fun ty=> Lib.run_next_any_at (P:=Tryz.prog) wr w1.heap.size (sb l) pos ty hit (by rw [hsz];exact hlt)
   rw [hd]at hnx
   obtain ⟨n,j,hnj⟩:∃n j,orBad (charF (l[pos]::l.drop (pos+1)))=(n,j):=⟨_,_,rfl⟩
   rw [hnj]at T hq hnx
   dsimp only at T hq hnx
   have HN:=Lib.hid (fun (w':World) (m:Mid w w.heap.size w1.heap.size l (acc++qF n) (pos+j) w')=> HS.out.on T.pos hq m)
   have HM2:=Lib.hid (HS.out.mid.next (pos+j))
   have hlen:acc.length≤100000000000:=by have:=HS.out.len;omega
   have HLEN:=Lib.hid (show acc.length≤10000000000 by have:=HS.out.len;omega)
   have HI:=Lib.hid (fun W=> jt_irune W T.ok)
   have hj:=T.pos
   have hjl:=T.le
   have HT1:=Lib.hid T.ok
   have hn0:(0:Int)≤(n:Int):=by omega
   clear hd hq HD HT HQ hnj T HS hit
   generalize hw2:wr.iterAt w1.heap.size (sb l) (pos+j)=w2 at hnx HM2
   go_wp2_with fail
   refine (HI.out w2).mono ?_
   rintro e w3 ⟨rfl,B3⟩
   have HM3:=Lib.hid (HM2.out.still B3)
   clear B3 HM2 hnx hw2 HI
   by_cases h128:n < 128
   ·rw [if_pos h128]
    have O:=one_is h128
    generalize Lib.indexByte marks (UInt8.ofNat n)=z at*
    have hq1:qF n=oneF n:=if_pos h128
    by_cases hz:z= -1
    ·subst hz
     by_cases h32:n < 32
     ·have HE:=Lib.hid (hq1.trans (O.hex rfl h32))
      clear hq1 O
      have hi32:(n:Int) < 32:=by omega
      go_wp2_with fail
      refine (bld_str HM3.out.bld hlen HM3.out.lt [92,117,48,48] (by simp)).mono ?_
      rintro e w4 ⟨rfl,W4⟩
      have HM4:=Lib.hid (HM3.out.wrote W4)
      clear W4
      go_wp2_with fail
      rw [hexs_get (n / 16) (by omega)]
      refine (bld_byte HM4.out.bld (by simp;have:=HLEN.out;omega) HM4.out.lt (hexd (n / 16))).mono ?_
      rintro e w5 ⟨rfl,W5⟩
      have HM5:=Lib.hid (HM4.out.wrote W5)
      clear W5
      go_wp2_with fail
      rw [hexs_get (n % 16) (by omega)]
      refine (bld_byte HM5.out.bld (by simp;have:=HLEN.out;omega) HM5.out.lt (hexd (n % 16))).mono ?_
      rintro e w6 ⟨rfl,W6⟩
      have HQ6:=Lib.hid (HN.out w6 (by rw [HE.out];have:=HM5.out.wrote W6;rw [List.append_assoc,List.append_assoc]at this;exact this))
      clear W6
      go_wp2_with fail
      go_roundg (g+1 - j)
      case measure=> omega
      case rel=> exact ⟨pos+j,_,by omega,HQ6⟩
     ·have HQN:=Lib.hid (show qF n=bytesF n from by
       rw [hq1,O.no rfl h32]
       unfold bytesF
       rw [if_pos h128])
      clear hq1 O
      have hi32:¬(n:Int) < 32:=by omega
      go_wp2_with fail
      refine (bld_rune HM3.out.bld hlen HM3.out.lt HT1.out).mono ?_
      rintro e w4 ⟨⟨v,rfl⟩,W4⟩
      have HQ4:=Lib.hid (HN.out w4 (by rw [HQN.out];exact HM3.out.wrote W4))
      clear W4
      go_wp2_with fail
      go_roundg (g+1 - j)
      case measure=> omega
      case rel=> exact ⟨pos+j,_,by omega,HQ4⟩
    ·obtain ⟨m,rfl⟩:∃m:Nat,z=(m:Int):=⟨z.toNat,by have:=O.lo;omega⟩
     have hm:m < 8:=by have:=O.hi;omega
     have HE:=Lib.hid (hq1.trans (O.yes m rfl))
     have hix:∀W,(Instr.index 9 (.string ⟨#[34,92,98,102,110,114,116,47]⟩) (.int .i64 (m:Int))).run Tryz.prog W= .ok (.int .u8 (n8 (lets.getD m 0))) W:=fun W=> let_index hm W
     clear hq1 O
     generalize lets.getD m 0=c at*
     go_wp2_with fail
     refine (bld_byte HM3.out.bld hlen HM3.out.lt 92).mono ?_
     rintro e w4 ⟨rfl,W4⟩
     have HM4:=Lib.hid (HM3.out.wrote W4)
     clear W4
     go_wp2_with fail
     refine (bld_byte HM4.out.bld (by simp;have:=HLEN.out;omega) HM4.out.lt c).mono ?_
     rintro e w5 ⟨rfl,W5⟩
     have HQ5:=Lib.hid (HN.out w5 (by rw [HE.out];have:=HM4.out.wrote W5;rw [List.append_assoc]at this;exact this))
     clear W5
     go_wp2_with fail
     go_roundg (g+1 - j)
     case measure=> omega
     case rel=> exact ⟨pos+j,_,by omega,HQ5⟩
   ·rw [if_neg h128]
    have HQN:=Lib.hid (show qF n=bytesF n from if_neg h128)
    have hi32:¬(n:Int) < 32:=by omega
    go_wp2_with fail
    refine (bld_rune HM3.out.bld hlen HM3.out.lt HT1.out).mono ?_
    rintro e w4 ⟨⟨v,rfl⟩,W4⟩
    have HQ4:=Lib.hid (HN.out w4 (by rw [HQN.out];exact HM3.out.wrote W4))
    clear W4
    go_wp2_with fail
    go_roundg (g+1 - j)
    case measure=> omega
    case rel=> exact ⟨pos+j,_,by omega,HQ4⟩
end Go.Proofs.YtgmangikcfakgaaGreatDoor
namespace Go.Proofs.YtgmangikcfakgaaGreatDoor
open Go.RowKit Sh
namespace Jt
theorem conv_const (w:World) (bs:List UInt8) (C:Array Value) (hC:C=(bs.map v8).toArray) (n:Nat) (hn:bs.length=n):
  (convert 22 9 (.slice (some ⟨w.heap.size,0,none⟩) n n)).run Tryz.prog (w.alloc (.cells C 5))= .ok (.string (sb bs)) (w.alloc (.cells C 5)):=
 conv_bytes _ _ _ _ _ (BytesAt.const w bs 5 (0,0) hC hn)
theorem v8_of {n:Nat} (h:n < 256) (z:Int) (hz:z=(n:Int)):Value.int .u8 z=v8 (UInt8.ofNat n):=by
 unfold v8
 rw [n8_of h,hz]
end Jt
open Jt
set_option maxRecDepth 100000 in
set_option maxHeartbeats 2000000 in
theorem jt_bytes (w:World) (n:Nat) (hn:scalar n=true):Calls Tryz.prog 147 #[.int .i64 (n:Int)] w fun e w'=> e= .returned (.string (sb (bytesF n)))∧Below w.heap.size w w':=by
 have hs:=scalar_is.1 hn
 obtain ⟨z,hz⟩:∃z:Int,z=(n:Int):=⟨_,rfl⟩
 rw [←hz]
 have hz0:0≤z:=by omega
 have hz1:z≤1114111:=by omega
 have hB:=fun (C:Array Value)=> ((Below.refl w.heap.size w).alloc (Nat.le_refl _) (.cells C 5))
 have HB:=Lib.hid hB
 clear hB
 unfold bytesF
 by_cases h1:n < 128
 ·rw [if_pos h1]
  have i1:z < 128:=by omega
  have hcv:=conv_const w [UInt8.ofNat n] #[.int .u8 z] (by rw [v8_of (by omega) z hz];rfl) 1 rfl
  clear hz hs hn h1
  go_enter Tryz.func147,Tryz.ntmps147
  go_wp2_with fail
  go_ret
  exact ⟨rfl,HB.out _⟩
 by_cases h2:n < 2048
 ·rw [if_neg h1,if_pos h2]
  have i1:128≤z:=by omega
  have i2:z < 2048:=by omega
  have hcv:=conv_const w [UInt8.ofNat (192+n / 64),UInt8.ofNat (128+n % 64)] #[.int .u8 (192+z / 64), .int .u8 (128+z % 64)] (by rw [v8_of (n:=192+n / 64) (by omega) _ (by omega),v8_of (n:=128+n % 64) (by omega) _ (by omega)];rfl) 2 rfl
  generalize [UInt8.ofNat (192+n / 64),UInt8.ofNat (128+n % 64)]=L at*
  clear hz hs hn h1 h2
  go_enter Tryz.func147,Tryz.ntmps147
  go_wp2_with fail
  go_ret
  exact ⟨rfl,HB.out _⟩
 by_cases h3:n < 65536
 ·rw [if_neg h1,if_neg h2,if_pos h3]
  have i1:2048≤z:=by omega
  have i2:z < 65536:=by omega
  have hcv:=conv_const w [UInt8.ofNat (224+n / 4096),UInt8.ofNat (128+n / 64 % 64),UInt8.ofNat (128+n % 64)] #[.int .u8 (224+z / 4096), .int .u8 (128+z / 64 % 64), .int .u8 (128+z % 64)] (by rw [v8_of (n:=224+n / 4096) (by omega) _ (by omega),v8_of (n:=128+n / 64 % 64) (by omega) _ (by omega),v8_of (n:=128+n % 64) (by omega) _ (by omega)];rfl) 3 rfl
  generalize [UInt8.ofNat (224+n / 4096),UInt8.ofNat (128+n / 64 % 64),UInt8.ofNat (128+n % 64)]=L at*
  clear hz hs hn h1 h2 h3
  go_enter Tryz.func147,Tryz.ntmps147
  go_wp2_with fail
  go_ret
  exact ⟨rfl,HB.out _⟩
 ·rw [if_neg h1,if_neg h2,if_neg h3]
  have i1:65536≤z:=by omega
  have hcv:=conv_const w [UInt8.ofNat (240+n / 262144),UInt8.ofNat (128+n / 4096 % 64),UInt8.ofNat (128+n / 64 % 64),UInt8.ofNat (128+n % 64)] #[.int .u8 (240+z / 262144), .int .u8 (128+z / 4096 % 64), .int .u8 (128+z / 64 % 64), .int .u8 (128+z % 64)] (by rw [v8_of (n:=240+n / 262144) (by omega) _ (by omega),v8_of (n:=128+n / 4096 % 64) (by omega) _ (by omega),v8_of (n:=128+n / 64 % 64) (by omega) _ (by omega),v8_of (n:=128+n % 64) (by omega) _ (by omega)];rfl) 4 rfl
  generalize [UInt8.ofNat (240+n / 262144),UInt8.ofNat (128+n / 4096 % 64),UInt8.ofNat (128+n / 64 % 64),UInt8.ofNat (128+n % 64)]=L at*
  clear hz hs hn h1 h2 h3
  go_enter Tryz.func147,Tryz.ntmps147
  go_wp2_with fail
  go_ret
  exact ⟨rfl,HB.out _⟩
namespace Jt
theorem hexs_cut {d:Nat} (h:d < 16):(⟨#[48,49,50,51,52,53,54,55,56,57,97,98,99,100,101,102]⟩:ByteArray).extract d (d+1)=sb [hexd d]:=by
 have e:=sb_cut hexs d (d+1)
 have e2:(hexs.take (d+1)).drop d=[hexd d]:=by
  have:∀d:Fin 16,(hexs.take (d.1+1)).drop d.1=[hexd d.1]:=by decide
  exact this ⟨d,h⟩
 rw [e2]at e
 exact e
def shorts:List Nat:=[8,9,10,12,13,34]
def shsigns:List UInt8:=[98,116,110,102,114,34]
theorem one_short {j:Nat} (h:j < 6) {n:Nat} (e:n=shorts.getD j 0):oneF n=[92,shsigns.getD j 0]:=by
 subst e
 have:∀j:Fin 6,oneF (shorts.getD j.1 0)=[92,shsigns.getD j.1 0]:=by decide
 exact this ⟨j,h⟩
theorem one_else {n:Nat} (h:∀j,j < 6→n≠shorts.getD j 0):oneF n=if n=92 then [92,92] else if n < 32 then [92,117,48,48,hexd (n / 16),hexd (n % 16)] else bytesF n:=by
 have h0:n≠8:=h 0 (by decide)
 have h1:n≠9:=h 1 (by decide)
 have h2:n≠10:=h 2 (by decide)
 have h3:n≠12:=h 3 (by decide)
 have h4:n≠13:=h 4 (by decide)
 have h5:n≠34:=h 5 (by decide)
 unfold oneF
 rw [if_neg h0,if_neg h1,if_neg h2,if_neg h3,if_neg h4,if_neg h5]
end Jt
set_option maxRecDepth 100000 in
set_option maxHeartbeats 4000000 in
theorem jt_one (w:World) (n:Nat) (hn:n < 128):Calls Tryz.prog 148 #[.int .i64 (n:Int)] w fun e w'=> e= .returned (.string (sb (oneF n)))∧Below w.heap.size w w':=by
 obtain ⟨z,hz⟩:∃z:Int,z=(n:Int):=⟨_,rfl⟩
 rw [←hz]
 have hz0:0≤z:=by omega
 have hz1:z < 128:=by omega
 have HZ:=Lib.hid hz
 have HB0:=Lib.hid ((Below.refl w.heap.size w).alloc (Nat.le_refl _) (.cells #[.int .i64 8, .int .i64 9, .int .i64 10, .int .i64 12, .int .i64 13, .int .i64 34] 197))
 have HR:=Lib.hid (Row.new w 197 [.int .i64 8, .int .i64 9, .int .i64 10, .int .i64 12, .int .i64 13, .int .i64 34])
 clear hz
 go_enter Tryz.func148,Tryz.ntmps148
 go_wp2_with fail
 generalize hw1:w.alloc (.cells #[.int .i64 8, .int .i64 9, .int .i64 10, .int .i64 12, .int .i64 13, .int .i64 34] 197)=w1 at*
 clear hw1
 go_loopg [5] 6 (fun g vi wx=> ∃j:Nat,j+g=6∧vi= .int .i64 (j:Int)∧wx=w1∧Hid (∀i,i < j→n≠shorts.getD i 0))
 case atStart=> exact ⟨0,by omega,rfl,rfl,Lib.hid (fun i h=> absurd h (Nat.not_lt_zero _))⟩
 case round=>
  obtain ⟨j,hjg,rfl,rfl,HJ⟩:=hrel
  have HB:=Lib.hid (fun (C:Array Value)=> HB0.out.trans ((Below.refl w.heap.size wr).alloc HB0.out.size (.cells C 5)))
  cases gk with
  | zero=>
   obtain rfl:j=6:=by omega
   have he:=one_else (n:=n) HJ.out
   by_cases h92:n=92
   ·have HE:=Lib.hid (show oneF n=[92,92]from by rw [he,if_pos h92])
    have hz92:z=92:=by have:=HZ.out;omega
    have hcv:=conv_const wr [92,92] #[.int .u8 92, .int .u8 92] rfl 2 rfl
    subst hz92
    clear he h92
    go_wp2_with fail
    go_ret
    exact ⟨by rw [HE.out];rfl,HB.out _⟩
   by_cases h32:n < 32
   ·have HE:=Lib.hid (show oneF n=[92,117,48,48,hexd (n / 16),hexd (n % 16)]from by rw [he,if_neg h92,if_pos h32])
    have hz92:¬z=92:=by have:=HZ.out;omega
    have hz32:z < 32:=by have:=HZ.out;omega
    clear he h92
    have HI1:=Lib.hid (show (z / 16).toNat=n / 16∧(z / 16+1).toNat=n / 16+1∧(z % 16).toNat=n % 16∧(z % 16+1).toNat=n % 16+1 from by have:=HZ.out;omega)
    have hcA:=hexs_cut (d:=n / 16) (by omega)
    have hcB:=hexs_cut (d:=n % 16) (by omega)
    obtain ⟨q,hq⟩:∃q,q=n / 16:=⟨_,rfl⟩
    obtain ⟨m,hm⟩:∃m,m=n % 16:=⟨_,rfl⟩
    rw [←hq]at hcA HE HI1
    rw [←hm]at hcB HE HI1
    have hq1:z / 16=(q:Int):=by have:=HZ.out;omega
    have hm1:z % 16=(m:Int):=by have:=HZ.out;omega
    obtain ⟨q2,hq2⟩:∃q2,q2=q+1:=⟨_,rfl⟩
    obtain ⟨m2,hm2⟩:∃m2,m2=m+1:=⟨_,rfl⟩
    rw [←hq2]at hcA
    rw [←hm2]at hcB
    have hq3:IntKind.i64.wrap ((q:Int)+1)=(q2:Int):=by rw [IntKind.wrap_i64];omega
    have hm3:IntKind.i64.wrap ((m:Int)+1)=(m2:Int):=by rw [IntKind.wrap_i64];omega
    have iq1:(q:Int)≤(q2:Int):=by omega
    have iq2:(q2:Int)≤16:=by omega
    have im1:(m:Int)≤(m2:Int):=by omega
    have im2:(m2:Int)≤16:=by omega
    have hcv:(convert 22 9 (.slice (some ⟨wr.heap.size,0,none⟩) 1 1)).run Tryz.prog (wr.alloc (.cells #[.int .u8 92] 5)).drew= .ok (.string (sb [92])) (wr.alloc (.cells #[.int .u8 92] 5)).drew:=conv_const wr.drew [92] #[.int .u8 92] rfl 1 rfl
    have ha1:sb [92]++(⟨#[117,48,48]⟩:ByteArray)=sb [92,117,48,48]:=sb_app [92] [117,48,48]
    have ha2:sb [92,117,48,48]++sb [hexd q]=sb [92,117,48,48,hexd q]:=sb_app _ _
    have ha3:sb [92,117,48,48,hexd q]++sb [hexd m]=sb [92,117,48,48,hexd q,hexd m]:=sb_app _ _
    have hs1:(sb [92]).size=1:=rfl
    have hs2:(sb [92,117,48,48]).size=4:=rfl
    have hs3:(sb [hexd q]).size=1:=rfl
    have hs4:(sb [92,117,48,48,hexd q]).size=5:=rfl
    have hs5:(sb [hexd m]).size=1:=rfl
    clear hq hm hq2 hm2 h32 hn
    generalize sb [92]=A1 at*
    generalize sb [92,117,48,48]=A2 at*
    generalize sb [hexd q]=A3 at*
    generalize sb [92,117,48,48,hexd q]=A4 at*
    generalize sb [hexd m]=A5 at*
    go_upto_region 11 with fail
    go_region
    go_wp2_with fail
    go_ret
    exact ⟨by rw [HE.out];rfl,below_drewN (HB.out _) 1⟩
   ·have HE:=Lib.hid (show oneF n=bytesF n from by rw [he,if_neg h92,if_neg h32])
    have hz92:¬z=92:=by have:=HZ.out;omega
    have hz32:¬z < 32:=by have:=HZ.out;omega
    have HC:=Lib.hid (jt_bytes wr n (scalar_is.2 (by omega)))
    rw [←HZ.out]at HC
    clear he h92 h32 hn
    go_wp2_with fail
    refine HC.out.mono ?_
    rintro e w2 ⟨rfl,B2⟩
    have HB2:=Lib.hid (HB0.out.trans (B2.mono HB0.out.size))
    clear B2
    go_wp2_with fail
    go_ret
    exact ⟨by rw [HE.out];rfl,HB2.out⟩
  | succ g=>
   have hj:j < 6:=by omega
   have hcell:=HR.out.cell (i:=j) (v:= .int .i64 (shorts.getD j 0:Nat)) (by
    match j,hj with
    | 0,_=> rfl
    | 1,_=> rfl
    | 2,_=> rfl
    | 3,_=> rfl
    | 4,_=> rfl
    | 5,_=> rfl)
   by_cases he:n=shorts.getD j 0
   ·have HE:=Lib.hid (one_short hj he)
    have hx:((shorts.getD j 0:Nat):Int)=z:=by have:=HZ.out;omega
    rw [hx]at hcell
    have hsx:∀W,(Instr.index 9 (.string ⟨#[98,116,110,102,114,34]⟩) (.int .i64 (j:Int))).run Tryz.prog W= .ok (.int .u8 (n8 (shsigns.getD j 0))) W:=fun W=> by
     have:=sb_index shsigns j hj W
     rw [show shsigns[j]'hj=shsigns.getD j 0 from by rw [List.getD_eq_getElem?_getD,List.getElem?_eq_getElem hj];rfl]at this
     exact this
    have hcv:=conv_const wr [92,shsigns.getD j 0] #[.int .u8 92, .int .u8 (n8 (shsigns.getD j 0))] rfl 2 rfl
    clear he hx hn
    generalize shsigns.getD j 0=c at*
    have hj2:(j:Int) < 6:=by omega
    go_wp2_with fail
    go_ret
    exact ⟨by rw [HE.out];rfl,HB.out _⟩
   ·have hx:¬((shorts.getD j 0:Nat):Int)=z:=by have:=HZ.out;omega
    have HJ2:=Lib.hid (show ∀i,i < j+1→n≠shorts.getD i 0 from fun i hi=> by
     rcases Nat.lt_or_eq_of_le (Nat.le_of_lt_succ hi)with h | rfl
     ·exact HJ.out i h
     ·exact he)
    generalize ((shorts.getD j 0:Nat):Int)=y at*
    have hj2:(j:Int) < 6:=by omega
    clear he hn
    go_wp2_with fail
    go_roundg g
    case measure=> omega
    case rel=> exact ⟨j+1,by omega,by go_num,rfl,HJ2⟩
end Go.Proofs.YtgmangikcfakgaaGreatDoor
