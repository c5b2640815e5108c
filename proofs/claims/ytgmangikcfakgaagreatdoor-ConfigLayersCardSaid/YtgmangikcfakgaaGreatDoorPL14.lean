import Derived.Test.YtgmangikcfakgaaGreatDoorPL12
import Derived.WalkMore
namespace Go.Proofs.YtgmangikcfakgaaGreatDoor
open Go.RowKit Sh
namespace Jt
theorem marks_low:∀(i:Nat) (h:i < marks.length),(marks[i]).toNat < 128:=by decide
theorem marks_dec {i:Nat} (h:i < (sb marks).size):∃c,c < 128∧Utf8.decode (sb marks) i=(c,1):=by
 have h7:i < marks.length:=h
 have hl:=marks_low i h7
 refine ⟨(marks[i]).toNat,hl, ?_⟩
 rw [dec_at marks h7,charF,if_pos hl]
 rfl
theorem idx_no {l:List UInt8} {c:UInt8} (h:∀x∈l,x≠c):Lib.indexByte l c= -1:=by
 induction l with
 | nil=> rfl
 | cons a r ih=>
  rw [Lib.indexByte,beq_eq_false_iff_ne.2 (h a (List.mem_cons_self ..)),ih (fun x hx=> h x (List.mem_cons_of_mem _ hx))]
  rfl
theorem bytes_last {n:Nat} (hn:scalar n=true) (h:128≤n):∃m,m+1=(bytesF n).length∧1≤m∧m≤3∧∃c,(bytesF n)[m]? =some c∧128≤c.toNat:=by
 have hs:=scalar_is.1 hn
 unfold bytesF
 rw [if_neg (by omega)]
 split
 ·exact ⟨1,rfl,Nat.le_refl _,by omega,_,rfl,by rw [toN _ (by omega)];omega⟩
 split
 ·exact ⟨2,rfl,by omega,by omega,_,rfl,by rw [toN _ (by omega)];omega⟩
 ·exact ⟨3,rfl,by omega,by omega,_,rfl,by rw [toN _ (by omega)];omega⟩
theorem valid_is {n:Nat} (hn:scalar n=true):Lib.validRune (n:Int)=true:=by
 have hs:=scalar_is.1 hn
 unfold Lib.validRune
 simp
 omega
end Jt
open Jt
set_option maxRecDepth 100000 in
set_option maxHeartbeats 2000000 in
theorem jt_irune_bad (w:World):Calls Tryz.prog 144 #[.string (sb marks), .int .i32 65533] w fun e w'=> e= .returned (.int .i64 (-1))∧∃o,w'=w.alloc o:=by
 have HM:=Lib.hid (fun (i:Nat) (h:i < (sb marks).size)=> marks_dec h)
 generalize sb marks=S at*
 go_enter Tryz.func144,Tryz.ntmps144
 go_wp2_with fail
 go_loopg [5,6] S.size (fun g _ _ wx=> ∃i:Nat,i+g=S.size∧wx=w.iter S i)
 case atStart=> exact ⟨0,by omega,rfl⟩
 case round=>
  obtain ⟨i,hig,rfl⟩:=hrel
  cases gk with
  | zero=>
   obtain rfl:i=S.size:=by omega
   have hnx:=run_next_end (P:=Tryz.prog) w S S.size
   go_wp2_with fail
   go_ret
   exact ⟨rfl,_,rfl⟩
  | succ g=>
   have hi:i < S.size:=by omega
   obtain ⟨c,hc,hd⟩:=HM.out i hi
   have hnx:=fun ty=> run_next_any (P:=Tryz.prog) w S i ty hi
   rw [hd]at hnx
   have hne:¬(c:Int)=65533:=by omega
   clear hd
   go_wp2_with fail
   go_roundg g
   case measure=> omega
   case rel=> exact ⟨i+1,by omega,rfl⟩
set_option maxRecDepth 100000 in
set_option maxHeartbeats 4000000 in
theorem jt_irune_wide (w:World) {n:Nat} (hn:scalar n=true) (h1:128≤n) (h2:n≠65533):Calls Tryz.prog 144 #[.string (sb marks), .int .i32 (n:Int)] w fun e w'=> e= .returned (.int .i64 (-1))∧Below w.heap.size w w':=by
 have hs:=scalar_is.1 hn
 obtain ⟨m,hm,hm1,hm3,c,hc,hc1⟩:=bytes_last hn h1
 have hcL:(bytesF n)[m]'(by omega)=c:=by
  have:=List.getElem?_eq_getElem (show m < (bytesF n).length by omega)
  rw [this]at hc
  exact Option.some.inj hc
 have hix1:=fun W=> sb_index (bytesF n) m (by omega) W
 rw [hcL]at hix1
 have h7:m < marks.length:=by show m < 7;omega
 have hix2:=fun W=> sb_index marks m h7 W
 have hlow:=marks_low m h7
 have HV:=Lib.hid (fun W=> Tryz.utf8_ValidRune (n:Int) W)
 rw [valid_is hn]at HV
 have HI:=Lib.hid (fun W=> idx_sb (marks.drop (m+1)) c W)
 rw [idx_no (fun x hx e=> by
  have hx2:=List.mem_of_mem_drop hx
  obtain ⟨j,hj,e2⟩:=List.getElem_of_mem hx2
  have:=marks_low j hj
  rw [e2,e]at this
  omega)]at HI
 have hcut:=sb_cut marks (m+1) marks.length
 rw [List.take_length]at hcut
 have hen:=encode_is hn
 have hsz:(sb (bytesF n)).size=m+1:=by rw [sb_size];omega
 change Utf8.encode (n:Int)=sb (bytesF n)at hen
 have hsz2:(sb marks).size=7:=rfl
 change (sb marks).extract (m+1) 7=_ at hcut
 have hne:¬n8 (marks[m])=n8 c:=by unfold n8;omega
 generalize n8 (marks[m])=d at*
 clear hcL hc
 generalize sb (bytesF n)=R at*
 generalize sb (marks.drop (m+1))=Z at*
 generalize sb marks=S at*
 generalize n8 c=c8 at*
 have i1:128≤(n:Int):=by omega
 have i2:¬(n:Int)=65533:=by omega
 have i3:(n:Int)≤1114111:=by omega
 obtain ⟨m1,hm1'⟩:∃m1,m1=m+1:=⟨_,rfl⟩
 have hwr:IntKind.i64.wrap ((m:Int)+1)=(m1:Int):=by
  rw [IntKind.wrap_i64]
  omega
 have hm17:(m1:Int)≤7:=by omega
 rw [←hm1']at hcut
 have HIm:=Lib.hid hm1'
 clear hm1'
 clear hlow hc1 hm h7 hs h1 h2 hn
 generalize (n:Int)=z at*
 have hcv:∀W,(convert 21 9 (.int .i32 z)).run Tryz.prog W= .ok (.string R) W:=fun W=> by
  rw [←hen]
  exact run_convert_int_string W _ _ _ _ (by rw [Tryz.underlying21];rfl) Tryz.underlying9
 clear hen
 go_enter Tryz.func144,Tryz.ntmps144
 go_wp2_with fail
 refine (HV.out _).mono ?_
 rintro e w1 ⟨rfl,rfl⟩
 go_wp2_with fail
 go_step3
 go_wp2_with fail
 go_loopg [9,10] 0 (fun _ vi vf wx=> vi= .int .i64 m∧vf= .int .i64 0∧wx=w1)
 case atStart=> exact ⟨by go_num,rfl,rfl⟩
 case round=>
  obtain ⟨rfl,rfl,rfl⟩:=hrel
  go_wp2_with fail
  go_step3
  go_upto_region 6 with fail
  go_quiet (fail)
  go_upto_region 7 with fail
  go_quiet (first | exact quiet_eq (HI.out _) | fail)
  go_wp2_with fail
  simp only [Exit.noGoto_ret,Exit.then,Exit.inBlock]
  go_ret
  exact ⟨rfl,below_drewN (Below.refl _ _) _⟩
theorem jt_irune (w:World) {n:Nat} (hn:scalar n=true):Calls Tryz.prog 144 #[.string (sb marks), .int .i32 (n:Int)] w fun e w'=>
  e= .returned (.int .i64 (if n < 128 then Lib.indexByte marks (UInt8.ofNat n) else -1))∧Below w.heap.size w w':=by
 by_cases h1:n < 128
 ·rw [if_pos h1]
  refine (Tryz.strings_IndexRune_ascii (sb marks) (n:Int) w (by omega) (by omega)).mono ?_
  rintro e w' ⟨rfl,rfl⟩
  refine ⟨?_,Below.refl _ _⟩
  rw [Int.toNat_natCast]
  rfl
 ·rw [if_neg h1]
  by_cases h2:n=65533
  ·subst h2
   refine (jt_irune_bad w).mono ?_
   rintro e w' ⟨rfl,o,rfl⟩
   exact ⟨rfl,(Below.refl _ _).alloc (Nat.le_refl _) _⟩
  ·exact jt_irune_wide w hn (by omega) h2
end Go.Proofs.YtgmangikcfakgaaGreatDoor
namespace Go.Proofs.YtgmangikcfakgaaGreatDoor
open Go.RowKit Sh
namespace Jt
def hexs:List UInt8:=[48,49,50,51,52,53,54,55,56,57,97,98,99,100,101,102]
theorem hexs_at:∀d:Nat,(h:d < 16)→hexs[d]'h=hexd d:=by
 have:∀d:Fin 16,hexs[d.1]'d.2=hexd d.1:=by decide
 exact fun d h=> this ⟨d,h⟩
theorem hexs_get (d:Nat) (h:d < 16) (hx:d < (⟨#[48,49,50,51,52,53,54,55,56,57,97,98,99,100,101,102]⟩:ByteArray).size):((((⟨#[48,49,50,51,52,53,54,55,56,57,97,98,99,100,101,102]⟩:ByteArray)[d]'hx).toNat:Nat):Int)=n8 (hexd d):=
 congrArg n8 (hexs_at d h)
theorem let_index {j:Nat} (h:j < 8) (W:World):(Instr.index 9 (.string (sb lets)) (.int .i64 (j:Int))).run Tryz.prog W= .ok (.int .u8 (n8 (lets.getD j 0))) W:=by
 rw [sb_index lets j h W]
 congr 4
 rw [List.getD_eq_getElem?_getD,List.getElem?_eq_getElem h]
 rfl
theorem one_len {n:Nat} (h:n < 128):(oneF n).length≤6:=by
 have:∀n:Fin 128,(oneF n.1).length≤6:=by decide
 exact this ⟨n,h⟩
theorem q_len (n:Nat):(qF n).length≤6:=by
 unfold qF
 split
 ·exact one_len (by assumption)
 ·unfold bytesF
  split
  ·exact Nat.le_of_ble_eq_true rfl
  split
  ·exact Nat.le_of_ble_eq_true rfl
  split
  ·exact Nat.le_of_ble_eq_true rfl
  ·exact Nat.le_of_ble_eq_true rfl
theorem bytes_len (n:Nat):(bytesF n).length≤4:=by
 unfold bytesF
 split
 ·exact Nat.le_of_ble_eq_true rfl
 split
 ·exact Nat.le_of_ble_eq_true rfl
 split
 ·exact Nat.le_of_ble_eq_true rfl
 ·exact Nat.le_of_ble_eq_true rfl
structure Mid (w:World) (b k:Nat) (l acc:List UInt8) (pos:Nat) (wr:World):Prop where
 bld:Bld b acc wr
 it:wr.heap[k]? =some (.stringIter (sb l) pos)
 bk:b < k
 low:Below b w wr
namespace Mid
variable {w wr w':World} {b k pos:Nat} {l acc:List UInt8}
theorem lt (h:Mid w b k l acc pos wr):b≤wr.heap.size:=by
 have:=(Array.getElem?_eq_some_iff.1 h.it).1
 have:=h.bk
 omega
theorem wrote (h:Mid w b k l acc pos wr) {acc':List UInt8} (W:Wrote b acc' wr w'):Mid w b k l acc' pos w':=
 ⟨W.bld,W.kept.iter h.it (fun e=> absurd h.bk (by rw [e];exact Nat.lt_irrefl _)),h.bk,h.low.trans W.below⟩
theorem still (h:Mid w b k l acc pos wr) (hb:Below wr.heap.size wr w'):Mid w b k l acc pos w':=
 ⟨h.bld.below hb,heap_below h.it hb,h.bk,h.low.trans (hb.mono h.lt)⟩
theorem next (h:Mid w b k l acc pos wr) (p:Nat):Mid w b k l acc p (wr.iterAt k (sb l) p):=
 ⟨h.bld.iterAt h.it p,Lib.iterAt_heap wr k (sb l) pos p h.it,h.bk,Lib.below_iterAt h.low (Nat.le_of_lt h.bk) (sb l) p⟩
end Mid
structure QSt (w:World) (b k:Nat) (l acc:List UInt8) (pos:Nat) (wr:World):Prop where
 mid:Mid w b k l acc pos wr
 quo:acc++quoteB (l.drop pos)=34::quoteB l
 len:acc.length≤6*pos+1
theorem QSt.on {w wr w':World} {b k pos n j:Nat} {l acc:List UInt8} (h:QSt w b k l acc pos wr) (hj:1≤j) (hq:quoteB (l.drop pos)=qF n++quoteB (l.drop (pos+j))) (m:Mid w b k l (acc++qF n) (pos+j) w'):QSt w b k l (acc++qF n) (pos+j) w':=by
 refine ⟨m, ?_, ?_⟩
 ·rw [List.append_assoc,←hq,h.quo]
 ·have h1:=h.len
  have h2:=q_len n
  rw [List.length_append]
  omega
end Jt
open Jt
set_option maxRecDepth 100000 in
set_option maxHeartbeats 4000000 in
theorem jt_quote (w:World) (l:List UInt8) (hl:l.length≤1000000000):Calls Tryz.prog 108 #[.string (sb l)] w fun e w'=> e= .returned (.string (sb (quoteF l)))∧Below w.heap.size w w':=by
 have HD:=Lib.hid (fun (i:Nat) (h:i < l.length)=> dec_at l h)
 have HT:=Lib.hid (fun (i:Nat) (h:i < l.length)=> told_is (at_of l h))
 have HQ:=Lib.hid (fun (i:Nat) (h:i < l.length)=> quote_step (at_of l h))
 have hsz:=sb_size l
 have hcut:(⟨#[34,92,8,12,10,13,9,47]⟩:ByteArray).extract 0 7=sb marks:=sb_cut means 0 7
 go_enter Tryz.func108,Tryz.ntmps108
 go_wp2_with fail
 have HB:=bld_byte (Bld.fresh w) (by simp) (by simp) 34
 rw [show n8 34=34 from rfl]at HB
 refine HB.mono ?_
 rintro e w1 ⟨rfl,W1⟩
 have HW1:=Lib.hid W1
 clear W1 HB
 go_wp2_with fail
 go_loopg [] l.length (fun g wx=> ∃(pos:Nat) (acc:List UInt8),pos+g=l.length∧Hid (QSt w w.heap.size w1.heap.size l acc pos wx))
 case atStart=>
  refine ⟨0,[34],by omega,Lib.hid ⟨⟨HW1.out.bld.alloc _,World.iter_heap w1 (sb l) 0, ?_,((((Below.refl _ w).alloc (Nat.le_refl _) _).trans HW1.out.below).alloc ?_ _)⟩,rfl,by simp⟩⟩
  ·have:=HW1.out.below.size
   rw [World.size_alloc]at this
   omega
  ·have:=HW1.out.below.size
   rw [World.size_alloc]at this
   omega
 case round=>
  obtain ⟨pos,acc,hpg,HS⟩:=hrel
  have hit:=HS.out.mid.it
  cases gk with
  | zero=>
   obtain rfl:pos=l.length:=by omega
   have hnx:=fun ty=> Lib.run_next_end_at (P:=Tryz.prog) wr w1.heap.size (sb l) l.length ty hit (by rw [hsz];omega)
   have HO:=Lib.hid (bld_byte HS.out.mid.bld (by have:=HS.out.len;omega) HS.out.mid.lt 34)
   rw [show n8 34=34 from rfl]at HO
   have HF:=Lib.hid (show acc++[34]=quoteF l from by
    have h:=HS.out.quo
    rw [List.drop_length,quote_nil,List.append_nil]at h
    rw [h]
    rfl)
   have HL:=Lib.hid HS.out.mid.low
   have HLT:=Lib.hid HS.out.mid.lt
   clear hit HS HD HT HQ HW1 hcut hsz
   generalize sb l=S at*
   go_wp2_with fail
   refine HO.out.mono ?_
   rintro e w2 ⟨rfl,W2⟩
   have HW:=Lib.hid W2
   clear W2
   go_wp2_with fail
   refine (bld_out HW.out.bld (Nat.le_trans HLT.out HW.out.below.size)).mono ?_
   rintro e w3 ⟨rfl,B3⟩
   have HB3:=Lib.hid B3
   clear B3
   go_wp2_with fail
   go_ret
   exact ⟨by rw [HF.out];rfl,(HL.out.trans HW.out.below).trans HB3.out⟩
  | succ g=>
   have hlt:pos < l.length:=by omega
   have hd:=HD.out pos hlt
   have T:=HT.out pos hlt
   have hq:=HQ.out pos hlt
   have hnx:=fun ty=> Lib.run_next_any_at (P:=Tryz.prog) wr w1.heap.size (sb l) pos ty hit (by rw [hsz];exact hlt)
   rw [hd]at hnx
   obtain ⟨n,j,hnj⟩:∃n j,orBad (charF (l[pos]::l.drop (pos+1)))=(n,j):=⟨_,_,rfl⟩
   rw [hnj]at T hq hnx
   dsimp only at T hq hnx
   have HN:=Lib.hid (fun (w':World) (m:Mid w w.heap.size w1.heap.size l (acc++qF n) (pos+j) w')=> HS.out.on T.pos hq m)
   have HM2:=Lib.hid (HS.out.mid.next (pos+j))
   have hlen:acc.length≤100000000000:=by have:=HS.out.len;omega
   have HLEN:=Lib.hid (show acc.length≤10000000000 by have:=HS.out.len;omega)
   have HI:=Lib.hid (fun W=> jt_irune W T.ok)
   have hj:=T.pos
   have hjl:=T.le
   have HT1:=Lib.hid T.ok
   have hn0:(0:Int)≤(n:Int):=by omega
   clear hd hq HD HT HQ hnj T HS hit
   generalize hw2:wr.iterAt w1.heap.size (sb l) (pos+j)=w2 at hnx HM2
   go_wp2_with fail
   refine (HI.out w2).mono ?_
   rintro e w3 ⟨rfl,B3⟩
   have HM3:=Lib.hid (HM2.out.still B3)
   clear B3 HM2 hnx hw2 HI
   by_cases h128:n < 128
   ·rw [if_pos h128]
    have O:=one_is h128
    generalize Lib.indexByte marks (UInt8.ofNat n)=z at*
    have hq1:qF n=oneF n:=if_pos h128
    by_cases hz:z= -1
    ·subst hz
     by_cases h32:n < 32
     ·have HE:=Lib.hid (hq1.trans (O.hex rfl h32))
      clear hq1 O
      have hi32:(n:Int) < 32:=by omega
      go_wp2_with fail
      refine (bld_str HM3.out.bld hlen HM3.out.lt [92,117,48,48] (by simp)).mono ?_
      rintro e w4 ⟨rfl,W4⟩
      have HM4:=Lib.hid (HM3.out.wrote W4)
      clear W4
      go_wp2_with fail
      rw [hexs_get (n / 16) (by omega)]
      refine (bld_byte HM4.out.bld (by simp;have:=HLEN.out;omega) HM4.out.lt (hexd (n / 16))).mono ?_
      rintro e w5 ⟨rfl,W5⟩
      have HM5:=Lib.hid (HM4.out.wrote W5)
      clear W5
      go_wp2_with fail
      rw [hexs_get (n % 16) (by omega)]
      refine (bld_byte HM5.out.bld (by simp;have:=HLEN.out;omega) HM5.out.lt (hexd (n % 16))).mono ?_
      rintro e w6 ⟨rfl,W6⟩
      have HQ6:=Lib.hid (HN.out w6 (by rw [HE.out];have:=HM5.out.wrote W6;rw [List.append_assoc,List.append_assoc]at this;exact this))
      clear W6
      go_wp2_with fail
      go_roundg (g+1 - j)
      case measure=> omega
      case rel=> exact ⟨pos+j,_,by omega,HQ6⟩
     ·have HQN:=Lib.hid (show qF n=bytesF n from by
       rw [hq1,O.no rfl h32]
       unfold bytesF
       rw [if_pos h128])
      clear hq1 O
      have hi32:¬(n:Int) < 32:=by omega
      go_wp2_with fail
      refine (bld_rune HM3.out.bld hlen HM3.out.lt HT1.out).mono ?_
      rintro e w4 ⟨⟨v,rfl⟩,W4⟩
      have HQ4:=Lib.hid (HN.out w4 (by rw [HQN.out];exact HM3.out.wrote W4))
      clear W4
      go_wp2_with fail
      go_roundg (g+1 - j)
      case measure=> omega
      case rel=> exact ⟨pos+j,_,by omega,HQ4⟩
    ·obtain ⟨m,rfl⟩:∃m:Nat,z=(m:Int):=⟨z.toNat,by have:=O.lo;omega⟩
     have hm:m < 8:=by have:=O.hi;omega
     have HE:=Lib.hid (hq1.trans (O.yes m rfl))
     have hix:∀W,(Instr.index 9 (.string ⟨#[34,92,98,102,110,114,116,47]⟩) (.int .i64 (m:Int))).run Tryz.prog W= .ok (.int .u8 (n8 (lets.getD m 0))) W:=fun W=> let_index hm W
     clear hq1 O
     generalize lets.getD m 0=c at*
     go_wp2_with fail
     refine (bld_byte HM3.out.bld hlen HM3.out.lt 92).mono ?_
     rintro e w4 ⟨rfl,W4⟩
     have HM4:=Lib.hid (HM3.out.wrote W4)
     clear W4
     go_wp2_with fail
     refine (bld_byte HM4.out.bld (by simp;have:=HLEN.out;omega) HM4.out.lt c).mono ?_
     rintro e w5 ⟨rfl,W5⟩
     have HQ5:=Lib.hid (HN.out w5 (by rw [HE.out];have:=HM4.out.wrote W5;rw [List.append_assoc]at this;exact this))
     clear W5
     go_wp2_with fail
     go_roundg (g+1 - j)
     case measure=> omega
     case rel=> exact ⟨pos+j,_,by omega,HQ5⟩
   ·rw [if_neg h128]
    have HQN:=Lib.hid (show qF n=bytesF n from if_neg h128)
    have hi32:¬(n:Int) < 32:=by omega
    go_wp2_with fail
    refine (bld_rune HM3.out.bld hlen HM3.out.lt HT1.out).mono ?_
    rintro e w4 ⟨⟨v,rfl⟩,W4⟩
    have HQ4:=Lib.hid (HN.out w4 (by rw [HQN.out];exact HM3.out.wrote W4))
    clear W4
    go_wp2_with fail
    go_roundg (g+1 - j)
    case measure=> omega
    case rel=> exact ⟨pos+j,_,by omega,HQ4⟩
end Go.Proofs.YtgmangikcfakgaaGreatDoor
namespace Go.Proofs.YtgmangikcfakgaaGreatDoor
open Go.RowKit Sh
namespace Jt
end Jt
open Jt
namespace Jt
end Jt
end Go.Proofs.YtgmangikcfakgaaGreatDoor
namespace Go.Proofs.YtgmangikcfakgaaGreatDoor
open Go.RowKit Sh
namespace Jt
def contF (n:Nat):Nat→List UInt8→Option Nat
 | 0,_=> some n
 | m+1,b::r=> if goes b=true then contF (n*64+(b.toNat - 128)) m r else none
 | _+1,[]=> none
end Jt
open Jt
end Go.Proofs.YtgmangikcfakgaaGreatDoor
namespace Go.Proofs.YtgmangikcfakgaaGreatDoor
open Go.RowKit Sh
namespace Jt
theorem drop_tail (a:UInt8) (r:List UInt8) (k:Nat) (h:1≤k):(a::r).drop k=r.drop (k - 1):=by
 obtain ⟨m,rfl⟩:∃m,k=m+1:=⟨k - 1,by omega⟩
 rfl
theorem char_len {a:UInt8} {r:List UInt8} (h:(charF (a::r)).2≠0):1≤(charF (a::r)).2∧(charF (a::r)).2≤(a::r).length:=by
 obtain ⟨_,h2,t,h3⟩:=char_is h
 have hl:=congrArg List.length h3
 rw [List.length_append]at hl
 omega
theorem quote_on {a:UInt8} {r:List UInt8} (h:(charF (a::r)).2≠0):quoteB (a::r)=(if (charF (a::r)).1 < 128 then oneF (charF (a::r)).1 else bytesF (charF (a::r)).1)++quoteB ((a::r).drop (charF (a::r)).2):=by
 conv=> lhs;rw [quoteB,if_neg h]
 rw [drop_tail a r _ (char_len h).1]
end Jt
open Jt
end Go.Proofs.YtgmangikcfakgaaGreatDoor
