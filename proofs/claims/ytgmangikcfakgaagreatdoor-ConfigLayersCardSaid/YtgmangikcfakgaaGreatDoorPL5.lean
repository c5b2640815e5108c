import Derived.Lib.Strings
import Derived.Lib.Bytealg
namespace Go.Proofs.YtgmangikcfakgaaGreatDoor
open Go
namespace Dg
def hexs:List UInt8:=[48,49,50,51,52,53,54,55,56,57,97,98,99,100,101,102]
def hx (k:Nat):UInt8:=hexs.getD k 0
def pairs:List UInt8→List UInt8
 | []=> []
 | b::l=> hx (b.toNat / 16)::hx (b.toNat % 16)::pairs l
def pre:List UInt8:=[115,104,97,50,53,54,58]
def text (d:List UInt8):List UInt8:=pre++pairs d
def val (c:UInt8):Int:=Lib.indexByte hexs c
def byteOf (a b:UInt8):UInt8:=UInt8.ofNat (16*(val a).toNat+(val b).toNat)
def unpair:List UInt8→Option (List UInt8)
 | []=> some []
 | [_]=> none
 | a::b::l=> if val a < 0∨val b < 0 then none else (unpair l).map (byteOf a b::·)
def parse (s:List UInt8):Option (List UInt8):=if Lib.hasPrefix s pre=true∧(Lib.trimPrefix s pre).length=64 then unpair (Lib.trimPrefix s pre) else none
def less:List UInt8→List UInt8→Bool
 | a::l,b::r=> if a=b then less l r else decide (a < b)
 | _,_=> false
theorem of_lt256 {p:UInt8→Prop} (h:∀n,n < 256→p (UInt8.ofNat n)) (c:UInt8):p c:=by
 have:=h c.toNat c.toNat_lt
 rwa [UInt8.ofNat_toNat]at this
theorem val_hx:∀k,k < 16→val (hx k)=k:=by decide+kernel
theorem val_range (c:UInt8): -1≤val c∧val c < 16:=of_lt256 (p:=fun c=> -1≤val c∧val c < 16) (by decide+kernel) c
theorem hx_val (c:UInt8):0≤val c→hx (val c).toNat=c:=of_lt256 (p:=fun c=> 0≤val c→hx (val c).toNat=c) (by decide+kernel) c
theorem pairs_length (d:List UInt8):(pairs d).length=2*d.length:=by
 induction d with
 | nil=> rfl
 | cons b l ih=> simp only [pairs,List.length_cons,ih];omega
theorem pairs_append (a b:List UInt8):pairs (a++b)=pairs a++pairs b:=by
 induction a with
 | nil=> rfl
 | cons x l ih=> simp only [List.cons_append,pairs,ih]
theorem text_length (d:List UInt8):(text d).length=7+2*d.length:=by
 rw [text,List.length_append,pairs_length];rfl
theorem unpair_pairs (d:List UInt8):unpair (pairs d)=some d:=by
 induction d with
 | nil=> rfl
 | cons b l ih=>
  have hb:=b.toNat_lt
  have h1:=val_hx (b.toNat / 16) (by omega)
  have h2:=val_hx (b.toNat % 16) (by omega)
  simp only [pairs,unpair]
  rw [if_neg (by omega),ih,Option.map_some,byteOf,h1,h2]
  congr 2
  rw [Int.toNat_natCast,Int.toNat_natCast,Nat.div_add_mod,UInt8.ofNat_toNat]
theorem pairs_unpair:∀(t d:List UInt8),unpair t=some d→pairs d=t
 | [],d,h=> by simp only [unpair,Option.some.injEq]at h;subst h;rfl
 | [_],d,h=> by simp [unpair]at h
 | a::b::l,d,h=> by
  unfold unpair at h
  split at h
  ·cases h
  ·rename_i hn
   obtain ⟨d',h1,h2⟩:=Option.map_eq_some_iff.1 h
   subst h2
   have ih:=pairs_unpair l d' h1
   have ra:=val_range a
   have rb:=val_range b
   have e:(byteOf a b).toNat=16*(val a).toNat+(val b).toNat:=by
    rw [byteOf,UInt8.toNat_ofNat'];omega
   simp only [pairs]
   rw [ih,e,show (16*(val a).toNat+(val b).toNat) / 16=(val a).toNat by omega,show (16*(val a).toNat+(val b).toNat) % 16=(val b).toNat by omega,hx_val a (by omega),hx_val b (by omega)]
theorem hasPrefix_iff (s:List UInt8):Lib.hasPrefix s pre=true↔∃t,s=pre++t:=by
 unfold Lib.hasPrefix
 rw [List.isPrefixOf_iff_prefix]
 exact ⟨fun ⟨t,h⟩=> ⟨t,h.symm⟩,fun ⟨t,h⟩=> ⟨t,h.symm⟩⟩
theorem trim_pre (t:List UInt8):Lib.trimPrefix (pre++t) pre=t:=by
 rw [Lib.trimPrefix,if_pos ((hasPrefix_iff _).2 ⟨t,rfl⟩),List.drop_left]
theorem parse_pre (t:List UInt8):parse (pre++t)=if t.length=64 then unpair t else none:=by
 rw [parse,trim_pre]
 by_cases h:t.length=64
 ·rw [if_pos ⟨(hasPrefix_iff _).2 ⟨t,rfl⟩,h⟩,if_pos h]
 ·rw [if_neg (fun hh=> h hh.2),if_neg h]
theorem parse_some {s d:List UInt8} (h:parse s=some d):text d=s∧d.length=32:=by
 unfold parse at h
 split at h
 ·rename_i hc
  obtain ⟨t,rfl⟩:=(hasPrefix_iff s).1 hc.1
  rw [trim_pre]at h hc
  have hp:=pairs_unpair t d h
  refine ⟨by rw [text,hp], ?_⟩
  have:=pairs_length d
  rw [hp,hc.2]at this
  omega
 ·cases h
theorem parse_text (d:List UInt8) (h:d.length=32):parse (text d)=some d:=by
 rw [text,parse_pre,if_pos (by rw [pairs_length];omega),unpair_pairs]
end Dg
end Go.Proofs.YtgmangikcfakgaaGreatDoor
