/-
  A part of a proof. No conditions.
-/
import Derived.Test.YtllhobicfclheaaGreatDoorY22
namespace Go.Proofs.YtllhobicfclheaaGreatDoor
open Go.ChangeShapes Go.WideShapes Go.ChangeAt Go.RowKit
set_option linter.unusedVariables false
set_option maxRecDepth 100000
set_option maxHeartbeats 51200000
namespace G1
open Ms S1 Lk Nu
open Cur (numL)
open Oct (fitsB)
open Own (k7 k8 k9 k10 ownM isKind fieldsOf)
open F1 (bt d0b o0b o0g p0f putB putO okT encT enc1 ok1 outT placed)
def bare (m:M):Bool:=isKind m&&M.same m (ownM m)
theorem is_7 {m:M}(h:m.kind=7):isKind m=true∧ownM m={ k7 m with kind:=m.kind}:=by
 refine' qzp
theorem is_8 {m:M}(h:m.kind=8):isKind m=true∧ownM m={ k8 m with kind:=m.kind}:=by
 refine' qzp
theorem is_9 {m:M}(h:m.kind=9):isKind m=true∧ownM m={ k9 m with kind:=m.kind}:=by
 refine' qzp
theorem f0m {m:M}(h:m.kind=10):isKind m=true∧ownM m={ k10 m with kind:=m.kind}:=by
 refine' qzp
def nums (m:M):Bool:=fitsB m.nonce 2&&(fitsB m.interval 2&&(fitsB m.seq 2&&fitsB m.cost 2))
def sizeA (ae:Int):Nat:=if ae=1 then 4 else if ae=2 then 16 else if ae=3 then 8 else 0
def shB (ae:Int)(a:ByteArray):Bool:=if ae=3 then link a else decide (0≤ae∧ae≤3)&&decide (a.size=sizeA ae)
def shT (ae:Int)(a:ByteArray):ByteArray:=if ae=3 then shA a else if shB ae a then a else⟨#[]⟩
def lgT (ae:Int)(s:ByteArray):ByteArray:=if ae=3 then lgA s else s
def kindB (m:M):Bool:=if m.kind=7∨m.kind=8 then true else if m.kind=9 then decide (0≤m.flags∧m.flags≤1)else if m.kind=10 then shB m.ae m.addr else false
def okF (m:M):Bool:=bare m&&(okS m.sl&&(nums m&&kindB m))
def typF (m:M):Int:=if m.kind=7 then 2 else if m.kind=8 then 3 else if m.kind=9 then 4 else 5
def fld7 (m:M):List UInt8:=0::0::(layN m.nonce 2++layN m.interval 2)
def fld9 (m:M):List UInt8:=layN (m.flags*32768) 2++(layN m.seq 2++layN m.interval 2)
def t0h (m:M):List UInt8:=layN m.ae 1++(0::(layN m.cost 2++(layN m.interval 2++(shT m.ae m.addr).data.toList)))
def fldF (m:M):List UInt8:=if m.kind=7 then fld7 m else if m.kind=8 then layN m.nonce 2 else if m.kind=9 then fld9 m else t0h m
def datF (m:M):ByteArray:=⟨(fldF m++(putS m.sl).data.toList).toArray⟩
def putF (m:M):ByteArray:=if okF m then putO (typF m) (datF m)else⟨#[]⟩
theorem l0y {m:M}(h:okF m=true):putF m=putO (typF m) (datF m):=by unfold putF;rw[if_pos h]
theorem m1l {m:M}(h:okF m=false):putF m=⟨#[]⟩:=by unfold putF;rw[if_neg (by rw[h];exact Bool.false_ne_true)]
def num2 (d:ByteArray)(a:Nat):Int:=((numL ((d.data.toList.drop a).take 2):Nat):Int)
def hd2 (d:ByteArray):M:={ M.zero with kind:=7,nonce:=num2 d 2,interval:=num2 d 4}
def hd3 (d:ByteArray):M:={ M.zero with kind:=8,nonce:=num2 d 0}
def hd4 (d:ByteArray):M:={ M.zero with kind:=9,flags:=bt d 0 / 128,seq:=num2 d 2,interval:=num2 d 4}
def hd5 (d:ByteArray):M:={ M.zero with kind:=10,ae:=bt d 0,cost:=num2 d 2,interval:=num2 d 4,addr:=lgT (bt d 0) (d.extract 6 (6+sizeA (bt d 0)))}
def hdF (t:Int)(d:ByteArray):M:=if t=2 then hd2 d else if t=3 then hd3 d else if t=4 then hd4 d else hd5 d
def szF (t:Int)(d:ByteArray):Nat:=if t=3 then 2 else if t=5 then 6+sizeA (bt d 0)else 6
def noF (t:Int)(d:ByteArray):Prop:=t=5∧3<bt d 0
noncomputable def outF (t:Int)(d:ByteArray):M×Bool×Int:=
  open Classical in
  if d.size<szF t d then(M.zero,false,2)else if noF t d then(M.zero,false,0)
  else if(outS (d.extract (szF t d) d.size)).2.2=0∧(outS (d.extract (szF t d) d.size)).2.1=true then({ hdF t d with sl:=(outS (d.extract (szF t d) d.size)).1},true,0)
  else(M.zero,false,(outS (d.extract (szF t d) d.size)).2.2)
theorem x0e {t:Int}{d:ByteArray}(h:d.size<szF t d):outF t d=(M.zero,false,2):=by unfold outF;rw[if_pos h]
theorem b0k {t:Int}{d:ByteArray}(h:¬d.size<szF t d)(k:noF t d):outF t d=(M.zero,false,0):=by unfold outF;rw[if_neg h,if_pos k]
theorem u0a {t:Int}{d:ByteArray}{l:List El}(h:¬d.size<szF t d)(k:¬noF t d)(o:outS (d.extract (szF t d) d.size)=(l,true,0)):outF t d=({ hdF t d with sl:=l},true,0):=by
 unfold outF;rw[if_neg h,if_neg k,o,if_pos ⟨rfl,rfl⟩]
theorem i0u {t:Int}{d:ByteArray}{l:List El}{b:Bool}{e:Int}(h:¬d.size<szF t d)(k:¬noF t d)(o:outS (d.extract (szF t d) d.size)=(l,b,e))(n:¬(e=0∧b=true)):outF t d=(M.zero,false,e):=by
 unfold outF;rw[if_neg h,if_neg k,o,if_neg n]
theorem c0a (a:ByteArray):a.data.toList.length=a.size:=by simp
theorem h0k (ae:Int):sizeA ae≤16:=by unfold sizeA;split<;>(try split)<;>(try split)<;>omega
theorem w1h {ae:Int}(h:3<ae):sizeA ae=0:=by unfold sizeA;rw[if_neg (by omega),if_neg (by omega),if_neg (by omega)]
theorem sh_3 (a:ByteArray):shB 3 a=link a∧shT 3 a=shA a:=⟨rfl,rfl⟩
theorem sh_n {ae:Int}(h:¬ae=3)(a:ByteArray):shB ae a=(decide (0≤ae∧ae≤3)&&decide (a.size=sizeA ae))∧shT ae a=if shB ae a then a else⟨#[]⟩:=by
 unfold shT shB;rw[if_neg h,if_neg h];exact⟨rfl,rfl⟩
theorem b0r {ae:Int}{a:ByteArray}(h:shB ae a=true):0≤ae∧ae≤3∧(shT ae a).size=sizeA ae∧lgT ae (shT ae a)=a:=by
 by_cases h3:ae=3
 · subst h3
   exact⟨by decide,by decide,q0u h,f1p h⟩
 · have e:=h;rw[(sh_n h3 a).1]at e;simp only[Bool.and_eq_true,decide_eq_true_eq]at e
   have e2:shT ae a=a:=by rw[(sh_n h3 a).2,if_pos h]
   exact⟨e.1.1,e.1.2,by rw[e2];exact e.2,by rw[e2];unfold lgT;rw[if_neg h3]⟩
theorem z1i {ae:Int}{s:ByteArray}(h0:0≤ae)(h1:ae≤3)(hs:s.size=sizeA ae):shB ae (lgT ae s)=true∧shT ae (lgT ae s)=s:=by
 by_cases h3:ae=3
 · subst h3;exact v1b hs
 · have e:lgT ae s=s:=by unfold lgT;rw[if_neg h3]
   have hb:shB ae s=true:=by
    rw[(sh_n h3 s).1,decide_eq_true ⟨h0,h1⟩,decide_eq_true hs];rfl
   rw[e]
   exact⟨hb,by rw[(sh_n h3 s).2,if_pos hb]⟩
structure Ok (m:M):Prop where
  bare:bare m=true
  subs:okS m.sl=true
  nonce:fitsB m.nonce 2=true
  interval:fitsB m.interval 2=true
  seq:fitsB m.seq 2=true
  cost:fitsB m.cost 2=true
  kind:kindB m=true
theorem x0a (m:M):okF m=true↔Ok m:=by
 unfold okF nums;simp only[Bool.and_eq_true]
 exact⟨fun⟨a,b,⟨c,d,e,f⟩,g⟩=>⟨a,b,c,d,e,f,g⟩,fun⟨a,b,c,d,e,f,g⟩=>⟨a,b,⟨c,d,e,f⟩,g⟩⟩
theorem kind_cases {m:M}(h:kindB m=true):m.kind=7∨m.kind=8∨(m.kind=9∧0≤m.flags∧m.flags≤1)∨(m.kind=10∧shB m.ae m.addr=true):=by
 unfold kindB at h;split at h
 · rename_i h1
   rcases h1 with h1|h1
   · exact .inl h1
   · exact .inr (.inl h1)
 split at h
 · rename_i h1 h2
   exact .inr (.inr (.inl ⟨h2,by simpa using h⟩))
 split at h
 · rename_i h1 h2 h3;exact .inr (.inr (.inr ⟨h3,h⟩))
 · cases h
theorem x0r {n:Int}(h0:0≤n)(h1:n<65536):fitsB n 2=true:=(Oct.e0b n 2).2 ⟨by omega,by omega,h0,by simpa[Oct.pw]using h1⟩
theorem d0n {n:Int}(h0:0≤n)(h1:n<256):fitsB n 1=true:=(Oct.e0b n 1).2 ⟨by omega,by omega,h0,by simpa[Oct.pw]using h1⟩
theorem p0n {n:Int}(h0:0≤n)(h1:n≤1):fitsB (n*32768) 2=true:=x0r (by omega) (by omega)
theorem f_7 {m:M}(h:m.kind=7):typF m=2∧fldF m=fld7 m:=by unfold typF fldF;rw[if_pos h,if_pos h];exact⟨rfl,rfl⟩
theorem f_8 {m:M}(h:m.kind=8):typF m=3∧fldF m=layN m.nonce 2:=by
 unfold typF fldF;rw[if_neg (by omega),if_pos h,if_neg (by omega),if_pos h];exact⟨rfl,rfl⟩
theorem f_9 {m:M}(h:m.kind=9):typF m=4∧fldF m=fld9 m:=by
 unfold typF fldF;rw[if_neg (by omega),if_neg (by omega),if_pos h,if_neg (by omega),if_neg (by omega),if_pos h];exact⟨rfl,rfl⟩
theorem f_10 {m:M}(h:m.kind=10):typF m=5∧fldF m=t0h m:=by
 unfold typF fldF;rw[if_neg (by omega),if_neg (by omega),if_neg (by omega),if_neg (by omega),if_neg (by omega),if_neg (by omega)];exact⟨rfl,rfl⟩
theorem u0d {m:M}(h:okF m=true):(fldF m).length≤22∧2≤typF m∧typF m≤5:=by
 obtain⟨_,_,n1,n2,n3,n4,hk⟩:=(x0a m).1 h
 rcases kind_cases hk with k|k|⟨k,f0,f1⟩|⟨k,ha⟩
 · rw[(f_7 k).1,(f_7 k).2];unfold fld7;simp[s0a n1,s0a n2]
 · rw[(f_8 k).1,(f_8 k).2];simp[s0a n1]
 · rw[(f_9 k).1,(f_9 k).2];unfold fld9;simp[s0a (p0n f0 f1),s0a n2,s0a n3]
 · obtain⟨a0,a1,a2,_⟩:=b0r ha;have:=h0k m.ae;rw[(f_10 k).1,(f_10 k).2];unfold t0h
   simp[s0a n2,s0a n4,s0a (d0n (n:=m.ae) a0 (by omega)),a2]
   omega
theorem m0i (m:M):(datF m).size=(fldF m).length+(putS m.sl).size:=by
 show(fldF m++(putS m.sl).data.toList).toArray.size=_
 simp
theorem v0l {m:M}(h:okF m=true):(datF m).size≤222:=by
 have:=(u0d h).1;have:=m0g m.sl;rw[m0i];omega
theorem h0q {m:M}(h:okF m=true):putB (typF m) (datF m)=true:=by
 have:=u0d h;have:=v0l h;unfold putB;simp;omega
theorem c0p {m:M}(h:okF m=true):(putF m).data.toList=enc1 (datF m,typF m)∧ok1 (datF m,typF m):=by
 have h1:=u0d h;have h2:=v0l h
 have ho:ok1 (datF m,typF m):=⟨by show 0≤typF m;omega,by show typF m≤255;omega,by show(datF m).size≤255;omega,fun e=>by have:typF m=0:=e;omega⟩
 refine⟨?_,ho⟩
 rw[l0y h,(F1.w0e ho (by show ¬typF m=0;omega)).2]
theorem u1d {m:M}(h:okF m=true):(putF m).size=2+(fldF m).length+(putS m.sl).size:=by
 have h1:=u0d h
 rw[←c0a,(c0p h).1,F1.l0b,if_neg (by show ¬typF m=0;omega)]
 show 2+(datF m).size=_
 rw[m0i];omega
theorem cut7 (c0 c1:UInt8)(x1 x2 r:List UInt8)(h1:x1.length=2)(h2:x2.length=2) :
    ((c0::c1::(x1++(x2++r))).drop 2).take 2=x1∧((c0::c1::(x1++(x2++r))).drop 4).take 2=x2∧(c0::c1::(x1++(x2++r))).drop 6=r∧(c0::c1::(x1++(x2++r))).length=6+r.length:=by
 match x1,h1,x2,h2 with
 | [_,_],_,[_,_],_=>exact⟨rfl,rfl,rfl,by simp;omega⟩
theorem cut8 (x1 r:List UInt8)(h1:x1.length=2):(x1++r).take 2=x1∧(x1++r).drop 2=r:=by
 match x1,h1 with
 | [_,_],_=>exact⟨rfl,rfl⟩
theorem cut9 (x0 x1 x2 r:List UInt8)(h0:x0.length=2)(h1:x1.length=2)(h2:x2.length=2) :
    (x0++(x1++(x2++r))).take 2=x0∧((x0++(x1++(x2++r))).drop 2).take 2=x1∧((x0++(x1++(x2++r))).drop 4).take 2=x2∧(x0++(x1++(x2++r))).drop 6=r:=by
 match x0,h0,x1,h1,x2,h2 with
 | [_,_],_,[_,_],_,[_,_],_=>exact⟨rfl,rfl,rfl,rfl⟩
theorem m0e {d:ByteArray}{a:Nat}{v:Int}(h:(d.data.toList.drop a).take 2=layN v 2)(hf:fitsB v 2=true):num2 d a=v:=by unfold num2;rw[h];exact c0f hf
theorem f0g (d:ByteArray)(a:Nat):(d.extract a d.size).data.toList=d.data.toList.drop a:=by
 rw[n0a,List.take_of_length_le (by rw[List.length_drop,c0a];exact Nat.le_refl _)]
theorem k0c {m:M}(h:okF m=true):outF (typF m) (datF m)=({ ownM m with sa:=none,sc:=0},true,0):=by
 obtain⟨_,hx,n1,n2,n3,n4,hk⟩:=(x0a m).1 h;have hl:(datF m).data.toList=fldF m++(putS m.sl).data.toList:=rfl;generalize datF m=d at *
 have tail:∀ z,d.data.toList.drop z=(putS m.sl).data.toList→outS (d.extract z d.size)=(m.sl,true,0):=fun z hz=>by
  rw[show d.extract z d.size=putS m.sl from k0a (by rw[f0g,hz])]
  exact q0f hx
 rcases kind_cases hk with k|k|⟨k,f0,f1⟩|⟨k,ha⟩
 · rw[(f_7 k).2]at hl;rw[(f_7 k).1,(is_7 k).2]
   have e:d.data.toList=0::0::(layN m.nonce 2++(layN m.interval 2++(putS m.sl).data.toList)):=by rw[hl];simp[fld7]
   obtain⟨q1,q2,q3,q4⟩:=cut7 0 0 _ _ (putS m.sl).data.toList (s0a n1) (s0a n2);rw[←e]at q1 q2 q3 q4
   rw[u0a (t:=2) (by show ¬d.size<6;rw[←c0a,q4];omega) (fun x=>by have:=x.1;omega) (tail 6 q3)]
   rw[show hdF 2 d=hd2 d from rfl]
   unfold hd2;rw[m0e q1 n1,m0e q2 n2,k];rfl
 · rw[(f_8 k).2]at hl;rw[(f_8 k).1,(is_8 k).2];obtain⟨q1,q2⟩:=cut8 _ (putS m.sl).data.toList (s0a n1)
   have hz:2≤d.size:=by rw[←c0a,hl,List.length_append,s0a (k:=2) n1];omega
   rw[←hl]at q1 q2
   rw[u0a (t:=3) (by show ¬d.size<2;omega) (fun x=>by have:=x.1;omega) (tail 2 q2)]
   rw[show hdF 3 d=hd3 d from rfl]
   unfold hd3;rw[m0e (a:=0) q1 n1,k];rfl
 · rw[(f_9 k).2]at hl;rw[(f_9 k).1,(is_9 k).2];have hff:=p0n f0 f1
   have e:d.data.toList=layN (m.flags*32768) 2++(layN m.seq 2++(layN m.interval 2++(putS m.sl).data.toList)):=by rw[hl];simp[fld9]
   have hz:6≤d.size:=by rw[←c0a,e];simp only[List.length_append,s0a hff,s0a n2,s0a n3];omega
   obtain⟨q0,q1,q2,q3⟩:=cut9 _ _ _ (putS m.sl).data.toList (s0a hff) (s0a n3) (s0a n2);rw[←e]at q0 q1 q2 q3
   rw[u0a (t:=4) (by show ¬d.size<6;omega) (fun x=>by have:=x.1;omega) (tail 6 q3)]
   rw[show hdF 4 d=hd4 d from rfl]
   have hb:bt d 0 / 128=m.flags:=by
    have e1:256*bt d 0+bt d 1=m.flags*32768:=(p0f d 0 (by omega)).symm.trans (m0e (a:=0) q0 hff)
    have:=d0b d 1;have:=o0b d 1;omega
   unfold hd4;rw[hb,m0e q1 n3,m0e q2 n2,k];rfl
 · rw[(f_10 k).2]at hl;rw[(f_10 k).1,(f0m k).2];obtain⟨a0,a1,a2,a3⟩:=b0r ha
   have hf:=d0n (n:=m.ae) a0 (by omega)
   obtain⟨c,hc⟩:∃ c,layN m.ae 1 = [c]:=by
    have:=s0a hf
    match layN m.ae 1,this with
    | [c],_=>exact⟨c,rfl⟩
   have e:d.data.toList=c::0::(layN m.cost 2++(layN m.interval 2++((shT m.ae m.addr).data.toList++(putS m.sl).data.toList))):=by rw[hl];simp[t0h,hc]
   obtain⟨q1,q2,q3,q4⟩:=cut7 c 0 _ _ ((shT m.ae m.addr).data.toList++(putS m.sl).data.toList) (s0a n4) (s0a n2);rw[←e]at q1 q2 q3 q4
   have hb:bt d 0=m.ae:=by
    have e1:=c0f hf;rw[hc]at e1;unfold bt;rw[e]
    show(c.toNat:Int)=_
    rw[←e1];simp[numL]
   have hz:d.size=6+(sizeA m.ae+(putS m.sl).size):=by rw[←c0a,q4,List.length_append,c0a,c0a,a2]
   have e6:d.data.toList.drop (6+sizeA m.ae)=(putS m.sl).data.toList:=by
    rw[←List.drop_drop,q3,←a2,←c0a];exact List.drop_left ..
   have ea:d.extract 6 (6+sizeA m.ae)=shT m.ae m.addr:=k0a (by
    rw[n0a,Nat.add_sub_cancel_left,q3,←a2,←c0a]
    exact List.take_left ..)
   have hs:szF 5 d=6+sizeA m.ae:=by show 6+sizeA (bt d 0)=_;rw[hb]
   rw[u0a (t:=5) (l:=m.sl) (by rw[hs];omega) (fun x=>by have:=x.2;omega) (by rw[hs];exact tail _ e6)]
   rw[show hdF 5 d=hd5 d from rfl]
   unfold hd5;rw[hb,ea,a3,m0e q1 n4,m0e q2 n2,k];rfl
theorem p0p {m:M}(h:okF m=true):M.same m { ownM m with sa:=none,sc:=0}=true∧(ownM m).la=none∧(ownM m).ll = []∧(ownM m).lc=0∧(ownM m).sl=m.sl:=by
 obtain⟨hb,_,_,_,_,_,hk⟩:=(x0a m).1 h
 have h1:M.same m (ownM m)=true:=by unfold bare at hb;simp at hb;exact hb.2
 refine⟨h1,?_⟩
 rcases kind_cases hk with k|k|⟨k,_⟩|⟨k,_⟩
 · rw[(is_7 k).2];exact⟨rfl,rfl,rfl,rfl⟩
 · rw[(is_8 k).2];exact⟨rfl,rfl,rfl,rfl⟩
 · rw[(is_9 k).2];exact⟨rfl,rfl,rfl,rfl⟩
 · rw[(f0m k).2];exact⟨rfl,rfl,rfl,rfl⟩
theorem t0d {d:ByteArray}{a:Nat}(h:a+2≤d.size):fitsB (num2 d a) 2=true:=v0f _ 2 (by rw[List.length_take,List.length_drop,c0a];omega) (by omega) (by omega)
theorem l0e:fitsB 0 2=true:=x0r (by omega) (by omega)
theorem u0z {t:Int}{d:ByteArray}{l:List El}(h2:2≤t)(h5:t≤5)(h:¬d.size<szF t d)(k:¬noF t d)(hl:okS l=true) :
    okF { hdF t d with sl:=l}=true∧(fldF { hdF t d with sl:=l}).length=szF t d:=by
 rcases(show t=2∨t=3∨t=4∨t=5 by omega)with rfl|rfl|rfl|rfl
 · have hz:6≤d.size:=by have:¬d.size<6:=h;omega
   have n1:=t0d (d:=d) (a:=2) (by omega)
   have n2:=t0d (d:=d) (a:=4) (by omega)
   show okF { hd2 d with sl:=l}=true∧(fldF { hd2 d with sl:=l}).length=6
   refine⟨(x0a _).2 ⟨?_,hl,n1,n2,l0e,l0e,rfl⟩,?_⟩
   · unfold bare;rw[(is_7 rfl).1,(is_7 rfl).2];unfold M.same M.flatE k7 hd2 M.zero;simp
   · rw[(f_7 rfl).2]
     show(0::0::(layN (num2 d 2) 2++layN (num2 d 4) 2)).length=6
     simp[s0a n1,s0a n2]
 · have hz:2≤d.size:=by have:¬d.size<2:=h;omega
   have n1:=t0d (d:=d) (a:=0) (by omega)
   show okF { hd3 d with sl:=l}=true∧(fldF { hd3 d with sl:=l}).length=2
   refine⟨(x0a _).2 ⟨?_,hl,n1,l0e,l0e,l0e,rfl⟩,?_⟩
   · unfold bare;rw[(is_8 rfl).1,(is_8 rfl).2];unfold M.same M.flatE k8 hd3 M.zero;simp
   · rw[(f_8 rfl).2]
     show(layN (num2 d 0) 2).length=2
     exact s0a n1
 · have hz:6≤d.size:=by have:¬d.size<6:=h;omega
   have n1:=t0d (d:=d) (a:=2) (by omega)
   have n2:=t0d (d:=d) (a:=4) (by omega)
   have b0:=d0b d 0;have b1:=o0b d 0
   show okF { hd4 d with sl:=l}=true∧(fldF { hd4 d with sl:=l}).length=6
   refine⟨(x0a _).2 ⟨?_,hl,l0e,n2,n1,l0e,?_⟩,?_⟩
   · unfold bare;rw[(is_9 rfl).1,(is_9 rfl).2];unfold M.same M.flatE k9 hd4 M.zero;simp
   · show decide (0≤bt d 0 / 128∧bt d 0 / 128≤1)=true
     exact decide_eq_true ⟨by omega,by omega⟩
   · rw[(f_9 rfl).2]
     show(layN (bt d 0 / 128*32768) 2++(layN (num2 d 2) 2++layN (num2 d 4) 2)).length=6
     simp[s0a n1,s0a n2,s0a (p0n (n:=bt d 0 / 128) (by omega) (by omega))]
 · have hz:6+sizeA (bt d 0)≤d.size:=by have:¬d.size<6+sizeA (bt d 0):=h;omega
   have n1:=t0d (d:=d) (a:=2) (by omega)
   have n2:=t0d (d:=d) (a:=4) (by omega)
   have b0:=d0b d 0
   have b1:bt d 0≤3:=by
    have:¬(3<bt d 0):=fun x=>k ⟨rfl,x⟩
    omega
   have hs:(d.extract 6 (6+sizeA (bt d 0))).size=sizeA (bt d 0):=by simp;omega
   obtain⟨l1,l2⟩:=z1i b0 b1 hs
   show okF { hd5 d with sl:=l}=true∧(fldF { hd5 d with sl:=l}).length=6+sizeA (bt d 0)
   refine⟨(x0a _).2 ⟨?_,hl,l0e,n2,l0e,n1,?_⟩,?_⟩
   · unfold bare;rw[(f0m rfl).1,(f0m rfl).2];unfold M.same M.flatE k10 hd5 M.zero;simp
   · exact l1
   · rw[(f_10 rfl).2]
     show(layN (bt d 0) 1++(0::(layN (num2 d 2) 2++(layN (num2 d 4) 2++(shT (bt d 0) (lgT (bt d 0) (d.extract 6 (6+sizeA (bt d 0))))).data.toList)))).length=_
     rw[l2]
     simp only[List.length_append,List.length_cons,s0a n1,s0a n2,s0a (d0n b0 (show bt d 0<256 by omega)),c0a,hs]
     omega
theorem out_cases {t:Int}{d:ByteArray}(h2:2≤t)(h5:t≤5):(∃ e,outF t d=(M.zero,false,e))∨
    ∃ r,outF t d=(r,true,0)∧okF r=true∧(putF r).size≤d.size+2∧r.la=none∧r.ll = []∧r.lc=0:=by
 by_cases h:d.size<szF t d
 · exact .inl ⟨_,x0e h⟩
 by_cases k:noF t d
 · exact .inl ⟨_,b0k h k⟩
 have hz:=t1c (d.extract (szF t d) d.size)
 have hy:(d.extract (szF t d) d.size).size=d.size - szF t d:=by simp
 obtain⟨⟨l,b,e⟩,ho⟩:∃ p,outS (d.extract (szF t d) d.size)=p:=⟨_,rfl⟩;rw[ho]at hz;by_cases n:e=0∧b=true
 · obtain⟨rfl,rfl⟩:=n;obtain⟨g1,g2⟩:=u0z h2 h5 h k hz.1;refine .inr ⟨_,u0a h k ho,g1,?_,?_⟩
   · rw[u1d g1,g2];have:(putS l).size≤(d.extract (szF t d) d.size).size:=hz.2
     show 2+szF t d+(putS l).size≤_
     omega
   · rcases(show t=2∨t=3∨t=4∨t=5 by omega)with rfl|rfl|rfl|rfl<;>exact⟨rfl,rfl,rfl⟩
 · exact .inl ⟨_,i0u h k ho n⟩
theorem k0g (t:Int)(d:ByteArray)(h2:2≤t)(h5:t≤5):(outF t d).1.la=none∧(outF t d).1.ll = []∧(outF t d).1.lc=0∧(outF t d).1.sl.length≤100∧∀ x∈(outF t d).1.sl,x.1.size≤1099511627776:=by
 rcases out_cases (d:=d) h2 h5 with⟨e,h⟩|⟨r,h,ho,_,ha,hb,hc⟩
 · rw[h];exact⟨rfl,rfl,rfl,Nat.zero_le _,fun x hx=>absurd hx (by show ¬x∈([]:List El);simp)⟩
 · rw[h];have:=((x0a r).1 ho).subs;exact⟨ha,hb,hc,u0u this,h0u this⟩
end G1
end Go.Proofs.YtllhobicfclheaaGreatDoor
