/-
  A part of a proof. No conditions.
-/
import Derived.Test.YtllhobicfclheaaGreatDoorY16
namespace Go.Proofs.YtllhobicfclheaaGreatDoor
open Go.ChangeShapes Go.WideShapes Go.ChangeAt Go.RowKit
set_option linter.unusedVariables false
set_option maxRecDepth 100000
set_option maxHeartbeats 51200000
namespace Z1
open Ms Cnt Xv
open Cur (numL)
open Oct (fitsB)
open Nu
open Own (k4 k6 isKind ownM fieldsOf)
def bare (m:M):Bool:=isKind m&&M.same m (ownM m)
def nums (m:M):Bool:=decide (0≤m.flags∧m.flags≤3)&&(decide (0≤m.plen∧m.plen≤31)&&(fitsB m.hops 1&&(fitsB m.seq 4&&fitsB m.interval 4)))
def reply (m:M):Bool:=nums m&&(decide (m.addr.size=4)&&decide (m.orig.size=4))
def okP (m:M):Bool:=bare m&&(okX m.sl&&(decide (m.kind=6)||(decide (m.kind=4)&&reply m)))
def hdR (m:M):List UInt8:=2::UInt8.ofNat (64*m.flags.toNat)::UInt8.ofNat m.plen.toNat::UInt8.ofNat m.hops.toNat::(m.addr.data.toList++(layN m.seq 4++(m.orig.data.toList++layN m.interval 4)))
def hd (m:M):List UInt8:=if m.kind=4 then hdR m else [4,0]
def encP (m:M):List UInt8:=hd m++encX m.sl
def putP (m:M):ByteArray:=if okP m then⟨(encP m).toArray⟩else⟨#[]⟩
theorem y0i {m:M}(h:okP m=true):putP m=⟨(encP m).toArray⟩:=by unfold putP;rw[if_pos h]
theorem j1n {m:M}(h:okP m=false):putP m=⟨#[]⟩:=by unfold putP;rw[if_neg (by rw[h];exact Bool.false_ne_true)]
theorem o0r {m:M}(h:m.kind=4):hd m=hdR m:=by unfold hd;rw[if_pos h]
theorem s0q {m:M}(h:m.kind=6):hd m = [4,0]:=by unfold hd;rw[if_neg (by omega)]
def num4 (s:ByteArray)(a:Nat):Int:=((numL ((s.data.toList.drop a).take 4):Nat):Int)
def hdM (s:ByteArray):M:={ M.zero with kind:=4,flags:=bt s 1 / 64,plen:=bt s 2,hops:=bt s 3,addr:=s.extract 4 8,seq:=num4 s 8,orig:=s.extract 12 16,interval:=num4 s 16}
def ackM:M:={ M.zero with kind:=6}
def badA (s:ByteArray):Prop:=bt s 1≠0
def badR (s:ByteArray):Prop:=bt s 1%64≠0∨31<bt s 2
instance (s:ByteArray):Decidable (badA s):=by unfold badA;exact inferInstance
instance (s:ByteArray):Decidable (badR s):=by unfold badR;exact inferInstance
def headP (s:ByteArray):M×Int×Int:=
  if bt s 0=4 then(if s.size<2 then(M.zero,(s.size:Int),2)else if badA s then(M.zero,1,5)else(ackM,2,0))
  else(if s.size<20 then(M.zero,(s.size:Int),2)else if badR s then(M.zero,1,5)else(hdM s,20,0))
theorem t0o {s:ByteArray}(h4:bt s 0=4)(h:s.size<2):headP s=(M.zero,(s.size:Int),2):=by unfold headP;rw[if_pos h4,if_pos h]
theorem j0r {s:ByteArray}(h4:bt s 0=4)(h:¬s.size<2)(k:badA s):headP s=(M.zero,1,5):=by unfold headP;rw[if_pos h4,if_neg h,if_pos k]
theorem h0m {s:ByteArray}(h4:bt s 0=4)(h:¬s.size<2)(k:¬badA s):headP s=(ackM,((2:Nat):Int),0):=by unfold headP;rw[if_pos h4,if_neg h,if_neg k];rfl
theorem k0o {s:ByteArray}(h4:¬bt s 0=4)(h:s.size<20):headP s=(M.zero,(s.size:Int),2):=by unfold headP;rw[if_neg h4,if_pos h]
theorem e0m {s:ByteArray}(h4:¬bt s 0=4)(h:¬s.size<20)(k:badR s):headP s=(M.zero,1,5):=by unfold headP;rw[if_neg h4,if_neg h,if_pos k]
theorem w0r {s:ByteArray}(h4:¬bt s 0=4)(h:¬s.size<20)(k:¬badR s):headP s=(hdM s,((20:Nat):Int),0):=by unfold headP;rw[if_neg h4,if_neg h,if_neg k];rfl
def outP (s:ByteArray):M×Int×Int:=
  if(headP s).2.2≠0 then(M.zero,(headP s).2.1,(headP s).2.2)
  else if(outX (s.extract (headP s).2.1.toNat s.size)).2.2=0 then({ (headP s).1 with sl:=(outX (s.extract (headP s).2.1.toNat s.size)).1},0,0)
  else(M.zero,(headP s).2.1+(outX (s.extract (headP s).2.1.toNat s.size)).2.1,(outX (s.extract (headP s).2.1.toNat s.size)).2.2)
theorem w0d {s:ByteArray}{m:M}{i e:Int}(h:headP s=(m,i,e))(he:e≠0):outP s=(M.zero,i,e):=by unfold outP;rw[h,if_pos he]
theorem r0f {s:ByteArray}{r:M}{n:Nat}{l:List El}{i e:Int}(h:headP s=(r,(n:Int),0))(o:outX (s.extract n s.size)=(l,i,e))(he:e≠0):outP s=(M.zero,n+i,e):=by
 unfold outP;rw[h];simp only[Int.toNat_natCast];rw[o,if_neg (by decide),if_neg he]
theorem u0a {s:ByteArray}{r:M}{n:Nat}{l:List El}{i:Int}(h:headP s=(r,(n:Int),0))(o:outX (s.extract n s.size)=(l,i,0)):outP s=({ r with sl:=l},0,0):=by
 unfold outP;rw[h];simp only[Int.toNat_natCast];rw[o,if_neg (by decide),if_pos rfl]
theorem cuts (c0 c1 c2 c3:UInt8)(x1 x2 x3 x4 r:List UInt8)(h1:x1.length=4)(h2:x2.length=4)(h3:x3.length=4)(h4:x4.length=4) :
    ((c0::c1::c2::c3::(x1++(x2++(x3++(x4++r))))).drop 4).take 4=x1∧((c0::c1::c2::c3::(x1++(x2++(x3++(x4++r))))).drop 8).take 4=x2∧
    ((c0::c1::c2::c3::(x1++(x2++(x3++(x4++r))))).drop 12).take 4=x3∧((c0::c1::c2::c3::(x1++(x2++(x3++(x4++r))))).drop 16).take 4=x4∧
    (c0::c1::c2::c3::(x1++(x2++(x3++(x4++r))))).drop 20=r∧
    (c0::c1::c2::c3::(x1++(x2++(x3++(x4++r))))).length=20+r.length:=by
 match x1,h1,x2,h2,x3,h3,x4,h4 with
 | [_,_,_,_],_,[_,_,_,_],_,[_,_,_,_],_,[_,_,_,_],_=>exact⟨rfl,rfl,rfl,rfl,rfl,by simp;omega⟩
theorem four (t:List UInt8)(k:Nat)(l:List UInt8)(h:l.drop k=t):t=(l.drop k).take 4++l.drop (k+4):=by
 rw[h,←List.drop_drop,h,List.take_append_drop]
theorem parts (l:List UInt8)(h:20≤l.length):l=l.getD 0 0::l.getD 1 0::l.getD 2 0::l.getD 3 0::((l.drop 4).take 4++((l.drop 8).take 4++((l.drop 12).take 4++((l.drop 16).take 4++l.drop 20)))):=by
 rw[←four (l.drop 16) 16 l rfl,←four (l.drop 12) 12 l rfl,←four (l.drop 8) 8 l rfl,←four (l.drop 4) 4 l rfl];refine' qzde
theorem i1q (l:List UInt8)(h:2≤l.length):l=l.getD 0 0::l.getD 1 0::l.drop 2:=by
 cases l with
 | nil=>simp at h
 | cons a l=>cases l with
  | nil=>simp at h
  | cons b l=>rfl
theorem len4 (s:ByteArray)(a:Nat)(h:a+4≤s.size):((s.data.toList.drop a).take 4).length=4:=by simp;omega
theorem ext4 (s:ByteArray)(a b:Nat)(h:b=a+4):(s.extract a b).data.toList=(s.data.toList.drop a).take 4:=by subst h;rw[n0a,Nat.add_sub_cancel_left]
theorem c0a (a:ByteArray):a.data.toList.length=a.size:=by simp
structure Nums (m:M):Prop where
  f0:0≤m.flags
  f1:m.flags≤3
  p0:0≤m.plen
  p1:m.plen≤31
  hops:fitsB m.hops 1=true
  seq:fitsB m.seq 4=true
  interval:fitsB m.interval 4=true
structure Reply (m:M):Prop where
  nums:nums m=true
  addr:m.addr.size=4
  orig:m.orig.size=4
structure Ok (m:M):Prop where
  bare:bare m=true
  subs:okX m.sl=true
  kind:m.kind=6∨m.kind=4∧reply m=true
theorem x0a (m:M):okP m=true↔Ok m:=by
 unfold okP;simp only[Bool.and_eq_true,Bool.or_eq_true,decide_eq_true_eq]
 exact⟨fun⟨a,b,c⟩=>⟨a,b,c⟩,fun⟨a,b,c⟩=>⟨a,b,c⟩⟩
theorem m0l (m:M):reply m=true↔Reply m:=by
 unfold reply;refine' qzd3
 exact⟨fun⟨a,b,c⟩=>⟨a,b,c⟩,fun⟨a,b,c⟩=>⟨a,b,c⟩⟩
theorem a0d (m:M):nums m=true↔Nums m:=by
 unfold nums;refine' qzd3
 exact⟨fun⟨⟨a,b⟩,⟨c,d⟩,e,f,g⟩=>⟨a,b,c,d,e,f,g⟩,fun⟨a,b,c,d,e,f,g⟩=>⟨⟨a,b⟩,⟨c,d⟩,e,f,g⟩⟩
theorem s0j {n:Int}(h:fitsB n 1=true):0≤n∧n<256:=by
 obtain⟨_,_,h0,h1⟩:=(Oct.e0b n 1).1 h
 exact⟨h0,by simpa[Oct.pw]using h1⟩
theorem n0k {n:Int}(h0:0≤n)(h1:n<256):fitsB n 1=true:=(Oct.e0b n 1).2 ⟨by omega,by omega,h0,by simpa[Oct.pw]using h1⟩
theorem v0m {n:Nat}(h:n<256):(UInt8.ofNat n).toNat=n:=by rw[UInt8.toNat_ofNat'];omega
theorem l0l {m:M}(h:m.kind=4):isKind m=true∧ownM m={ k4 m with kind:=4}:=by
 refine' qzp
theorem j0l {m:M}(h:m.kind=6):isKind m=true∧ownM m={ k6 m with kind:=6}:=by
 refine' qzp
theorem k0c (m:M)(h:okP m=true):outP ⟨(encP m).toArray⟩=({ ownM m with sa:=none,sc:=0},0,0):=by
 obtain⟨_,hx,hk⟩:=(x0a m).1 h
 rcases hk with hk|⟨hk,hr⟩
 · have hl:(⟨(encP m).toArray⟩:ByteArray).data.toList=UInt8.ofNat 4::UInt8.ofNat 0::encX m.sl:=by
    simp[encP,s0q hk]
   generalize (⟨(encP m).toArray⟩:ByteArray)=s at *
   have hz:¬s.size<2:=by rw[←c0a,hl,List.length_cons,List.length_cons];omega
   have b0:bt s 0=4:=by unfold bt;rw[hl];rfl
   have b1:bt s 1=0:=by unfold bt;rw[hl];rfl
   have t:(s.extract 2 s.size).data.toList=encX m.sl:=by
    rw[n0a,hl]
    show(encX m.sl).take _=_
    rw[List.take_of_length_le];rw[←c0a,hl,List.length_cons,List.length_cons];omega
   rw[u0a (h0m b0 hz (by unfold badA;omega)) (Xv.u0a hx t),(j0l hk).2]
   rfl
 · obtain⟨hn,ha,ho⟩:=(m0l m).1 hr;obtain⟨f0,f1,p0,p1,n1,n2,n3⟩:=(a0d m).1 hn
   have hl:(⟨(encP m).toArray⟩:ByteArray).data.toList=UInt8.ofNat 2::UInt8.ofNat (64*m.flags.toNat)::UInt8.ofNat m.plen.toNat::UInt8.ofNat m.hops.toNat::(m.addr.data.toList++(layN m.seq 4++(m.orig.data.toList++(layN m.interval 4++encX m.sl)))):=by
    simp[encP,o0r hk,hdR,List.append_assoc]
   generalize (⟨(encP m).toArray⟩:ByteArray)=s at *
   obtain⟨q1,q2,q3,q4,q6,q7⟩:=cuts (UInt8.ofNat 2) (UInt8.ofNat (64*m.flags.toNat)) (UInt8.ofNat m.plen.toNat) (UInt8.ofNat m.hops.toNat) m.addr.data.toList (layN m.seq 4) m.orig.data.toList (layN m.interval 4) (encX m.sl) (by rw[c0a];exact ha) (s0a n2) (by rw[c0a];exact ho) (s0a n3)
   have hz:¬s.size<20:=by rw[←c0a,hl,q7];omega
   have b0:¬bt s 0=4:=by unfold bt;rw[hl];show ¬((UInt8.ofNat 2).toNat:Int)=4;decide
   have b1:bt s 1=64*m.flags:=by
    unfold bt;rw[hl]
    show((UInt8.ofNat (64*m.flags.toNat)).toNat:Int)=_
    refine' qz9s
   have b2:bt s 2=m.plen:=by
    unfold bt;rw[hl]
    show((UInt8.ofNat m.plen.toNat).toNat:Int)=_
    refine' qz9s
   obtain⟨h0,h1⟩:=s0j n1
   have b3:bt s 3=m.hops:=by
    unfold bt;rw[hl]
    show((UInt8.ofNat m.hops.toNat).toNat:Int)=_
    refine' qz9s
   have t:(s.extract 20 s.size).data.toList=encX m.sl:=by
    rw[n0a,hl,q6,List.take_of_length_le];rw[←c0a,hl,q7];omega
   rw[u0a (w0r b0 hz (by unfold badR;omega)) (Xv.u0a hx t),(l0l hk).2]
   have e:hdM s={ k4 m with kind:=4,sa:=none,sl:=[],sc:=0}:=by
    unfold hdM k4 num4
    rw[b1,b2,b3,hl,q2,q4,c0f n2,c0f n3,k0a (a:=s.extract 4 8) (b:=m.addr) (by rw[ext4 s 4 8 rfl,hl,q1]),k0a (a:=s.extract 12 16) (b:=m.orig) (by rw[ext4 s 12 16 rfl,hl,q3]),show 64*m.flags / 64=m.flags by omega]
    rfl
   rw[e];rfl
theorem w1f (s:ByteArray)(l:List El)(h0:bt s 0=4)(h:¬s.size<2)(k:¬badA s)(hx:okX l=true)(o:(s.extract 2 s.size).data.toList=encX l) :
    okP { ackM with sl:=l}=true∧encP { ackM with sl:=l}=s.data.toList:=by
 have hl:=i1q s.data.toList (by rw[c0a];omega)
 have e2:s.data.toList.drop 2=encX l:=by
  rw[←o,n0a,List.take_of_length_le];rw[List.length_drop,c0a];exact Nat.le_refl _
 have k2:bt s 1=0:=by unfold badA at k;omega
 refine⟨(x0a _).2 ⟨?_,hx,.inl rfl⟩,?_⟩
 · unfold bare;rw[(j0l rfl).1,(j0l rfl).2];unfold M.same M.flatE k6 ackM M.zero;simp
 · unfold encP;rw[s0q rfl]
   show 4::0::encX l=_
   have c0:(4:UInt8)=s.data.toList.getD 0 0:=by
    refine' qz9t;have:((s.data.toList.getD 0 0).toNat:Int)=4:=h0
    show 4=_
    omega
   have c1:(0:UInt8)=s.data.toList.getD 1 0:=by
    refine' qz9t;have:((s.data.toList.getD 1 0).toNat:Int)=0:=k2
    show 0=_
    omega
   conv=>rhs;rw[hl,←c0,←c1,e2]
theorem v1h (s:ByteArray)(l:List El)(h0:bt s 0=2)(h:¬s.size<20)(k:¬badR s)(hx:okX l=true)(o:(s.extract 20 s.size).data.toList=encX l) :
    okP { hdM s with sl:=l}=true∧encP { hdM s with sl:=l}=s.data.toList:=by
 have hz:20≤s.data.toList.length:=by rw[c0a];omega
 have hl:=parts _ hz
 have w1:=len4 s 4 (by omega)
 have w2:=len4 s 8 (by omega)
 have w3:=len4 s 12 (by omega)
 have w4:=len4 s 16 (by omega)
 have e20:s.data.toList.drop 20=encX l:=by
  rw[←o,n0a,List.take_of_length_le];rw[List.length_drop,c0a];exact Nat.le_refl _
 unfold badR at k
 have k1:bt s 1%64=0:=by omega
 have k2:bt s 2≤31:=by omega
 have p1:=d0b s 1;have p2:=o0b s 1;have p3:=d0b s 3;have p4:=o0b s 3;have p5:=d0b s 2;refine⟨(x0a _).2 ⟨?_,hx,.inr ⟨rfl,(m0l _).2 ⟨(a0d _).2 ⟨?_,?_,?_,?_,?_,?_,?_⟩,?_,?_⟩⟩⟩,?_⟩
 · unfold bare;rw[(l0l rfl).1,(l0l rfl).2];unfold M.same M.flatE k4 hdM M.zero;simp
 · show 0≤bt s 1 / 64;omega
 · show bt s 1 / 64≤3;omega
 · exact p5
 · exact k2
 · exact n0k p3 p4
 · exact v0f _ 4 w2 (by omega) (by omega)
 · exact v0f _ 4 w4 (by omega) (by omega)
 · show(s.extract 4 8).size=4;rw[←c0a,ext4 s 4 8 rfl];exact w1
 · show(s.extract 12 16).size=4;rw[←c0a,ext4 s 12 16 rfl];exact w3
 · unfold encP;rw[o0r rfl];unfold hdR
   show(2::UInt8.ofNat (64*(bt s 1 / 64).toNat)::UInt8.ofNat (bt s 2).toNat::UInt8.ofNat (bt s 3).toNat::((s.extract 4 8).data.toList++(layN (num4 s 8) 4++((s.extract 12 16).data.toList++layN (num4 s 16) 4))))++encX l=_
   unfold num4
   rw[x0k _ 4 w2 (by omega) (by omega),x0k _ 4 w4 (by omega) (by omega),ext4 s 4 8 rfl,ext4 s 12 16 rfl,←e20]
   have c0:(2:UInt8)=s.data.toList.getD 0 0:=by
    refine' qz9t;have:((s.data.toList.getD 0 0).toNat:Int)=2:=h0
    show 2=_
    omega
   have c1:UInt8.ofNat (64*(bt s 1 / 64).toNat)=s.data.toList.getD 1 0:=by
    refine' qz9t;have:((s.data.toList.getD 1 0).toNat:Int)=bt s 1:=rfl;refine' qz9s
   have c2:UInt8.ofNat (bt s 2).toNat=s.data.toList.getD 2 0:=by
    refine' qz9t;have:((s.data.toList.getD 2 0).toNat:Int)=bt s 2:=rfl;refine' qz9s
   refine' qz9u;simp only[List.cons_append,List.append_assoc]
theorem head_cases (s:ByteArray):(∃ i e,headP s=(M.zero,i,e)∧e≠0∧0≤i∧i≤s.size)∨
    ∃ r,∃ n:Nat,headP s=(r,(n:Int),0)∧n≤20∧n≤s.size∧r.la=none∧r.lc=0∧r.ll = []∧
      (bt s 0=2∨bt s 0=4→∀ l,okX l=true→(s.extract n s.size).data.toList=encX l→okP { r with sl:=l}=true∧encP { r with sl:=l}=s.data.toList):=by
 by_cases h4:bt s 0=4
 · by_cases h:s.size<2
   · exact .inl ⟨_,_,t0o h4 h,by decide,by omega,by omega⟩
   by_cases k:badA s
   · exact .inl ⟨_,_,j0r h4 h k,by decide,by decide,by omega⟩
   exact .inr ⟨ackM,2,h0m h4 h k,by decide,by omega,rfl,rfl,rfl,fun _ l hx o=>w1f s l h4 h k hx o⟩
 · by_cases h:s.size<20
   · exact .inl ⟨_,_,k0o h4 h,by decide,by omega,by omega⟩
   by_cases k:badR s
   · exact .inl ⟨_,_,e0m h4 h k,by decide,by decide,by omega⟩
   exact .inr ⟨hdM s,20,w0r h4 h k,by decide,by omega,rfl,rfl,rfl,fun h0 l hx o=>v1h s l (by omega) h k hx o⟩
theorem out_cases (s:ByteArray):(outP s).2.2≠0∧(outP s).1=M.zero∧0≤(outP s).2.1∧(outP s).2.1≤s.size∨
    ((outP s).2.1=0∧(outP s).2.2=0∧(bt s 0=2∨bt s 0=4→okP (outP s).1=true∧encP (outP s).1=s.data.toList)):=by
 rcases head_cases s with⟨i,e,h,he,h0,h1⟩|⟨r,n,h,_,hn,_,_,_,hb⟩
 · left;rw[w0d h he];exact⟨he,rfl,h0,h1⟩
 refine' qzdk
theorem o0k {m:M}(h:okP m=true):(hd m).length≤20:=by
 obtain⟨_,hx,hk⟩:=(x0a m).1 h
 rcases hk with hk|⟨hk,hr⟩
 · rw[s0q hk];decide
 · obtain⟨hn,ha,ho⟩:=(m0l m).1 hr;obtain⟨f0,f1,p0,p1,n1,n2,n3⟩:=(a0d m).1 hn;rw[o0r hk];unfold hdR;simp only[List.length_append,List.length_cons,s0a n2,s0a n3,c0a,ha,ho];omega
end Z1
namespace Z3
open Ms Box Xv
open Xc (idx sl_m sl_l)
open Am (ret3)
open Z1 Hs
open Hx (i0e)
open Nu
open Cur (numL p0d e0d o0c)
open Bk (Bk Sh q0a loadVarK d0a f0a a0a o0a b0a)
def curZ (s:ByteArray)(a z:Int):Array Value:=#[.string s,.int .i64 a,.int .i64 z,.bool false]
def cur (s:ByteArray)(a:Int):Array Value:=curZ s a 17
theorem n0w (s:ByteArray)(a z:Int):((curZ s a z).all fun x=>x.oneCell')=true:=by simp[curZ,Value.oneCell']
theorem w0a (s:ByteArray)(a:Int):((cur s a).all fun x=>x.oneCell')=true:=n0w s a 17
theorem shC:Sh Tryz.prog 150 4:=⟨_,Tryz.underlying150,by kernel_rfl⟩
theorem shM:Sh Tryz.prog 29 25:=⟨_,Tryz.underlying29,by kernel_rfl⟩
theorem s0d (s:ByteArray)(h:20≤s.size):(s.extract 3 20).size=17:=by simp;omega
theorem r0e (s:ByteArray)(h:20≤s.size)(a k b:Nat)(hb:b=3+a)(ha:a+k≤17):((s.extract 3 20).data.toList.drop a).take k=(s.data.toList.drop b).take k:=by
 subst hb
 rw[n0a,List.drop_take,List.take_take,List.drop_drop,Nat.min_eq_left (by omega)]
theorem cnew (s:ByteArray)(h:20≤s.size)(w:World):Calls Tryz.prog 213 #[.string (s.extract 3 20)] w fun e w'=>e = .returned (.agg (cur (s.extract 3 20) 0))∧Below w.heap.size w w':=by
 have:=o0c (s.extract 3 20) w (by rw[s0d s h];decide)
 rw[s0d s h]at this;exact this
theorem cnum (s:ByteArray)(h:20≤s.size)(a k b:Nat)(ai ki ci:Int)(hai:ai=a)(hki:ki=k)(hci:ci=(a:Int)+k)(hb:b=3+a)(ha:a+k≤17)(h1:1≤k)(h7:k≤7)(w:World) :
    Calls Tryz.prog 270 #[.agg (cur (s.extract 3 20) ai),.int .i64 ki] w fun e w'=>e = .returned (.tuple #[.int .i64 (numL ((s.data.toList.drop b).take k)),.agg (cur (s.extract 3 20) ci)])∧Below w.heap.size w w':=by
 subst hai hki hci
 have:=p0d (s.extract 3 20) a 17 k w (by rw[s0d s h];decide) (by omega) (by rw[s0d s h];omega) (by omega) h1 h7
 rw[r0e s h a k b hb ha]at this;exact this
theorem ctext (s:ByteArray)(h:20≤s.size)(a k b c:Nat)(ai ki ci:Int)(hai:ai=a)(hki:ki=k)(hci:ci=(a:Int)+k)(hb:b=3+a)(hc:c=b+k)(ha:a+k≤17)(w:World) :
    Calls Tryz.prog 247 #[.agg (cur (s.extract 3 20) ai),.int .i64 ki] w fun e w'=>e = .returned (.tuple #[.string (s.extract b c),.agg (cur (s.extract 3 20) ci)])∧Below w.heap.size w w':=by
 subst hai hki hci
 have:=e0d (s.extract 3 20) a 17 k w (by rw[s0d s h];decide) (by omega) (by rw[s0d s h];omega) (by omega)
 rw[show(s.extract 3 20).extract a (a+k)=s.extract b c from k0a (by rw[n0a,n0a s b c,Nat.add_sub_cancel_left,r0e s h a k b hb ha,hc,Nat.add_sub_cancel_left])]at this
 exact this
theorem one_num (s:ByteArray)(k:Nat)(h:k<s.size):((numL ((s.data.toList.drop k).take 1):Nat):Int)=bt s k:=by
 have e:s.data.toList.drop k=s[k]::s.data.toList.drop (k+1):=by
  rw[List.drop_eq_getElem_cons (by simpa using h)];rfl
 rw[e,←p0h s k h]
 show((numL [s[k]]:Nat):Int)=_
 simp[numL]
theorem e1q {s:ByteArray}(h:bt s 0=2∨bt s 0=4):0<s.size:=by
 rcases Nat.eq_zero_or_pos s.size with hz|hz
 · exfalso
   have e:s.data.toList = []:=List.length_eq_zero_iff.1 (by rw[c0a];exact hz)
   have:bt s 0=0:=by unfold bt;rw[e];rfl
   omega
 · exact hz
theorem i1f (s:ByteArray)(w:World)(hz:0<s.size)(hs:s.size≤1048576):Calls Tryz.prog 270 #[.agg (curZ s 0 s.size),.int .i64 1] w fun e w'=>e = .returned (.tuple #[.int .i64 (bt s 0),.agg (curZ s 1 s.size)])∧Below w.heap.size w w':=by
 have:=p0d s 0 s.size 1 w (by unfold maxLen;omega) (by omega) (by omega) (by omega) (by omega) (by omega)
 rw[one_num s 0 hz]at this;exact this
theorem s1f (s:ByteArray)(w:World)(hs:s.size≤1048576):Calls Tryz.prog 213 #[.string s] w fun e w'=>e = .returned (.agg (curZ s 0 s.size))∧Below w.heap.size w w':=o0c s w (by unfold maxLen;omega)
structure G (w0 w:World)(mb cb:Nat)(m:M)(c:ByteArray)(a:Int):Prop where
  msg:Bx w mb m
  cu:Bk 150 w cb (cur c a)
  res:Bx w w0.heap.size M.zero
  o1:w0.heap.size<mb
  o2:mb<cb
  bel:Below w0.heap.size w0 w
section
variable {w0 w w':World} {mb cb:Nat} {m m':M} {c:ByteArray} {a:Int}
theorem G.call (g:G w0 w mb cb m c a)(hb:Below w.heap.size w w'):G w0 w' mb cb m c a:=⟨g.msg.below hb,g.cu.below hb,g.res.below hb,g.o1,g.o2,g.bel.trans (hb.mono g.bel.size)⟩
theorem G.set (g:G w0 w mb cb m c a){i:Nat}{v:Value}(hm:m.cells.setIfInBounds i v=m'.cells):G w0 (w.setCell ⟨mb,i,none⟩ v) mb cb m' c a:=
  ⟨g.msg.set hm,g.cu.off (by have:=g.o2;show cb≠mb;omega) _,g.res.off (by have:=g.o1;show w0.heap.size≠mb;omega) _,g.o1,g.o2,g.bel.setCell (p:=⟨mb,i,none⟩) (by have:=g.o1;show w0.heap.size≤mb;omega) _⟩
theorem G.row (g:G w0 w mb cb m c a)(b:Int):G w0 (w.setRow cb (cur c b)) mb cb m c b:=
  ⟨g.msg.row (by have:=g.o2;omega) _,g.cu.put _,g.res.row (by have:=g.o1;have:=g.o2;omega) _,g.o1,g.o2,below_setRow g.bel (by have:=g.o1;have:=g.o2;omega) _⟩
end
theorem i1j (s:ByteArray)(w:World)(h:20≤s.size):Calls Tryz.prog 312 #[.string s] w fun e w'=>e = .returned (.agg (hdM s).cells)∧Below w.heap.size w w':=by
 refine' qzck
 have sl:=sl_m s 3 20 3 20 rfl rfl (by omega) (by omega)
 have HN:=Lib.hid (fun V=>cnew s h V)
 have C0:=Lib.hid (fun V=>cnum s h 0 1 3 0 1 1 rfl rfl (by rfl) rfl (by omega) (by omega) (by omega) V)
 have C1:=Lib.hid (fun V=>ctext s h 1 4 4 8 1 4 5 rfl rfl (by rfl) rfl rfl (by omega) V)
 have C2:=Lib.hid (fun V=>cnum s h 5 4 8 5 4 9 rfl rfl (by rfl) rfl (by omega) (by omega) (by omega) V)
 have C3:=Lib.hid (fun V=>ctext s h 9 4 12 16 9 4 13 rfl rfl (by rfl) rfl rfl (by omega) V)
 have C4:=Lib.hid (fun V=>cnum s h 13 4 16 13 4 17 rfl rfl (by rfl) rfl (by omega) (by omega) (by omega) V)
 have HH:=Lib.hid (show hdM s=({ M.zero with kind:=4,flags:=bt s 1 / 64,plen:=bt s 2,hops:=((numL ((s.data.toList.drop 3).take 1):Nat):Int),addr:=s.extract 4 8,seq:=((numL ((s.data.toList.drop 8).take 4):Nat):Int),orig:=s.extract 12 16,interval:=((numL ((s.data.toList.drop 16).take 4):Nat):Int)}:M)from by unfold hdM num4;rw[one_num s 3 (by omega)])
 have n1:=d0b s 1;have l1:=o0b s 1;have n2:=d0b s 2;have l2:=o0b s 2
 have v1:=i0e (bt s 1 / 64) (by omega) (by omega)
 have v2:=i0e (bt s 2) n2 l2
 have HQ:Hid (IntKind.u8.wrap ((bt s 1).tdiv 64)=bt s 1 / 64):=Lib.hid (IntWalk.u8_quo _ _ (by omega))
 clear h;generalize hdM s=R at *;generalize s.extract 3 20=c at *;generalize ((numL ((s.data.toList.drop 3).take 1):Nat):Int)=y0 at *;generalize s.extract 4 8=y1 at *;generalize ((numL ((s.data.toList.drop 8).take 4):Nat):Int)=y2 at *;generalize s.extract 12 16=y3 at *;generalize ((numL ((s.data.toList.drop 16).take 4):Nat):Int)=y4 at *;refine' qzcw;generalize bt s 2=z at *;refine' qzo
 have HS:=Lib.hid (show Bx (w.alloc (.cells M.zero.cells 29)).drew w.heap.size M.zero∧Below w.heap.size w (w.alloc (.cells M.zero.cells 29)).drew from⟨Bx.new w M.zero,(balloc (Below.refl _ w) (.cells M.zero.cells 29)).drew⟩)
 generalize w.alloc (.cells M.zero.cells 29)=W0 at *
 refine wp_region_held_drew (S:=fun W=>Bx W w.heap.size M.zero∧Below w.heap.size w W) (by kernel_rfl) HS.out (fun hS=>?_)
 clear HS;generalize W0.drew=X at *;refine' qz1g;refine' qz1z;refine H.tk (i:=2) (v := .int .u8 (x / 64)) ?h2 hS ?_
 case h2=>exact(fun w hw=>by go_simp;rw[HQ.out])
 refine' qz0;refine H.tk (i:=3) (v:=?v3) ?h3 hS ?_
 case h3=>(intro w hw;go_simp;first|done|(with_reducible rfl))
 refine' qz20;refine' qz21;refine' qz1y;refine' qz0
 refine H.tk (i:=7) (v := .agg (M.cells { M.zero with kind:=4,flags:=x / 64,plen:=z})) ?h7 hS ?_
 case h7=>exact(fun w hw=>Hx.r0c rfl (by kernel_rfl))
 refine' qzu;refine' qzk
 refine hK.out _ _ (show Bx (X.alloc (.cells M.zero.cells 29)) w.heap.size M.zero∧Below w.heap.size w (X.alloc (.cells M.zero.cells 29))from⟨hS.1.old _,balloc hS.2 _⟩) (fun _=>?_)
 refine' qzy;change wpAnyH _ _ _ _ _ _ _ _ (X.alloc (.cells M.zero.cells 29))
 refine Hx.H.storeRow (i:=9) (by simp only[List.getElem?_toArray,List.getElem?_cons_succ,List.getElem?_cons_zero];rfl) (by kernel_rfl) rfl rfl (by kernel_rfl) X.heap.size (M.cells { M.zero with kind:=4,flags:=x / 64,plen:=z}) rfl rfl 29 M.zero.cells (heap_alloc_new _ _) infoM rfl (oneM _) (by rw[World.setRow_alloc_new];exact⟨hS.1.old _,balloc hS.2 _⟩) ?_
 refine wpAnyH_done (by kernel_rfl) ?_ _
 change Exit.then _ _ _ _ ((X.alloc (.cells M.zero.cells 29)).setRow X.heap.size (M.cells { M.zero with kind:=4,flags:=x / 64,plen:=z}))
 refine' qz33
 have A:=Lib.hid (Bx.new X { M.zero with kind:=4,flags:=x / 64,plen:=z})
 have R2:=Lib.hid (hS.1.old (.cells (M.cells { M.zero with kind:=4,flags:=x / 64,plen:=z}) 29))
 have bel2:=Lib.hid (balloc hS.2 (.cells (M.cells { M.zero with kind:=4,flags:=x / 64,plen:=z}) 29))
 have hmb:w.heap.size<X.heap.size:=hS.1.lt;clear hS i1 v1 i2 v2 HQ
 generalize X.alloc (.cells (M.cells { M.zero with kind:=4,flags:=x / 64,plen:=z}) 29)=V at *
 generalize X.heap.size=mb at *;refine' qzg;refine(HN.out _).mono ?_;refine' qz75;have hlt:mb<w1.heap.size:=(A.out.below hb).lt;have C:=Bk.Bk.new 150 w1 #[.string ⟨#[]⟩,.int .i64 0,.int .i64 0,.bool false]
 go_upto_region 3 with(refine a0a (b:=w1.heap.size) shC rfl _ _ rfl rfl rfl C rfl rfl (w0a c 0) ?_)
 clear C
 have G0:G w ((w1.alloc (.cells #[.string ⟨#[]⟩,.int .i64 0,.int .i64 0,.bool false] 150)).setRow w1.heap.size (cur c 0)) (mb) w1.heap.size { M.zero with kind:=4,flags:=x / 64,plen:=z} c 0:=
  ⟨((A.out.below hb).old _).row (by omega) _,(Bk.Bk.new 150 w1 _).put _,((R2.out.below hb).old _).row (by omega) _,hmb,hlt,below_setRow (balloc (bcall bel2.out hb) _) (by omega) _⟩
 refine' qz8o;generalize w1.heap.size=cb at *;clear A R2 hb bel2 sl HN;have HG:=Lib.hid G0;clear G0;refine' qzcy;refine(C0.out _).mono ?_;rintro e V0 ⟨rfl,hb⟩;have G0:=HG.out.call hb;clear HG C0 hb;have d:=G0.msg.cs.c16;have fd:=G0.msg.frozen 16
 have G1:G w (V0.setCell ⟨mb,16,none⟩ (.int .i64 y0)) (mb) cb { M.zero with kind:=4,flags:=x / 64,plen:=z,hops:=y0} c 0:=G0.set (m':={ M.zero with kind:=4,flags:=x / 64,plen:=z,hops:=y0}) (i:=16) rfl
 refine' qz8b
 go_upto_region 4 with(first|(refine a0a (b:=cb) shC rfl _ _ rfl rfl rfl HG.out.cu rfl rfl (w0a c 1) ?_))
 have HG:=Lib.hid (HG.out.row 1);clear d fd;change Code.wp _ _ _ _ ((V0.setCell ⟨mb,16,none⟩ (.int .i64 y0)).setRow cb (cur c 1));generalize (V0.setCell ⟨mb,16,none⟩ (.int .i64 y0)).setRow cb (cur c 1)=W0 at *;refine' qzcy;refine(C1.out _).mono ?_;rintro e V1 ⟨rfl,hb⟩;have G0:=HG.out.call hb;clear HG C1 hb;have d:=G0.msg.cs.c19;have fd:=G0.msg.frozen 19
 have G1:G w (V1.setCell ⟨mb,19,none⟩ (.string y1)) (mb) cb { M.zero with kind:=4,flags:=x / 64,plen:=z,hops:=y0,addr:=y1} c 1:=G0.set (m':={ M.zero with kind:=4,flags:=x / 64,plen:=z,hops:=y0,addr:=y1}) (i:=19) rfl
 refine' qz8b
 go_upto_region 5 with(first|(refine a0a (b:=cb) shC rfl _ _ rfl rfl rfl HG.out.cu rfl rfl (w0a c 5) ?_))
 have HG:=Lib.hid (HG.out.row 5);clear d fd;change Code.wp _ _ _ _ ((V1.setCell ⟨mb,19,none⟩ (.string y1)).setRow cb (cur c 5));generalize (V1.setCell ⟨mb,19,none⟩ (.string y1)).setRow cb (cur c 5)=W1 at *;refine' qzcy;refine(C2.out _).mono ?_;rintro e V2 ⟨rfl,hb⟩;have G0:=HG.out.call hb;clear HG C2 hb;have d:=G0.msg.cs.c12;have fd:=G0.msg.frozen 12
 have G1:G w (V2.setCell ⟨mb,12,none⟩ (.int .i64 y2)) (mb) cb { M.zero with kind:=4,flags:=x / 64,plen:=z,hops:=y0,addr:=y1,seq:=y2} c 5:=G0.set (m':={ M.zero with kind:=4,flags:=x / 64,plen:=z,hops:=y0,addr:=y1,seq:=y2}) (i:=12) rfl
 refine' qz8b
 go_upto_region 6 with(first|(refine a0a (b:=cb) shC rfl _ _ rfl rfl rfl HG.out.cu rfl rfl (w0a c 9) ?_))
 have HG:=Lib.hid (HG.out.row 9);clear d fd;change Code.wp _ _ _ _ ((V2.setCell ⟨mb,12,none⟩ (.int .i64 y2)).setRow cb (cur c 9));generalize (V2.setCell ⟨mb,12,none⟩ (.int .i64 y2)).setRow cb (cur c 9)=W2 at *;refine' qzcy;refine(C3.out _).mono ?_;rintro e V3 ⟨rfl,hb⟩;have G0:=HG.out.call hb;clear HG C3 hb;have d:=G0.msg.cs.c20;have fd:=G0.msg.frozen 20
 have G1:G w (V3.setCell ⟨mb,20,none⟩ (.string y3)) (mb) cb { M.zero with kind:=4,flags:=x / 64,plen:=z,hops:=y0,addr:=y1,seq:=y2,orig:=y3} c 9:=G0.set (m':={ M.zero with kind:=4,flags:=x / 64,plen:=z,hops:=y0,addr:=y1,seq:=y2,orig:=y3}) (i:=20) rfl
 refine' qz8b
 go_upto_region 7 with(first|(refine a0a (b:=cb) shC rfl _ _ rfl rfl rfl HG.out.cu rfl rfl (w0a c 13) ?_))
 have HG:=Lib.hid (HG.out.row 13);clear d fd;change Code.wp _ _ _ _ ((V3.setCell ⟨mb,20,none⟩ (.string y3)).setRow cb (cur c 13));generalize (V3.setCell ⟨mb,20,none⟩ (.string y3)).setRow cb (cur c 13)=W3 at *;refine' qzcy;refine(C4.out _).mono ?_;rintro e V4 ⟨rfl,hb⟩;have G0:=HG.out.call hb;clear HG C4 hb;have d:=G0.msg.cs.c14;have fd:=G0.msg.frozen 14
 have G1:G w (V4.setCell ⟨mb,14,none⟩ (.int .i64 y4)) (mb) cb { M.zero with kind:=4,flags:=x / 64,plen:=z,hops:=y0,addr:=y1,seq:=y2,orig:=y3,interval:=y4} c 13:=G0.set (m':={ M.zero with kind:=4,flags:=x / 64,plen:=z,hops:=y0,addr:=y1,seq:=y2,orig:=y3,interval:=y4}) (i:=14) rfl
 refine' qz8b;refine' qzcq;clear d fd;generalize V4.setCell ⟨mb,14,none⟩ (.int .i64 y4)=W4 at *;rw[←HH.out]at HG
 go_wp2_with (first|(refine j0a (b:=mb) (m:=R) rfl _ rfl rfl HG.out.msg ?_)|(refine e0a (b:=w.heap.size) (m':=R) rfl _ _ rfl rfl rfl HG.out.res ?_))
 refine' qzdj
def AnsH (p:M×Int×Int)(w:World)(e:Ending)(w':World):Prop:=e = .returned (.tuple #[.agg p.1.cells,.int .i64 p.2.1,.int .i64 p.2.2])∧Below w.heap.size w w'
theorem AnsH.at {r:M}{n x:Int}{w w':World}{e:Ending}(h:AnsH (r,n,x) w e w'):e = .returned (.tuple #[.agg r.cells,.int .i64 n,.int .i64 x])∧Below w.heap.size w w':=h
theorem AnsH.mk' {p:M×Int×Int}{w w':World}{r:M}{c d:Int}(h:p=(r,c,d))(hb:Below w.heap.size w w'):AnsH p w (.returned (.tuple #[.agg r.cells,.int .i64 c,.int .i64 d])) w':=by
 subst h;exact⟨rfl,hb⟩
theorem j0u (s:ByteArray)(w:World)(h4:bt s 0=4)(hs:s.size≤1048576):Calls Tryz.prog 281 #[.string s] w (AnsH (headP s) w):=by
 by_cases h:s.size<2
 · have HY:=Lib.hid (t0o h4 h);clear h4;refine' qzb9;refine' qz4v
 have i1:=idx s 1 1 rfl (by omega)
 have n1:=d0b s 1;have l1:=o0b s 1;by_cases k:badA s
 · have HY:=Lib.hid (j0r h4 h k);unfold badA at k;clear h4;refine' qzcw;refine' qzb9;refine' qz2e
 have HY:=Lib.hid (h0m h4 h k)
 have k:bt s 1=0:=by unfold badA at k;omega
 rw[k]at i1;clear h4 n1 l1 k;refine' qzb9
 go_wp2_with (first|(refine d0a rfl 29 _ rfl (M.cells ackM) (by kernel_rfl) ?_)|(refine e0a (b:=w.heap.size) (m:=M.zero) (m':=ackM) rfl _ _ rfl rfl rfl R0.out ?_))
 exact bodyPost_ret (v := .tuple #[.agg (M.cells ackM),.int .i64 2,.int .i64 0]) (ret3 rfl _ _ w.heap.size ackM rfl (R0.out.put (m':=ackM)) (.int .i64 2) rfl (.int .i64 0) rfl) rfl (AnsH.mk' HY.out (below_setRow bel.out (Nat.le_refl _) _))
theorem i1o (s:ByteArray)(w:World)(h4:¬bt s 0=4)(hs:s.size≤1048576):Calls Tryz.prog 280 #[.string s] w (AnsH (headP s) w):=by
 by_cases h:s.size<20
 · have HY:=Lib.hid (k0o h4 h);clear h4;refine' qzb9;refine' qz4v
 refine' qzck;have n1:=d0b s 1;have l1:=o0b s 1;have n2:=d0b s 2;have l2:=o0b s 2;by_cases k1:bt s 1%64=0;rotate_left
 · have HY:=Lib.hid (e0m h4 h (.inl k1));clear h4 i2 n2 l2;refine' qzcw;refine' qzb9;refine' qz2e
 by_cases k2:31<bt s 2
 · have HY:=Lib.hid (e0m h4 h (.inr k2));clear h4;refine' qzcw;generalize bt s 2=y at *;refine' qzb9;refine' qz2e
 have HY:=Lib.hid (w0r h4 h (by unfold badR;omega))
 have PH:=Lib.hid (fun V=>i1j s V (by omega))
 clear h4;generalize hdM s=r at *;refine' qzcw;generalize bt s 2=y at *;refine' qzb9;refine' qzg;refine(PH.out _).mono ?_;refine' qz75;refine' qz37;clear hb R0 bel PH
 go_wp2_with (first|(refine e0a (b:=w.heap.size) (m:=M.zero) (m':=r) rfl _ _ rfl rfl rfl R1.out ?_))
 exact bodyPost_ret (v := .tuple #[.agg (M.cells r),.int .i64 20,.int .i64 0]) (ret3 rfl _ _ w.heap.size r rfl (R1.out.put (m':=r)) (.int .i64 20) rfl (.int .i64 0) rfl) rfl (AnsH.mk' HY.out (below_setRow bel1.out (Nat.le_refl _) _))
theorem q0c (s:ByteArray)(w:World)(h0:bt s 0=2∨bt s 0=4)(hs:s.size≤1048576):Calls Tryz.prog 233 #[.string s] w (AnsH (headP s) w):=by
 have HN:=Lib.hid (fun V=>s1f s V hs)
 have HF:=Lib.hid (fun V=>i1f s V (e1q h0) hs)
 have hm:(s.size:Int)≤1048576:=by omega
 obtain⟨⟨r,n,x⟩,hp⟩:∃ p,headP s=p:=⟨_,rfl⟩;have HY:=Lib.hid hp
 rcases h0 with h0|h0
 · have P:=Lib.hid (fun V=>i1o s V (by omega) hs)
   rw[h0]at HF;rw[hp]at P;clear h0 hs hp;generalize (s.size:Int)=z at *;refine' qzb9;refine' qzg;refine(HN.out _).mono ?_;refine' qz75;refine' qz37;clear hb R0 bel HN hz;refine' qzg;refine(HF.out _).mono ?_;refine' qz4b;refine' qzba;clear hb R1 bel1 HF;refine' qzcg;clear C;refine' qz6s;clear R2 bel2;refine' qz8i;refine' qzg;refine(P.out _).mono ?_;intro e w3 hr;obtain⟨rfl,hb⟩:=hr.at;clear hr;have R4:=Lib.hid (R3.out.below hb);have bel4:=Lib.hid (bcall bel3.out hb);clear hb R3 bel3 P;refine' qz72
 have P:=Lib.hid (fun V=>j0u s V h0 hs)
 rw[h0]at HF;rw[hp]at P;clear h0 hs hp;generalize (s.size:Int)=z at *;refine' qzb9;refine' qzg;refine(HN.out _).mono ?_;refine' qz75;refine' qz37;clear hb R0 bel HN hz;refine' qzg;refine(HF.out _).mono ?_;refine' qz4b;refine' qzba;clear hb R1 bel1 HF;refine' qzcg;clear C;refine' qz6s;clear R2 bel2;refine' qz8i;refine' qzg;refine(P.out _).mono ?_;intro e w3 hr;obtain⟨rfl,hb⟩:=hr.at;clear hr;have R4:=Lib.hid (R3.out.below hb);have bel4:=Lib.hid (bcall bel3.out hb);clear hb R3 bel3 P;refine' qz72
end Z3
end Go.Proofs.YtllhobicfclheaaGreatDoor
